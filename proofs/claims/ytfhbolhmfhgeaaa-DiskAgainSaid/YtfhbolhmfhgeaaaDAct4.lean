/-
  THE LAW'S OWN do: the fuse and the fault; whatever it says.
-/
import Derived.Test.YtfhbolhmfhgeaaaDAct3
import Derived.Test.YtfhbolhmfhgeaaaDSureM
namespace Go.Proofs.Ytfhbolhmfhgeaaa
set_option linter.unusedVariables false
set_option linter.unusedSimpArgs false
open Go.RowKit Go.Maps

section
variable {U : Nat} {X : Nat → Prop} {g r b : Nat} {vs : List Value} {w : World} {S : St} {T : Nat → St}
theorem Ph.grown {d z : Bool} {W w' : World} (P : Ph U X g r b vs w S T d z W) (hg : W.grownBy w' (some r)) (hU : U ≤ w.heap.size) (hb : b < W.heap.size) : Ph U X g r b vs w S T d true w' := by
  refine ⟨fun j v hv => ?_, ?_, (fun hz => nomatch hz), ?_, P.bX, P.rX, P.ne, P.rU, P.uX⟩
  · exact (World.cell?_of_block (a := ⟨b, j, none⟩) (hg.block b hb (fun e => P.ne (by injection e)))).trans (P.box j v hv)
  · have h0 := P.dat
    have hr : ∀ j, some r = some j → X j := fun j e => by cases e; exact P.rX
    by_cases hd : d = true
    · rw [if_pos hd] at h0 ⊢
      obtain ⟨c, L, hD⟩ := h0
      exact ⟨c, L, hD.foreign hg hr⟩
    · rw [if_neg hd] at h0 ⊢
      obtain ⟨L, hD⟩ := h0
      exact ⟨L, hD.foreign hg hr⟩
  · have := P.low.size
    refine P.low.trans ⟨hg.os, hg.tape, hg.output, hg.size, fun k hk => hg.block k (by omega) (fun e => by injection e with e; have := P.rU; omega)⟩
theorem Ph.dE {F : FuncId} {args : Array Value} {z : Bool} {W : World} {E : Ending} (P : Ph U X g r b vs w S T false z W) (h : ∀ L, DAt W X g L S → Calls Try.prog F args W fun e w' => e = E ∧ (∃ c L', DAt w' X g L' (T c)) ∧ Keeps X W w') :
    Calls Try.prog F args W fun e w' => e = E ∧ Ph U X g r b vs w S T true z w' := by
  have h0 := P.dat
  rw [if_neg Bool.false_ne_true] at h0
  obtain ⟨L, hD⟩ := h0
  refine (h L hD).mono ?_
  rintro e w' ⟨h1, ⟨c, L', h2⟩, h3⟩
  refine ⟨h1, ⟨fun j v hv => ?_, ?_, fun hz => ?_, ?_, P.bX, P.rX, P.ne, P.rU, P.uX⟩⟩
  · exact (World.cell?_of_block (a := ⟨b, j, none⟩) (h3.block b P.bX)).trans (P.box j v hv)
  · rw [if_pos rfl]
    exact ⟨c, L', h2⟩
  · exact h3.blk (P.rz hz) P.rX
  · exact P.low.trans (h3.below P.uX)
end

set_option maxRecDepth 100000 in
set_option maxHeartbeats 1600000 in
theorem act_6 {U : Nat} {X : Nat → Prop} {w : World} {g r : Nat} {L : Lay} {S : St} (s r' : ByteArray) (A : Option Addr) (n c : Nat) (b : List Int) (z ee : Int) (K : Option Addr) (m d : Nat) (nums : List Int)
    (h : DAt w X g L S) (hc : S.calls ≤ 1000) (hr : RZ w r) (hX : ∀ k, k < U → X k) (hrX : X r) (hrU : U ≤ r) (hU : U ≤ w.heap.size) :
    Calls Try.prog 13 #[.pointer (some ⟨g, 0, none⟩), .pointer (some ⟨r, 0, none⟩), .agg #[.int .i64 6, .string s, .string r', .slice A n c, .int .i64 z, .int .i64 ee, .slice K m d]] w (Acted U X g w fun _ => { S with fuse := armN z S.calls }) := by
  obtain ⟨T, hT⟩ : ∃ T : Nat → St, T = fun _ => { S with fuse := armN z S.calls } := ⟨_, rfl⟩
  rw [← hT]
  have P := act_box ⟨6, s, r', A, n, c, b, z, ee, K, m, d, nums⟩ h hr hX hrX hrU hU T
  obtain ⟨vs, hvs⟩ : ∃ vs : List Value, vs = [.int .i64 6, .string s, .string r', .slice A n c, .int .i64 z, .int .i64 ee, .slice K m d] := ⟨_, rfl⟩
  have hw1 : ∃ w1, w1 = w.alloc (.cells #[.int .i64 6, .string s, .string r', .slice A n c, .int .i64 z, .int .i64 ee, .slice K m d] 36) := ⟨_, rfl⟩
  obtain ⟨w1, hw1⟩ := hw1
  obtain ⟨bx, hbx⟩ : ∃ bx, bx = w.heap.size := ⟨_, rfl⟩
  have P : Ph U (With X w w1) g r bx vs w1 S T false false w1 := by
    rw [hw1, hbx, hvs]
    exact P
  obtain ⟨X1, hX1⟩ : ∃ X1, X1 = With X w w1 := ⟨_, rfl⟩
  have P0 := P
  rw [← hX1] at P0
  have hsub : ∀ k, X k → X1 k := fun k hk => by rw [hX1]; exact .inl hk
  have hlow : Hid (Below U w w1) := Lib.hid (by rw [hw1]; exact (Below.refl _ _).alloc hU _)
  have hU1 : U ≤ w1.heap.size := Nat.le_trans hU hlow.out.size
  have HU1 := Lib.hid hU1
  have HD : Hid (Calls Try.prog 24 #[.pointer (some ⟨g, 0, none⟩), .int .i64 z] w1 fun e w' => e = .returned (.tuple #[]) ∧ w'.cell? ⟨bx, 4, none⟩ = some (.int .i64 z) ∧ RZ w' r ∧ Ph U X1 g r bx vs w1 S T true false w') := Lib.hid (by
    refine (P0.dE (E := .returned (.tuple #[])) (F := 24) (args := #[ptrTo g, .int .i64 z]) (fun L hD => ?_)).mono ?_
    · rw [hT]
      exact (fuse_any hD z (by omega)).mono fun e w' ⟨e1, e2, e3⟩ => ⟨e1, ⟨0, L, e2⟩, e3⟩
    · rintro e w' ⟨h1, P2⟩
      have P3 := P2
      rw [hvs] at P2
      exact ⟨h1, P2.box 4 _ rfl, P3.rz rfl, P3⟩)
  have HLT : Hid (∀ W, Ph U X1 g r bx vs w1 S T true false W → bx < W.heap.size) := Lib.hid fun W P => P.lt (by rw [hvs]; simp)
  have hsub := Lib.hid hsub
  have HW := Lib.hid hw1.symm
  have HBX := Lib.hid hbx
  have hbox : Box w1 bx [.int .i64 6, .string s, .string r', .slice A n c, .int .i64 z, .int .i64 ee, .slice K m d] := by
    have := P0.box
    rw [hvs] at this
    exact this
  have k0 : w1.cell? ⟨bx, 0, none⟩ = some (.int .i64 6) := hbox 0 _ rfl
  have k4 : w1.cell? ⟨bx, 4, none⟩ = some (.int .i64 z) := hbox 4 _ rfl
  clear hbox P h hr hX hrX hrU hU hw1 hbx hX1 hvs hT hU1 hc P0
  go_enter Try.func13, Try.ntmps13
  go_wp2_with fail
  rw [HW.out, ← HBX.out]
  go_wp2_with (first
    | (go_at_call 24; refine HD.out.mono ?_; rintro e w2 ⟨rfl, k4, hz, P2⟩; have c7 : w2.cell? ⟨r, 7, none⟩ = some (.int .i64 0) := hz.cell 7; have f7 := hz.nf 7; have HZ := Lib.hid hz; clear hz)
    | (go_at_call 46; refine (arm_any _ _).mono ?_; rintro e w3 ⟨⟨n3, rfl⟩, rfl⟩)
    | fail)
  all_goals
    go_ret
    exact (P2.grown (grown_set _ r 7 _) HU1.out (HLT.out _ P2)).acted hlow.out hsub.out _

set_option maxRecDepth 100000 in
set_option maxHeartbeats 1600000 in
theorem act_7 {U : Nat} {X : Nat → Prop} {w : World} {g r : Nat} {L : Lay} {S : St} (s r' : ByteArray) (A : Option Addr) (n c : Nat) (b : List Int) (z ee : Int) (K : Option Addr) (m d : Nat) (nums : List Int)
    (h : DAt w X g L S) (hc : S.calls ≤ 1000) (hr : RZ w r) (hX : ∀ k, k < U → X k) (hrX : X r) (hrU : U ≤ r) (hU : U ≤ w.heap.size) :
    Calls Try.prog 13 #[.pointer (some ⟨g, 0, none⟩), .pointer (some ⟨r, 0, none⟩), .agg #[.int .i64 7, .string s, .string r', .slice A n c, .int .i64 z, .int .i64 ee, .slice K m d]] w (Acted U X g w fun _ => { S with fault := faultN z ee S.calls, fe := ee }) := by
  obtain ⟨T, hT⟩ : ∃ T : Nat → St, T = fun _ => { S with fault := faultN z ee S.calls, fe := ee } := ⟨_, rfl⟩
  rw [← hT]
  have P := act_box ⟨7, s, r', A, n, c, b, z, ee, K, m, d, nums⟩ h hr hX hrX hrU hU T
  obtain ⟨vs, hvs⟩ : ∃ vs : List Value, vs = [.int .i64 7, .string s, .string r', .slice A n c, .int .i64 z, .int .i64 ee, .slice K m d] := ⟨_, rfl⟩
  have hw1 : ∃ w1, w1 = w.alloc (.cells #[.int .i64 7, .string s, .string r', .slice A n c, .int .i64 z, .int .i64 ee, .slice K m d] 36) := ⟨_, rfl⟩
  obtain ⟨w1, hw1⟩ := hw1
  obtain ⟨bx, hbx⟩ : ∃ bx, bx = w.heap.size := ⟨_, rfl⟩
  have P : Ph U (With X w w1) g r bx vs w1 S T false false w1 := by
    rw [hw1, hbx, hvs]
    exact P
  obtain ⟨X1, hX1⟩ : ∃ X1, X1 = With X w w1 := ⟨_, rfl⟩
  have P0 := P
  rw [← hX1] at P0
  have hsub : ∀ k, X k → X1 k := fun k hk => by rw [hX1]; exact .inl hk
  have hlow : Hid (Below U w w1) := Lib.hid (by rw [hw1]; exact (Below.refl _ _).alloc hU _)
  have hU1 : U ≤ w1.heap.size := Nat.le_trans hU hlow.out.size
  have HU1 := Lib.hid hU1
  have HD : Hid (Calls Try.prog 28 #[.pointer (some ⟨g, 0, none⟩), .int .i64 z, .int .i64 ee] w1 fun e w' => e = .returned (.tuple #[]) ∧ w'.cell? ⟨bx, 4, none⟩ = some (.int .i64 z) ∧ w'.cell? ⟨bx, 5, none⟩ = some (.int .i64 ee) ∧ RZ w' r ∧ Ph U X1 g r bx vs w1 S T true false w') := Lib.hid (by
    refine (P0.dE (E := .returned (.tuple #[])) (F := 28) (args := #[ptrTo g, .int .i64 z, .int .i64 ee]) (fun L hD => ?_)).mono ?_
    · rw [hT]
      exact (fault_any hD z ee (by omega)).mono fun e w' ⟨e1, e2, e3⟩ => ⟨e1, ⟨0, L, e2⟩, e3⟩
    · rintro e w' ⟨h1, P2⟩
      have P3 := P2
      rw [hvs] at P2
      exact ⟨h1, P2.box 4 _ rfl, P2.box 5 _ rfl, P3.rz rfl, P3⟩)
  have HLT : Hid (∀ W, Ph U X1 g r bx vs w1 S T true false W → bx < W.heap.size) := Lib.hid fun W P => P.lt (by rw [hvs]; simp)
  have hsub := Lib.hid hsub
  have HW := Lib.hid hw1.symm
  have HBX := Lib.hid hbx
  have hbox : Box w1 bx [.int .i64 7, .string s, .string r', .slice A n c, .int .i64 z, .int .i64 ee, .slice K m d] := by
    have := P0.box
    rw [hvs] at this
    exact this
  have k0 : w1.cell? ⟨bx, 0, none⟩ = some (.int .i64 7) := hbox 0 _ rfl
  have k4 : w1.cell? ⟨bx, 4, none⟩ = some (.int .i64 z) := hbox 4 _ rfl
  have k5 : w1.cell? ⟨bx, 5, none⟩ = some (.int .i64 ee) := hbox 5 _ rfl
  clear hbox P h hr hX hrX hrU hU hw1 hbx hX1 hvs hT hU1 hc P0
  go_enter Try.func13, Try.ntmps13
  go_wp2_with fail
  rw [HW.out, ← HBX.out]
  go_wp2_with (first
    | (go_at_call 28; refine HD.out.mono ?_; rintro e w2 ⟨rfl, k4, k5, hz, P2⟩; have c7 : w2.cell? ⟨r, 7, none⟩ = some (.int .i64 0) := hz.cell 7; have f7 := hz.nf 7; have HZ := Lib.hid hz; clear hz)
    | (go_at_call 47; refine (rz_fault HZ.out z ee).mono ?_; rintro e3 w3 ⟨rfl, g3⟩)
    | fail)
  all_goals
    go_ret
    exact (P2.grown g3 HU1.out (HLT.out _ P2)).acted hlow.out hsub.out _

set_option maxRecDepth 100000 in
set_option maxHeartbeats 1600000 in
theorem act_none {U : Nat} {X : Nat → Prop} {w : World} {g r : Nat} {L : Lay} {S : St} (kind : Int) (s r' : ByteArray) (A : Option Addr) (n c : Nat) (z ee : Int) (K : Option Addr) (m d : Nat)
    (h : DAt w X g L S) (hU : U ≤ w.heap.size) (hk : kind < 0 ∨ 8 < kind) :
    Calls Try.prog 13 #[.pointer (some ⟨g, 0, none⟩), .pointer (some ⟨r, 0, none⟩), .agg #[.int .i64 kind, .string s, .string r', .slice A n c, .int .i64 z, .int .i64 ee, .slice K m d]] w (Acted U X g w fun _ => S) := by
  have k0 : (kind == 0) = false := by simp; omega
  have k1 : (kind == 1) = false := by simp; omega
  have k2 : (kind == 2) = false := by simp; omega
  have k3 : (kind == 3) = false := by simp; omega
  have k4 : (kind == 4) = false := by simp; omega
  have k5 : (kind == 5) = false := by simp; omega
  have k6 : (kind == 6) = false := by simp; omega
  have k7 : (kind == 7) = false := by simp; omega
  have k8 : (kind == 8) = false := by simp; omega
  have HD := Lib.hid h
  have HU := Lib.hid hU
  clear h hU hk
  go_enter Try.func13, Try.ntmps13
  go_wp2_with fail
  go_ret
  exact ⟨⟨_, rfl⟩, ⟨0, L, HD.out.alloc _⟩, (Below.refl _ _).alloc HU.out _⟩
theorem act_any {U : Nat} {X : Nat → Prop} {w : World} {g r : Nat} {L : Lay} {S : St} (x : Ac) (hx : x.ok w U) (h : DAt w X g L S) (I : Inv S) (hc : S.calls ≤ 1000) (hr : RZ w r) (hX : ∀ k, k < U → X k) (hrX : X r) (hrU : U ≤ r) (hU : U ≤ w.heap.size)
    (hs : x.s.size ≤ 100 ∧ x.r.size ≤ 100 ∧ x.n ≤ 500 ∧ x.m ≤ 60) :
    Calls Try.prog 13 #[.pointer (some ⟨g, 0, none⟩), .pointer (some ⟨r, 0, none⟩), .agg x.vals.toArray] w (Acted U X g w (S.act x)) := by
  obtain ⟨kind, s, r', A, n', c, b, z, e, K, m, d, nums⟩ := x
  by_cases hk : kind < 0 ∨ 8 < kind
  · have hT : S.act ⟨kind, s, r', A, n', c, b, z, e, K, m, d, nums⟩ = fun _ => S := by
      funext c
      unfold St.act
      rw [if_neg (by show ¬ kind = 0; omega), if_neg (by show ¬ kind = 1; omega), if_neg (by show ¬ kind = 2; omega), if_neg (by show ¬ kind = 3; omega), if_neg (by show ¬ kind = 4; omega), if_neg (by show ¬ kind = 5; omega), if_neg (by show ¬ kind = 6; omega), if_neg (by show ¬ kind = 7; omega), if_neg (by show ¬ kind = 8; omega)]
    rw [hT]
    exact act_none kind s r' A n' c z e K m d h hU hk
  · have hk' : kind = 0 ∨ kind = 1 ∨ kind = 2 ∨ kind = 3 ∨ kind = 4 ∨ kind = 5 ∨ kind = 6 ∨ kind = 7 ∨ kind = 8 := by omega
    rcases hk' with rfl | rfl | rfl | rfl | rfl | rfl | rfl | rfl | rfl
    · exact act_0 s r' A n' c b z e K m d nums hx h I hc hr hX hrX hrU hU hs.2.2.1 hs.2.2.2
    · exact act_1 s r' A n' c b z e K m d nums hx h I hc hr hX hrX hrU hU hs.2.2.1 hs.2.2.2
    · exact act_2 s r' A n' c b z e K m d nums hx h I hc hr hX hrX hrU hU hs.2.2.1 hs.2.2.2
    · exact act_3 s r' A n' c b z e K m d nums hx h I hc hr hX hrX hrU hU hs.2.2.1 hs.2.2.2
    · exact act_4 s r' A n' c b z e K m d nums hx h I hc hr hX hrX hrU hU hs.2.2.1 hs.2.2.2
    · exact act_5 s r' A n' c b z e K m d nums hx h I hc hr hX hrX hrU hU hs.2.2.1 hs.2.2.2
    · exact act_6 s r' A n' c b z e K m d nums h hc hr hX hrX hrU hU
    · exact act_7 s r' A n' c b z e K m d nums h hc hr hX hrX hrU hU
    · exact act_8 s r' A n' c b z e K m d nums hx h I hc hr hX hrX hrU hU hs.2.2.1 hs.2.2.2
theorem Inv.act {S : St} (h : Inv S) (x : Ac) (hb : x.b.length ≤ 500) (c : Nat) : Inv (S.act x c) := by
  unfold St.act
  split
  · exact h.create _ _
  · split
    · exact h.append _ _ hb
    · split
      · exact h.sync _
      · split
        · exact h.syncDir
        · split
          · exact h.rename _ _
          · split
            · exact h.remove _
            · split
              · exact h.like rfl rfl rfl rfl rfl (Nat.le_refl _)
              · split
                · exact h.like rfl rfl rfl rfl rfl (Nat.le_refl _)
                · split
                  · exact h.boot _ _
                  · exact h
theorem act_calls (S : St) (x : Ac) (c : Nat) : (S.act x c).calls ≤ S.calls + 1 := by
  have hb := (begun_le S).2
  unfold St.act
  split
  · have := (same3_create S x.s.data.toList c).2.2; omega
  · split
    · have := (same3_append S x.s.data.toList x.b).2.2; omega
    · split
      · have := (same3_sync S x.s.data.toList).2.2; omega
      · split
        · have := (same3_syncDir S).2.2; omega
        · split
          · have := (same3_rename S x.s.data.toList x.r.data.toList).2.2; omega
          · split
            · have := (same3_remove S x.s.data.toList).2.2; omega
            · split
              · exact Nat.le_succ _
              · split
                · exact Nat.le_succ _
                · split
                  · unfold St.boot
                    split <;> exact Nat.le_succ _
                  · exact Nat.le_succ _
end Go.Proofs.Ytfhbolhmfhgeaaa
