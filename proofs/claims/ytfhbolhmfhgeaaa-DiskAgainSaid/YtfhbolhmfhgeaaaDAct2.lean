/-
  THE LAW'S OWN do: what is done to names.
-/
import Derived.Test.YtfhbolhmfhgeaaaDAct
namespace Go.Proofs.Ytfhbolhmfhgeaaa
set_option linter.unusedVariables false
set_option linter.unusedSimpArgs false
open Go.RowKit Go.Maps

set_option maxRecDepth 100000 in
set_option maxHeartbeats 3200000 in
theorem act_3 {U : Nat} {X : Nat → Prop} {w : World} {g r : Nat} {L : Lay} {S : St} (s r' : ByteArray) (A : Option Addr) (n c : Nat) (b : List Int) (z e : Int) (K : Option Addr) (m d : Nat) (nums : List Int)
    (hx : Ac.ok w U ⟨3, s, r', A, n, c, b, z, e, K, m, d, nums⟩) (h : DAt w X g L S) (I : Inv S) (hc : S.calls ≤ 1000) (hr : RZ w r) (hX : ∀ k, k < U → X k) (hrX : X r) (hrU : U ≤ r) (hU : U ≤ w.heap.size) (hn : n ≤ 500) (hm : m ≤ 60) :
    Calls Try.prog 13 #[.pointer (some ⟨g, 0, none⟩), .pointer (some ⟨r, 0, none⟩), .agg #[.int .i64 3, .string s, .string r', .slice A n c, .int .i64 z, .int .i64 e, .slice K m d]] w (Acted U X g w fun _ => S.syncDir.1) := by
  have hs : s.size ≤ maxLen := hx.s
  obtain ⟨T, hT⟩ : ∃ T : Nat → St, T = fun _ => S.syncDir.1 := ⟨_, rfl⟩
  rw [← hT]
  have P := act_box ⟨3, s, r', A, n, c, b, z, e, K, m, d, nums⟩ h hr hX hrX hrU hU T
  obtain ⟨vs, hvs⟩ : ∃ vs : List Value, vs = [.int .i64 3, .string s, .string r', .slice A n c, .int .i64 z, .int .i64 e, .slice K m d] := ⟨_, rfl⟩
  have hw1 : ∃ w1, w1 = w.alloc (.cells #[.int .i64 3, .string s, .string r', .slice A n c, .int .i64 z, .int .i64 e, .slice K m d] 36) := ⟨_, rfl⟩
  obtain ⟨w1, hw1⟩ := hw1
  obtain ⟨bx, hbx⟩ : ∃ bx, bx = w.heap.size := ⟨_, rfl⟩
  have P : Ph U (With X w w1) g r bx vs w1 S T false false w1 := by
    rw [hw1, hbx, hvs]
    exact P
  obtain ⟨X1, hX1⟩ : ∃ X1, X1 = With X w w1 := ⟨_, rfl⟩
  have P0 := P
  rw [← hX1] at P0
  have hsub : ∀ k, X k → X1 k := fun k hk => by rw [hX1]; exact .inl hk
  have hlow : Hid (Below U w w1) := Lib.hid (by rw [hw1]; exact (Below.refl _ _).alloc hU _)
  have hU1 : U ≤ w1.heap.size := Nat.le_trans hU hlow.out.size
  have HD : Hid (∀ (zz : Bool) (W : World), Ph U X1 g r bx vs w1 S T false zz W → Calls Try.prog 23 #[.pointer (some ⟨g, 0, none⟩)] W (fun e w' => (∃ n : Int, e = .returned (.int .i64 n)) ∧ w'.cell? ⟨bx, 0, none⟩ = some (.int .i64 3) ∧ Ph U X1 g r bx vs w1 S T true zz w')) := Lib.hid fun z' W P => by
    refine (P.d (F := 23) (args := #[ptrTo g]) (fun L hD => ?_)).mono ?_
    · rw [hT]
      exact did_syncDir hD I hc
    · rintro e w' ⟨h1, P2⟩
      have P3 := P2
      rw [hvs] at P2
      exact ⟨h1, P2.box 0 _ rfl, P3⟩
  have HX : Hid (∀ (dd : Bool) (W : World), Ph U X1 g r bx vs w1 S T dd false W → Calls Try.prog 43 #[.pointer (some ⟨r, 0, none⟩)] W (fun e w' => (∃ n : Int, e = .returned (.int .i64 n)) ∧ w'.cell? ⟨bx, 0, none⟩ = some (.int .i64 3) ∧ Ph U X1 g r bx vs w1 S T dd true w')) := Lib.hid fun dd W P => by
    refine (P.x (F := 43) (args := #[.pointer (some ⟨r, 0, none⟩)]) (fun h => rz_syncDir h) hU1 (P.lt (by rw [hvs]; simp))).mono ?_
    rintro e w' ⟨h1, P2⟩
    have P3 := P2
    rw [hvs] at P2
    exact ⟨h1, P2.box 0 _ rfl, P3⟩
  have hsub := Lib.hid hsub
  have HW := Lib.hid hw1.symm
  have HBX := Lib.hid hbx
  have hbox : Box w1 bx [.int .i64 3, .string s, .string r', .slice A n c, .int .i64 z, .int .i64 e, .slice K m d] := by
    have := P0.box
    rw [hvs] at this
    exact this
  have k0 : w1.cell? ⟨bx, 0, none⟩ = some (.int .i64 3) := hbox 0 _ rfl
  clear hbox P h hr hX hrX hrU hU hw1 hbx hX1 hvs hT hU1 hx I hc hs hn hm
  go_enter Try.func13, Try.ntmps13
  go_wp2_with fail
  rw [HW.out, ← HBX.out]
  go_wp2_with (first
    | (go_at_call 23; first
      | (refine (HD.out false _ P0).mono ?_; rintro e w2 ⟨⟨n1, rfl⟩, k0, Pd⟩)
      | (refine (HD.out true _ Px).mono ?_; rintro e w3 ⟨⟨n1, rfl⟩, k0, PP⟩))
    | (go_at_call 43; first
      | (refine (HX.out false _ P0).mono ?_; rintro e w2 ⟨⟨n2, rfl⟩, k0, Px⟩)
      | (refine (HX.out true _ Pd).mono ?_; rintro e w3 ⟨⟨n2, rfl⟩, k0, PP⟩))
    | fail)
  all_goals
    go_ret
    exact PP.acted hlow.out hsub.out _

set_option maxRecDepth 100000 in
set_option maxHeartbeats 3200000 in
theorem act_4 {U : Nat} {X : Nat → Prop} {w : World} {g r : Nat} {L : Lay} {S : St} (s r' : ByteArray) (A : Option Addr) (n c : Nat) (b : List Int) (z e : Int) (K : Option Addr) (m d : Nat) (nums : List Int)
    (hx : Ac.ok w U ⟨4, s, r', A, n, c, b, z, e, K, m, d, nums⟩) (h : DAt w X g L S) (I : Inv S) (hc : S.calls ≤ 1000) (hr : RZ w r) (hX : ∀ k, k < U → X k) (hrX : X r) (hrU : U ≤ r) (hU : U ≤ w.heap.size) (hn : n ≤ 500) (hm : m ≤ 60) :
    Calls Try.prog 13 #[.pointer (some ⟨g, 0, none⟩), .pointer (some ⟨r, 0, none⟩), .agg #[.int .i64 4, .string s, .string r', .slice A n c, .int .i64 z, .int .i64 e, .slice K m d]] w (Acted U X g w fun _ => (S.rename s.data.toList r'.data.toList).1) := by
  have hs : s.size ≤ maxLen := hx.s
  obtain ⟨T, hT⟩ : ∃ T : Nat → St, T = fun _ => (S.rename s.data.toList r'.data.toList).1 := ⟨_, rfl⟩
  rw [← hT]
  have P := act_box ⟨4, s, r', A, n, c, b, z, e, K, m, d, nums⟩ h hr hX hrX hrU hU T
  obtain ⟨vs, hvs⟩ : ∃ vs : List Value, vs = [.int .i64 4, .string s, .string r', .slice A n c, .int .i64 z, .int .i64 e, .slice K m d] := ⟨_, rfl⟩
  have hw1 : ∃ w1, w1 = w.alloc (.cells #[.int .i64 4, .string s, .string r', .slice A n c, .int .i64 z, .int .i64 e, .slice K m d] 36) := ⟨_, rfl⟩
  obtain ⟨w1, hw1⟩ := hw1
  obtain ⟨bx, hbx⟩ : ∃ bx, bx = w.heap.size := ⟨_, rfl⟩
  have P : Ph U (With X w w1) g r bx vs w1 S T false false w1 := by
    rw [hw1, hbx, hvs]
    exact P
  obtain ⟨X1, hX1⟩ : ∃ X1, X1 = With X w w1 := ⟨_, rfl⟩
  have P0 := P
  rw [← hX1] at P0
  have hsub : ∀ k, X k → X1 k := fun k hk => by rw [hX1]; exact .inl hk
  have hlow : Hid (Below U w w1) := Lib.hid (by rw [hw1]; exact (Below.refl _ _).alloc hU _)
  have hU1 : U ≤ w1.heap.size := Nat.le_trans hU hlow.out.size
  have HD : Hid (∀ (zz : Bool) (W : World), Ph U X1 g r bx vs w1 S T false zz W → Calls Try.prog 29 #[.pointer (some ⟨g, 0, none⟩), .string s, .string r'] W (fun e w' => (∃ n : Int, e = .returned (.int .i64 n)) ∧ w'.cell? ⟨bx, 0, none⟩ = some (.int .i64 4) ∧ w'.cell? ⟨bx, 1, none⟩ = some (.string s) ∧ w'.cell? ⟨bx, 2, none⟩ = some (.string r') ∧ Ph U X1 g r bx vs w1 S T true zz w')) := Lib.hid fun z' W P => by
    refine (P.d (F := 29) (args := #[ptrTo g, .string s, .string r']) (fun L hD => ?_)).mono ?_
    · rw [hT]
      exact did_rename hD I hc s r' hs hx.r
    · rintro e w' ⟨h1, P2⟩
      have P3 := P2
      rw [hvs] at P2
      exact ⟨h1, P2.box 0 _ rfl, P2.box 1 _ rfl, P2.box 2 _ rfl, P3⟩
  have HX : Hid (∀ (dd : Bool) (W : World), Ph U X1 g r bx vs w1 S T dd false W → Calls Try.prog 44 #[.pointer (some ⟨r, 0, none⟩), .string s, .string r'] W (fun e w' => (∃ n : Int, e = .returned (.int .i64 n)) ∧ w'.cell? ⟨bx, 0, none⟩ = some (.int .i64 4) ∧ w'.cell? ⟨bx, 1, none⟩ = some (.string s) ∧ w'.cell? ⟨bx, 2, none⟩ = some (.string r') ∧ Ph U X1 g r bx vs w1 S T dd true w')) := Lib.hid fun dd W P => by
    refine (P.x (F := 44) (args := #[.pointer (some ⟨r, 0, none⟩), .string s, .string r']) (fun h => rz_rename h s r') hU1 (P.lt (by rw [hvs]; simp))).mono ?_
    rintro e w' ⟨h1, P2⟩
    have P3 := P2
    rw [hvs] at P2
    exact ⟨h1, P2.box 0 _ rfl, P2.box 1 _ rfl, P2.box 2 _ rfl, P3⟩
  have hsub := Lib.hid hsub
  have HW := Lib.hid hw1.symm
  have HBX := Lib.hid hbx
  have hbox : Box w1 bx [.int .i64 4, .string s, .string r', .slice A n c, .int .i64 z, .int .i64 e, .slice K m d] := by
    have := P0.box
    rw [hvs] at this
    exact this
  have k0 : w1.cell? ⟨bx, 0, none⟩ = some (.int .i64 4) := hbox 0 _ rfl
  have k1 : w1.cell? ⟨bx, 1, none⟩ = some (.string s) := hbox 1 _ rfl
  have k2 : w1.cell? ⟨bx, 2, none⟩ = some (.string r') := hbox 2 _ rfl
  clear hbox P h hr hX hrX hrU hU hw1 hbx hX1 hvs hT hU1 hx I hc hs hn hm
  go_enter Try.func13, Try.ntmps13
  go_wp2_with fail
  rw [HW.out, ← HBX.out]
  have P0 := P0.drew
  go_region_held3 (fun w' => w'.cell? ⟨bx, 0, none⟩ = some (.int .i64 4) ∧ w'.cell? ⟨bx, 1, none⟩ = some (.string s) ∧ w'.cell? ⟨bx, 2, none⟩ = some (.string r')) (((try dsimp only); (repeat' apply And.intro) <;> first | assumption | go_keep)) (first
    | (go_at_call 29; first
      | (refine (HD.out false _ P0).mono ?_; rintro e w2 ⟨⟨n1, rfl⟩, k0, k1, k2, Pd⟩)
      | (refine (HD.out true _ Px).mono ?_; rintro e w3 ⟨⟨n1, rfl⟩, k0, k1, k2, PP⟩))
    | (go_at_call 44; first
      | (refine (HX.out false _ P0).mono ?_; rintro e w2 ⟨⟨n2, rfl⟩, k0, k1, k2, Px⟩)
      | (refine (HX.out true _ Pd).mono ?_; rintro e w3 ⟨⟨n2, rfl⟩, k0, k1, k2, PP⟩))
    | fail)
  all_goals
    go_wp2
    go_ret
    exact PP.acted hlow.out hsub.out _

set_option maxRecDepth 100000 in
set_option maxHeartbeats 3200000 in
theorem act_5 {U : Nat} {X : Nat → Prop} {w : World} {g r : Nat} {L : Lay} {S : St} (s r' : ByteArray) (A : Option Addr) (n c : Nat) (b : List Int) (z e : Int) (K : Option Addr) (m d : Nat) (nums : List Int)
    (hx : Ac.ok w U ⟨5, s, r', A, n, c, b, z, e, K, m, d, nums⟩) (h : DAt w X g L S) (I : Inv S) (hc : S.calls ≤ 1000) (hr : RZ w r) (hX : ∀ k, k < U → X k) (hrX : X r) (hrU : U ≤ r) (hU : U ≤ w.heap.size) (hn : n ≤ 500) (hm : m ≤ 60) :
    Calls Try.prog 13 #[.pointer (some ⟨g, 0, none⟩), .pointer (some ⟨r, 0, none⟩), .agg #[.int .i64 5, .string s, .string r', .slice A n c, .int .i64 z, .int .i64 e, .slice K m d]] w (Acted U X g w fun _ => (S.remove s.data.toList).1) := by
  have hs : s.size ≤ maxLen := hx.s
  obtain ⟨T, hT⟩ : ∃ T : Nat → St, T = fun _ => (S.remove s.data.toList).1 := ⟨_, rfl⟩
  rw [← hT]
  have P := act_box ⟨5, s, r', A, n, c, b, z, e, K, m, d, nums⟩ h hr hX hrX hrU hU T
  obtain ⟨vs, hvs⟩ : ∃ vs : List Value, vs = [.int .i64 5, .string s, .string r', .slice A n c, .int .i64 z, .int .i64 e, .slice K m d] := ⟨_, rfl⟩
  have hw1 : ∃ w1, w1 = w.alloc (.cells #[.int .i64 5, .string s, .string r', .slice A n c, .int .i64 z, .int .i64 e, .slice K m d] 36) := ⟨_, rfl⟩
  obtain ⟨w1, hw1⟩ := hw1
  obtain ⟨bx, hbx⟩ : ∃ bx, bx = w.heap.size := ⟨_, rfl⟩
  have P : Ph U (With X w w1) g r bx vs w1 S T false false w1 := by
    rw [hw1, hbx, hvs]
    exact P
  obtain ⟨X1, hX1⟩ : ∃ X1, X1 = With X w w1 := ⟨_, rfl⟩
  have P0 := P
  rw [← hX1] at P0
  have hsub : ∀ k, X k → X1 k := fun k hk => by rw [hX1]; exact .inl hk
  have hlow : Hid (Below U w w1) := Lib.hid (by rw [hw1]; exact (Below.refl _ _).alloc hU _)
  have hU1 : U ≤ w1.heap.size := Nat.le_trans hU hlow.out.size
  have HD : Hid (∀ (zz : Bool) (W : World), Ph U X1 g r bx vs w1 S T false zz W → Calls Try.prog 30 #[.pointer (some ⟨g, 0, none⟩), .string s] W (fun e w' => (∃ n : Int, e = .returned (.int .i64 n)) ∧ w'.cell? ⟨bx, 0, none⟩ = some (.int .i64 5) ∧ w'.cell? ⟨bx, 1, none⟩ = some (.string s) ∧ Ph U X1 g r bx vs w1 S T true zz w')) := Lib.hid fun z' W P => by
    refine (P.d (F := 30) (args := #[ptrTo g, .string s]) (fun L hD => ?_)).mono ?_
    · rw [hT]
      exact did_remove hD I hc s hs
    · rintro e w' ⟨h1, P2⟩
      have P3 := P2
      rw [hvs] at P2
      exact ⟨h1, P2.box 0 _ rfl, P2.box 1 _ rfl, P3⟩
  have HX : Hid (∀ (dd : Bool) (W : World), Ph U X1 g r bx vs w1 S T dd false W → Calls Try.prog 45 #[.pointer (some ⟨r, 0, none⟩), .string s] W (fun e w' => (∃ n : Int, e = .returned (.int .i64 n)) ∧ w'.cell? ⟨bx, 0, none⟩ = some (.int .i64 5) ∧ w'.cell? ⟨bx, 1, none⟩ = some (.string s) ∧ Ph U X1 g r bx vs w1 S T dd true w')) := Lib.hid fun dd W P => by
    refine (P.x (F := 45) (args := #[.pointer (some ⟨r, 0, none⟩), .string s]) (fun h => rz_remove h s) hU1 (P.lt (by rw [hvs]; simp))).mono ?_
    rintro e w' ⟨h1, P2⟩
    have P3 := P2
    rw [hvs] at P2
    exact ⟨h1, P2.box 0 _ rfl, P2.box 1 _ rfl, P3⟩
  have hsub := Lib.hid hsub
  have HW := Lib.hid hw1.symm
  have HBX := Lib.hid hbx
  have hbox : Box w1 bx [.int .i64 5, .string s, .string r', .slice A n c, .int .i64 z, .int .i64 e, .slice K m d] := by
    have := P0.box
    rw [hvs] at this
    exact this
  have k0 : w1.cell? ⟨bx, 0, none⟩ = some (.int .i64 5) := hbox 0 _ rfl
  have k1 : w1.cell? ⟨bx, 1, none⟩ = some (.string s) := hbox 1 _ rfl
  clear hbox P h hr hX hrX hrU hU hw1 hbx hX1 hvs hT hU1 hx I hc hs hn hm
  go_enter Try.func13, Try.ntmps13
  go_wp2_with fail
  rw [HW.out, ← HBX.out]
  have P0 := P0.drew
  go_region_held3 (fun w' => w'.cell? ⟨bx, 0, none⟩ = some (.int .i64 5) ∧ w'.cell? ⟨bx, 1, none⟩ = some (.string s)) (((try dsimp only); (repeat' apply And.intro) <;> first | assumption | go_keep)) (first
    | (go_at_call 30; first
      | (refine (HD.out false _ P0).mono ?_; rintro e w2 ⟨⟨n1, rfl⟩, k0, k1, Pd⟩)
      | (refine (HD.out true _ Px).mono ?_; rintro e w3 ⟨⟨n1, rfl⟩, k0, k1, PP⟩))
    | (go_at_call 45; first
      | (refine (HX.out false _ P0).mono ?_; rintro e w2 ⟨⟨n2, rfl⟩, k0, k1, Px⟩)
      | (refine (HX.out true _ Pd).mono ?_; rintro e w3 ⟨⟨n2, rfl⟩, k0, k1, PP⟩))
    | fail)
  all_goals
    go_wp2
    go_ret
    exact PP.acted hlow.out hsub.out _
end Go.Proofs.Ytfhbolhmfhgeaaa
