/-
  THE LAW'S OWN do, ON A NEW DISK OF THE DOCUMENT'S: whatever it says.
-/
import Derived.Test.YtfhbolhmfhgeaaaDPhase
namespace Go.Proofs.Ytfhbolhmfhgeaaa
set_option linter.unusedVariables false
set_option linter.unusedSimpArgs false
open Go.RowKit Go.Maps

/-- A disk behind an act; b is where a new file lies. -/
def St.act (S : St) (x : Ac) (b : Nat) : St :=
  if x.kind = 0 then (S.create x.s.data.toList b).1 else if x.kind = 1 then (S.append x.s.data.toList x.b).1 else if x.kind = 2 then (S.sync x.s.data.toList).1 else if x.kind = 3 then S.syncDir.1
  else if x.kind = 4 then (S.rename x.s.data.toList x.r.data.toList).1 else if x.kind = 5 then (S.remove x.s.data.toList).1 else if x.kind = 6 then { S with fuse := armN x.z S.calls }
  else if x.kind = 7 then { S with fault := faultN x.z x.e S.calls, fe := x.e } else if x.kind = 8 then (S.boot x.z x.nums).1 else S
/-- What holds behind do. -/
def Acted (U : Nat) (X : Nat → Prop) (g : Nat) (w : World) (T : Nat → St) (e : Ending) (w' : World) : Prop := (∃ v : Bool, e = .returned (.bool v)) ∧ (∃ b L', DAt w' X g L' (T b)) ∧ Below U w w'
theorem Ph.acted {U : Nat} {X Y : Nat → Prop} {g r b : Nat} {vs : List Value} {w0 w : World} {S : St} {T : Nat → St} {z : Bool} {W : World} (P : Ph U X g r b vs w S T true z W) (hb : Below U w0 w) (hY : ∀ k, Y k → X k) (v : Bool) : Acted U Y g w0 T (.returned (.bool v)) W := by
  have h0 := P.dat
  rw [if_pos rfl] at h0
  obtain ⟨c, L, hD⟩ := h0
  exact ⟨⟨v, rfl⟩, ⟨c, L, hD.fewer hY⟩, hb.trans P.low⟩
/-- The act's box is made. -/
theorem act_box {U : Nat} {X : Nat → Prop} {w : World} {g r : Nat} {L : Lay} {S : St} (x : Ac) (h : DAt w X g L S) (hr : RZ w r) (hX : ∀ k, k < U → X k) (hrX : X r) (hrU : U ≤ r) (hU : U ≤ w.heap.size) (T : Nat → St) :
    Ph U (With X w (w.alloc (.cells x.vals.toArray 36))) g r w.heap.size x.vals (w.alloc (.cells x.vals.toArray 36)) S T false false (w.alloc (.cells x.vals.toArray 36)) := by
  have hs : (w.alloc (.cells x.vals.toArray 36)).heap.size = w.heap.size + 1 := by simp
  have hlt := hr.lt
  refine ⟨fun j v hv => ?_, ?_, fun _ => ?_, Below.refl _ _, .inr ⟨Nat.le_refl _, by omega⟩, .inl hrX, by omega, hrU, fun k hk => .inl (hX k hk)⟩
  · rw [World.cell?_alloc_at _ _ _ _ rfl]
    simpa using hv
  · rw [if_neg Bool.false_ne_true]
    exact ⟨L, h.box _⟩
  · exact Blk.stay hr (Below.heap_alloc _ _ r hlt)

set_option maxRecDepth 100000 in
set_option maxHeartbeats 3200000 in
theorem act_0 {U : Nat} {X : Nat → Prop} {w : World} {g r : Nat} {L : Lay} {S : St} (s r' : ByteArray) (A : Option Addr) (n c : Nat) (b : List Int) (z e : Int) (K : Option Addr) (m d : Nat) (nums : List Int)
    (hx : Ac.ok w U ⟨0, s, r', A, n, c, b, z, e, K, m, d, nums⟩) (h : DAt w X g L S) (I : Inv S) (hc : S.calls ≤ 1000) (hr : RZ w r) (hX : ∀ k, k < U → X k) (hrX : X r) (hrU : U ≤ r) (hU : U ≤ w.heap.size) (hn : n ≤ 500) (hm : m ≤ 60) :
    Calls Try.prog 13 #[.pointer (some ⟨g, 0, none⟩), .pointer (some ⟨r, 0, none⟩), .agg #[.int .i64 0, .string s, .string r', .slice A n c, .int .i64 z, .int .i64 e, .slice K m d]] w (Acted U X g w fun b => (S.create s.data.toList b).1) := by
  have hs : s.size ≤ maxLen := hx.s
  obtain ⟨T, hT⟩ : ∃ T : Nat → St, T = fun b => (S.create s.data.toList b).1 := ⟨_, rfl⟩
  rw [← hT]
  have P := act_box ⟨0, s, r', A, n, c, b, z, e, K, m, d, nums⟩ h hr hX hrX hrU hU T
  obtain ⟨vs, hvs⟩ : ∃ vs : List Value, vs = [.int .i64 0, .string s, .string r', .slice A n c, .int .i64 z, .int .i64 e, .slice K m d] := ⟨_, rfl⟩
  have hw1 : ∃ w1, w1 = w.alloc (.cells #[.int .i64 0, .string s, .string r', .slice A n c, .int .i64 z, .int .i64 e, .slice K m d] 36) := ⟨_, rfl⟩
  obtain ⟨w1, hw1⟩ := hw1
  obtain ⟨bx, hbx⟩ : ∃ bx, bx = w.heap.size := ⟨_, rfl⟩
  have P : Ph U (With X w w1) g r bx vs w1 S T false false w1 := by
    rw [hw1, hbx, hvs]
    exact P
  obtain ⟨X1, hX1⟩ : ∃ X1, X1 = With X w w1 := ⟨_, rfl⟩
  have P0 := P
  rw [← hX1] at P0
  have hsub : ∀ k, X k → X1 k := fun k hk => by rw [hX1]; exact .inl hk
  have hlow : Hid (Below U w w1) := Lib.hid (by rw [hw1]; exact (Below.refl _ _).alloc hU _)
  have hU1 : U ≤ w1.heap.size := Nat.le_trans hU hlow.out.size
  have HD : Hid (∀ (zz : Bool) (W : World), Ph U X1 g r bx vs w1 S T false zz W → Calls Try.prog 20 #[.pointer (some ⟨g, 0, none⟩), .string s] W (fun e w' => (∃ n : Int, e = .returned (.int .i64 n)) ∧ w'.cell? ⟨bx, 0, none⟩ = some (.int .i64 0) ∧ w'.cell? ⟨bx, 1, none⟩ = some (.string s) ∧ Ph U X1 g r bx vs w1 S T true zz w')) := Lib.hid fun z' W P => by
    refine (P.d (F := 20) (args := #[ptrTo g, .string s]) (fun L hD => ?_)).mono ?_
    · rw [hT]
      exact did_create hD I hc s hs
    · rintro e w' ⟨h1, P2⟩
      have P3 := P2
      rw [hvs] at P2
      exact ⟨h1, P2.box 0 _ rfl, P2.box 1 _ rfl, P3⟩
  have HX : Hid (∀ (dd : Bool) (W : World), Ph U X1 g r bx vs w1 S T dd false W → Calls Try.prog 40 #[.pointer (some ⟨r, 0, none⟩), .string s] W (fun e w' => (∃ n : Int, e = .returned (.int .i64 n)) ∧ w'.cell? ⟨bx, 0, none⟩ = some (.int .i64 0) ∧ w'.cell? ⟨bx, 1, none⟩ = some (.string s) ∧ Ph U X1 g r bx vs w1 S T dd true w')) := Lib.hid fun dd W P => by
    refine (P.x (F := 40) (args := #[.pointer (some ⟨r, 0, none⟩), .string s]) (fun h => rz_create h s hs) hU1 (P.lt (by rw [hvs]; simp))).mono ?_
    rintro e w' ⟨h1, P2⟩
    have P3 := P2
    rw [hvs] at P2
    exact ⟨h1, P2.box 0 _ rfl, P2.box 1 _ rfl, P3⟩
  have hsub := Lib.hid hsub
  have HW := Lib.hid hw1.symm
  have HBX := Lib.hid hbx
  have hbox : Box w1 bx [.int .i64 0, .string s, .string r', .slice A n c, .int .i64 z, .int .i64 e, .slice K m d] := by
    have := P0.box
    rw [hvs] at this
    exact this
  have k0 : w1.cell? ⟨bx, 0, none⟩ = some (.int .i64 0) := hbox 0 _ rfl
  have k1 : w1.cell? ⟨bx, 1, none⟩ = some (.string s) := hbox 1 _ rfl
  clear hbox P h hr hX hrX hrU hU hw1 hbx hX1 hvs hT hU1 hx I hc hs hn hm
  go_enter Try.func13, Try.ntmps13
  go_wp2_with fail
  rw [HW.out, ← HBX.out]
  have P0 := P0.drew
  go_region_held3 (fun w' => w'.cell? ⟨bx, 0, none⟩ = some (.int .i64 0) ∧ w'.cell? ⟨bx, 1, none⟩ = some (.string s)) (((try dsimp only); (repeat' apply And.intro) <;> first | assumption | go_keep)) (first
    | (go_at_call 20; first
      | (refine (HD.out false _ P0).mono ?_; rintro e w2 ⟨⟨n1, rfl⟩, k0, k1, Pd⟩)
      | (refine (HD.out true _ Px).mono ?_; rintro e w3 ⟨⟨n1, rfl⟩, k0, k1, PP⟩))
    | (go_at_call 40; first
      | (refine (HX.out false _ P0).mono ?_; rintro e w2 ⟨⟨n2, rfl⟩, k0, k1, Px⟩)
      | (refine (HX.out true _ Pd).mono ?_; rintro e w3 ⟨⟨n2, rfl⟩, k0, k1, PP⟩))
    | fail)
  all_goals
    go_wp2
    go_ret
    exact PP.acted hlow.out hsub.out _

set_option maxRecDepth 100000 in
set_option maxHeartbeats 3200000 in
theorem act_1 {U : Nat} {X : Nat → Prop} {w : World} {g r : Nat} {L : Lay} {S : St} (s r' : ByteArray) (A : Option Addr) (n c : Nat) (b : List Int) (z e : Int) (K : Option Addr) (m d : Nat) (nums : List Int)
    (hx : Ac.ok w U ⟨1, s, r', A, n, c, b, z, e, K, m, d, nums⟩) (h : DAt w X g L S) (I : Inv S) (hc : S.calls ≤ 1000) (hr : RZ w r) (hX : ∀ k, k < U → X k) (hrX : X r) (hrU : U ≤ r) (hU : U ≤ w.heap.size) (hn : n ≤ 500) (hm : m ≤ 60) :
    Calls Try.prog 13 #[.pointer (some ⟨g, 0, none⟩), .pointer (some ⟨r, 0, none⟩), .agg #[.int .i64 1, .string s, .string r', .slice A n c, .int .i64 z, .int .i64 e, .slice K m d]] w (Acted U X g w fun _ => (S.append s.data.toList b).1) := by
  have hs : s.size ≤ maxLen := hx.s
  obtain ⟨T, hT⟩ : ∃ T : Nat → St, T = fun _ => (S.append s.data.toList b).1 := ⟨_, rfl⟩
  rw [← hT]
  have P := act_box ⟨1, s, r', A, n, c, b, z, e, K, m, d, nums⟩ h hr hX hrX hrU hU T
  obtain ⟨vs, hvs⟩ : ∃ vs : List Value, vs = [.int .i64 1, .string s, .string r', .slice A n c, .int .i64 z, .int .i64 e, .slice K m d] := ⟨_, rfl⟩
  have hw1 : ∃ w1, w1 = w.alloc (.cells #[.int .i64 1, .string s, .string r', .slice A n c, .int .i64 z, .int .i64 e, .slice K m d] 36) := ⟨_, rfl⟩
  obtain ⟨w1, hw1⟩ := hw1
  obtain ⟨bx, hbx⟩ : ∃ bx, bx = w.heap.size := ⟨_, rfl⟩
  have P : Ph U (With X w w1) g r bx vs w1 S T false false w1 := by
    rw [hw1, hbx, hvs]
    exact P
  obtain ⟨X1, hX1⟩ : ∃ X1, X1 = With X w w1 := ⟨_, rfl⟩
  have P0 := P
  rw [← hX1] at P0
  have hsub : ∀ k, X k → X1 k := fun k hk => by rw [hX1]; exact .inl hk
  have hlow : Hid (Below U w w1) := Lib.hid (by rw [hw1]; exact (Below.refl _ _).alloc hU _)
  have hU1 : U ≤ w1.heap.size := Nat.le_trans hU hlow.out.size
  have HD : Hid (∀ (zz : Bool) (W : World), Ph U X1 g r bx vs w1 S T false zz W → Calls Try.prog 21 #[.pointer (some ⟨g, 0, none⟩), .string s, .slice A n c] W (fun e w' => (∃ n : Int, e = .returned (.int .i64 n)) ∧ w'.cell? ⟨bx, 0, none⟩ = some (.int .i64 1) ∧ w'.cell? ⟨bx, 1, none⟩ = some (.string s) ∧ w'.cell? ⟨bx, 3, none⟩ = some (.slice A n c) ∧ Ph U X1 g r bx vs w1 S T true zz w')) := Lib.hid fun z' W P => by
    refine (P.d (F := 21) (args := #[ptrTo g, .string s, .slice A n c]) (fun L hD => ?_)).mono ?_
    · rw [hT]
      exact did_append hD I hc s hs A n c b (shX_of (hx.b.below (hlow.out.trans P.low)) P.uX) hn
    · rintro e w' ⟨h1, P2⟩
      have P3 := P2
      rw [hvs] at P2
      exact ⟨h1, P2.box 0 _ rfl, P2.box 1 _ rfl, P2.box 3 _ rfl, P3⟩
  have HX : Hid (∀ (dd : Bool) (W : World), Ph U X1 g r bx vs w1 S T dd false W → Calls Try.prog 41 #[.pointer (some ⟨r, 0, none⟩), .string s, .slice A n c] W (fun e w' => (∃ n : Int, e = .returned (.int .i64 n)) ∧ w'.cell? ⟨bx, 0, none⟩ = some (.int .i64 1) ∧ w'.cell? ⟨bx, 1, none⟩ = some (.string s) ∧ w'.cell? ⟨bx, 3, none⟩ = some (.slice A n c) ∧ Ph U X1 g r bx vs w1 S T dd true w')) := Lib.hid fun dd W P => by
    refine (P.x (F := 41) (args := #[.pointer (some ⟨r, 0, none⟩), .string s, .slice A n c]) (fun h => rz_append h s _) hU1 (P.lt (by rw [hvs]; simp))).mono ?_
    rintro e w' ⟨h1, P2⟩
    have P3 := P2
    rw [hvs] at P2
    exact ⟨h1, P2.box 0 _ rfl, P2.box 1 _ rfl, P2.box 3 _ rfl, P3⟩
  have hsub := Lib.hid hsub
  have HW := Lib.hid hw1.symm
  have HBX := Lib.hid hbx
  have hbox : Box w1 bx [.int .i64 1, .string s, .string r', .slice A n c, .int .i64 z, .int .i64 e, .slice K m d] := by
    have := P0.box
    rw [hvs] at this
    exact this
  have k0 : w1.cell? ⟨bx, 0, none⟩ = some (.int .i64 1) := hbox 0 _ rfl
  have k1 : w1.cell? ⟨bx, 1, none⟩ = some (.string s) := hbox 1 _ rfl
  have k3 : w1.cell? ⟨bx, 3, none⟩ = some (.slice A n c) := hbox 3 _ rfl
  clear hbox P h hr hX hrX hrU hU hw1 hbx hX1 hvs hT hU1 hx I hc hs hn hm
  go_enter Try.func13, Try.ntmps13
  go_wp2_with fail
  rw [HW.out, ← HBX.out]
  have P0 := P0.drew
  go_region_held3 (fun w' => w'.cell? ⟨bx, 0, none⟩ = some (.int .i64 1) ∧ w'.cell? ⟨bx, 1, none⟩ = some (.string s) ∧ w'.cell? ⟨bx, 3, none⟩ = some (.slice A n c)) (((try dsimp only); (repeat' apply And.intro) <;> first | assumption | go_keep)) (first
    | (go_at_call 21; first
      | (refine (HD.out false _ P0).mono ?_; rintro e w2 ⟨⟨n1, rfl⟩, k0, k1, k3, Pd⟩)
      | (refine (HD.out true _ Px).mono ?_; rintro e w3 ⟨⟨n1, rfl⟩, k0, k1, k3, PP⟩))
    | (go_at_call 41; first
      | (refine (HX.out false _ P0).mono ?_; rintro e w2 ⟨⟨n2, rfl⟩, k0, k1, k3, Px⟩)
      | (refine (HX.out true _ Pd).mono ?_; rintro e w3 ⟨⟨n2, rfl⟩, k0, k1, k3, PP⟩))
    | fail)
  all_goals
    go_wp2
    go_ret
    exact PP.acted hlow.out hsub.out _

set_option maxRecDepth 100000 in
set_option maxHeartbeats 3200000 in
theorem act_2 {U : Nat} {X : Nat → Prop} {w : World} {g r : Nat} {L : Lay} {S : St} (s r' : ByteArray) (A : Option Addr) (n c : Nat) (b : List Int) (z e : Int) (K : Option Addr) (m d : Nat) (nums : List Int)
    (hx : Ac.ok w U ⟨2, s, r', A, n, c, b, z, e, K, m, d, nums⟩) (h : DAt w X g L S) (I : Inv S) (hc : S.calls ≤ 1000) (hr : RZ w r) (hX : ∀ k, k < U → X k) (hrX : X r) (hrU : U ≤ r) (hU : U ≤ w.heap.size) (hn : n ≤ 500) (hm : m ≤ 60) :
    Calls Try.prog 13 #[.pointer (some ⟨g, 0, none⟩), .pointer (some ⟨r, 0, none⟩), .agg #[.int .i64 2, .string s, .string r', .slice A n c, .int .i64 z, .int .i64 e, .slice K m d]] w (Acted U X g w fun _ => (S.sync s.data.toList).1) := by
  have hs : s.size ≤ maxLen := hx.s
  obtain ⟨T, hT⟩ : ∃ T : Nat → St, T = fun _ => (S.sync s.data.toList).1 := ⟨_, rfl⟩
  rw [← hT]
  have P := act_box ⟨2, s, r', A, n, c, b, z, e, K, m, d, nums⟩ h hr hX hrX hrU hU T
  obtain ⟨vs, hvs⟩ : ∃ vs : List Value, vs = [.int .i64 2, .string s, .string r', .slice A n c, .int .i64 z, .int .i64 e, .slice K m d] := ⟨_, rfl⟩
  have hw1 : ∃ w1, w1 = w.alloc (.cells #[.int .i64 2, .string s, .string r', .slice A n c, .int .i64 z, .int .i64 e, .slice K m d] 36) := ⟨_, rfl⟩
  obtain ⟨w1, hw1⟩ := hw1
  obtain ⟨bx, hbx⟩ : ∃ bx, bx = w.heap.size := ⟨_, rfl⟩
  have P : Ph U (With X w w1) g r bx vs w1 S T false false w1 := by
    rw [hw1, hbx, hvs]
    exact P
  obtain ⟨X1, hX1⟩ : ∃ X1, X1 = With X w w1 := ⟨_, rfl⟩
  have P0 := P
  rw [← hX1] at P0
  have hsub : ∀ k, X k → X1 k := fun k hk => by rw [hX1]; exact .inl hk
  have hlow : Hid (Below U w w1) := Lib.hid (by rw [hw1]; exact (Below.refl _ _).alloc hU _)
  have hU1 : U ≤ w1.heap.size := Nat.le_trans hU hlow.out.size
  have HD : Hid (∀ (zz : Bool) (W : World), Ph U X1 g r bx vs w1 S T false zz W → Calls Try.prog 22 #[.pointer (some ⟨g, 0, none⟩), .string s] W (fun e w' => (∃ n : Int, e = .returned (.int .i64 n)) ∧ w'.cell? ⟨bx, 0, none⟩ = some (.int .i64 2) ∧ w'.cell? ⟨bx, 1, none⟩ = some (.string s) ∧ Ph U X1 g r bx vs w1 S T true zz w')) := Lib.hid fun z' W P => by
    refine (P.d (F := 22) (args := #[ptrTo g, .string s]) (fun L hD => ?_)).mono ?_
    · rw [hT]
      exact did_sync hD I hc s hs
    · rintro e w' ⟨h1, P2⟩
      have P3 := P2
      rw [hvs] at P2
      exact ⟨h1, P2.box 0 _ rfl, P2.box 1 _ rfl, P3⟩
  have HX : Hid (∀ (dd : Bool) (W : World), Ph U X1 g r bx vs w1 S T dd false W → Calls Try.prog 42 #[.pointer (some ⟨r, 0, none⟩), .string s] W (fun e w' => (∃ n : Int, e = .returned (.int .i64 n)) ∧ w'.cell? ⟨bx, 0, none⟩ = some (.int .i64 2) ∧ w'.cell? ⟨bx, 1, none⟩ = some (.string s) ∧ Ph U X1 g r bx vs w1 S T dd true w')) := Lib.hid fun dd W P => by
    refine (P.x (F := 42) (args := #[.pointer (some ⟨r, 0, none⟩), .string s]) (fun h => rz_sync h s) hU1 (P.lt (by rw [hvs]; simp))).mono ?_
    rintro e w' ⟨h1, P2⟩
    have P3 := P2
    rw [hvs] at P2
    exact ⟨h1, P2.box 0 _ rfl, P2.box 1 _ rfl, P3⟩
  have hsub := Lib.hid hsub
  have HW := Lib.hid hw1.symm
  have HBX := Lib.hid hbx
  have hbox : Box w1 bx [.int .i64 2, .string s, .string r', .slice A n c, .int .i64 z, .int .i64 e, .slice K m d] := by
    have := P0.box
    rw [hvs] at this
    exact this
  have k0 : w1.cell? ⟨bx, 0, none⟩ = some (.int .i64 2) := hbox 0 _ rfl
  have k1 : w1.cell? ⟨bx, 1, none⟩ = some (.string s) := hbox 1 _ rfl
  clear hbox P h hr hX hrX hrU hU hw1 hbx hX1 hvs hT hU1 hx I hc hs hn hm
  go_enter Try.func13, Try.ntmps13
  go_wp2_with fail
  rw [HW.out, ← HBX.out]
  have P0 := P0.drew
  go_region_held3 (fun w' => w'.cell? ⟨bx, 0, none⟩ = some (.int .i64 2) ∧ w'.cell? ⟨bx, 1, none⟩ = some (.string s)) (((try dsimp only); (repeat' apply And.intro) <;> first | assumption | go_keep)) (first
    | (go_at_call 22; first
      | (refine (HD.out false _ P0).mono ?_; rintro e w2 ⟨⟨n1, rfl⟩, k0, k1, Pd⟩)
      | (refine (HD.out true _ Px).mono ?_; rintro e w3 ⟨⟨n1, rfl⟩, k0, k1, PP⟩))
    | (go_at_call 42; first
      | (refine (HX.out false _ P0).mono ?_; rintro e w2 ⟨⟨n2, rfl⟩, k0, k1, Px⟩)
      | (refine (HX.out true _ Pd).mono ?_; rintro e w3 ⟨⟨n2, rfl⟩, k0, k1, PP⟩))
    | fail)
  all_goals
    go_wp2
    go_ret
    exact PP.acted hlow.out hsub.out _
end Go.Proofs.Ytfhbolhmfhgeaaa
