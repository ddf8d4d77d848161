/-
  'awake' of layer 3, the document's example: true.
-/
import Derived.Test.YtekhockdgglndaaDM4
import Derived.Lib.SmallJoins
import Derived.Laws.BytesArg
namespace Go.Proofs.Ytekhockdgglndaa
set_option linter.unusedVariables false
set_option linter.unusedSimpArgs false
open Go.RowKit Go.Maps

/-- The disk of the example, call by call. -/
def exA (b : Nat) : St := { cap := 10, fs := [⟨b, [], 0, false⟩], names := [([97], b)], sure := [], waits := [.create [97] b], calls := 1, fuse := 0, fault := 0, fe := 0, dead := false }
def exB (b : Nat) : St := { cap := 10, fs := [⟨b, [120, 121], 2, false⟩], names := [([97], b)], sure := [], waits := [.create [97] b], calls := 2, fuse := 0, fault := 0, fe := 0, dead := false }
def exC (b : Nat) : St := { cap := 10, fs := [⟨b, [120, 121], 0, false⟩], names := [([97], b)], sure := [], waits := [.create [97] b], calls := 3, fuse := 0, fault := 0, fe := 0, dead := false }
def exD (b : Nat) : St := { cap := 10, fs := [⟨b, [120, 121], 0, false⟩], names := [([97], b)], sure := [], waits := [.create [97] b], calls := 3, fuse := 4, fault := 0, fe := 0, dead := false }
def exE (b : Nat) : St := { cap := 10, fs := [⟨b, [120, 121], 0, false⟩], names := [([97], b)], sure := [], waits := [.create [97] b], calls := 4, fuse := 4, fault := 0, fe := 0, dead := true }
def exF (b : Nat) : St := { cap := 10, fs := [⟨b, [120, 121], 0, true⟩], names := [([97], b)], sure := [([97], b)], waits := [], calls := 4, fuse := 0, fault := 0, fe := 0, dead := false }
theorem ex1 (b : Nat) : (newSt 10 [] []).create [97] b = (exA b, 0) := by rfl
theorem ex2 (b : Nat) : (exA b).append [97] [120, 121] = (exB b, 0) := by
  simp [St.append, exA, exB, St.berr, St.begun, nat?, dusedOf, dlenAt, updF]
theorem ex3 (b : Nat) : (exB b).sync [97] = (exC b, 0) := by
  simp [St.sync, exB, exC, St.berr, St.begun, nat?, updF]
theorem ex4 (b : Nat) : ({ exC b with fuse := armN 1 3 } : St) = exD b := by rfl
theorem ex5 (b : Nat) : (exD b).remove [97] = (exE b, 9) := by rfl
theorem ex6 (b : Nat) : (exE b).boot 1 [] = (exF b, 0) := by
  have e : acts ((exE b).waits.take (withinN 1 (exE b).waits.length)) (exE b).sure = [([97], b)] := rfl
  unfold St.boot
  rw [if_pos (show (exE b).dead = true from rfl), e]
  simp [exE, exF, St.keptNames, St.bytesKept, marked, keepB, keepAt, keep, goneBoot]
theorem ex7 (b : Nat) : (exF b).read [97] = ([120, 121], 0) := by
  simp [St.read, exF, nat?]
theorem ex_good (b : Nat) : Good [.create [97] b] [] := ⟨Nat.zero_le _, trivial, by show 1 ≤ 64; omega⟩
theorem ex_sound (b : Nat) (k : Nat) (hk : k ≤ 1) : Sound (acts (([.create [97] b] : List Tn).take k) []) [⟨b, [120, 121], 0, false⟩] := by
  intro p hp
  have : p = ([97], b) := by
    rcases Nat.le_one_iff_eq_zero_or_eq_one.1 hk with rfl | rfl
    · cases hp
    · exact List.mem_singleton.1 hp
  subst this
  exact ⟨_, List.mem_singleton.2 rfl, rfl, Nat.zero_le _⟩
theorem ex_closed (b : Nat) (d : List Int) (u : Nat) (v : Bool) : Closed [([97], b)] [⟨b, d, u, v⟩] := by
  intro p hp
  have := List.mem_singleton.1 hp
  subst this
  exact ⟨_, List.mem_singleton.2 rfl, rfl⟩

abbrev aStr : ByteArray := ⟨#[97]⟩
theorem aStr_list : aStr.data.toList = [97] := rfl
theorem low_keeps {U : Nat} {a b : World} (h : Keeps (Low U) a b) : Below U a b := h.below fun k hk => hk

set_option maxRecDepth 100000 in
set_option maxHeartbeats 3200000 in
theorem awake_any (w : World) : Calls Try.prog 6 #[] w fun e w' => e = .returned (.bool true) ∧ Below w.heap.size w w' := by
  have HNEW := Lib.hid (new_any none 0 0 [] 10 w ⟨rfl, fun k f hf => by simp at hf⟩ (Nat.zero_le _))
  go_enter Try.func6, Try.ntmps6
  go_wp2_with (fail)
  refine HNEW.out.mono ?_
  rintro e w1 ⟨hb1, ⟨_, g, L, fs, rfl, hnew⟩ | ⟨h0, _⟩⟩
  rotate_left
  · exact absurd h0 (by decide)
  have hfs : fs = [] := by
    have := hnew.made.len
    exact List.eq_nil_of_length_eq_zero this
  subst hfs
  have D1 := Lib.hid (show DAt w1 (Low w.heap.size) g L (newSt 10 [] []) from hnew.at_)
  have B1 := Lib.hid hb1
  clear hnew hb1
  -- Create
  have HCR := Lib.hid ((create_any D1.out (by decide) aStr (by decide) (by decide) (by decide) (by decide)).mono (R' := fun e w' => ∃ b, e = .returned (.int .i64 0) ∧ (∃ L', DAt w' (Low w.heap.size) g L' (exA b)) ∧ Keeps (Low w.heap.size) w1 w') fun e w' ⟨b, _, _, h1, h2, h3⟩ => ⟨b, h1, h2, h3⟩)
  unfold ptrTo at *
  go_wp2_with (fail)
  refine HCR.out.mono ?_
  rintro e w2 ⟨b, rfl, ⟨L2, D2⟩, K2⟩
  have B2 := Lib.hid (B1.out.trans (low_keeps K2))
  have D2 := Lib.hid D2
  clear K2 HCR D1 HNEW
  -- the bytes
  obtain ⟨wl, hl⟩ : ∃ wl, wl = w2.alloc (.cells (by8 [120, 121]).toArray 5 (2, 3)) := ⟨_, rfl⟩
  have hcv : (convert 32 32 (.slice (some ⟨w2.heap.size, 0, none⟩) 2 2)).run Try.prog (w2.alloc (.cells (by8 [120, 121]).toArray 5)) = .ok (.slice (some ⟨w2.heap.size, 0, none⟩) 2 2) wl := by
    rw [hl]
    exact Joins.run_convert_bytes_const_at (P := Try.prog) w2 32 5 (by8 [120, 121]).toArray 2 2 w2.heap.size rfl Try.underlying32 (by kernel_rfl)
  simp only [by8, List.map] at hcv
  have hbl : Below w2.heap.size w2 wl := by rw [hl]; exact (Below.refl _ _).alloc (Nat.le_refl _) _
  have hsl : wl.heap.size = w2.heap.size + 1 := by rw [hl]; simp
  have hshx : ShX wl (With (Low w.heap.size) w2 wl) (some ⟨w2.heap.size, 0, none⟩) 2 (by8 [120, 121]) := by
    refine ⟨rfl, fun _ => ⟨w2.heap.size, 0, rfl, .inr ⟨Nat.le_refl _, by omega⟩, fun k u hu => ?_⟩⟩
    rw [hl, World.cell?_alloc_mark]
    simpa using hu
  have HAP := Lib.hid (append_any (D2.out.wide hbl) (by first | decide | simp [exA, exB, exC, exD, exE, exF]) aStr (by first | decide | simp [exA, exB, exC, exD, exE, exF]) (ex_closed b [] 0 false) (by first | decide | simp [exA, exB, exC, exD, exE, exF]) (fun f hf => by rw [List.mem_singleton.1 hf]; simp) (fun f hf => by rw [List.mem_singleton.1 hf]; simp) (by first | decide | simp [exA, exB, exC, exD, exE, exF]) _ 2 2 [120, 121] hshx (by first | decide | simp [exA, exB, exC, exD, exE, exF]))
  have HBL := Lib.hid hbl
  first | rw [aStr_list, ex2] at HAP | rw [ex2] at HAP
  clear hl hbl hsl hshx
  unfold ptrTo at HAP
  go_wp2_with (fail)
  refine HAP.out.mono ?_
  rintro e w3 ⟨rfl, ⟨L3, D3⟩, K3⟩
  have B3 := Lib.hid (B2.out.trans (low_keeps (K3.unwide HBL.out D2.out.old)))
  have D3 := Lib.hid (D3.fewer (Y := Low w.heap.size) (fun b hb => .inl hb))
  clear K3 HAP hcv
  -- Sync
  have HSY := Lib.hid (sync_any D3.out (by first | decide | simp [exA, exB, exC, exD, exE, exF]) aStr (by first | decide | simp [exA, exB, exC, exD, exE, exF]) (ex_closed b _ _ _))
  first | rw [aStr_list, ex3] at HSY | rw [ex3] at HSY
  unfold ptrTo at HSY
  go_wp2_with (fail)
  refine HSY.out.mono ?_
  rintro e w4 ⟨rfl, ⟨L4, D4⟩, K4⟩
  have B4 := Lib.hid (B3.out.trans (low_keeps K4))
  have D4 := Lib.hid D4
  clear K4 HSY
  -- Fuse
  have HFU := Lib.hid (fuse_any D4.out 1 (by first | decide | simp [exA, exB, exC, exD, exE, exF]))
  unfold ptrTo at HFU
  go_wp2_with (fail)
  refine HFU.out.mono ?_
  rintro e w5 ⟨rfl, D5, K5⟩
  have B5 := Lib.hid (B4.out.trans (low_keeps K5))
  have D5 := Lib.hid (show DAt w5 _ g L4 (exD b) from D5)
  clear K5 HFU
  -- Remove
  have HRM := Lib.hid (remove_any D5.out (by first | decide | simp [exA, exB, exC, exD, exE, exF]) aStr (by first | decide | simp [exA, exB, exC, exD, exE, exF]) (by first | decide | simp [exA, exB, exC, exD, exE, exF]) (by first | decide | simp [exA, exB, exC, exD, exE, exF]))
  first | rw [aStr_list, ex5] at HRM | rw [ex5] at HRM
  unfold ptrTo at HRM
  go_wp2_with (fail)
  refine HRM.out.mono ?_
  rintro e w6 ⟨rfl, ⟨L6, D6⟩, K6⟩
  have B6 := Lib.hid (B5.out.trans (low_keeps K6))
  have D6 := Lib.hid D6
  clear K6 HRM
  -- Boot
  have HBO := Lib.hid (boot_any D6.out rfl (by first | decide | simp [exA, exB, exC, exD, exE, exF]) (by first | decide | simp [exA, exB, exC, exD, exE, exF]) (fun f hf => by rw [List.mem_singleton.1 hf]; simp) (fun f hf => by rw [List.mem_singleton.1 hf]; simp) (ex_good b) (fun k hk => ex_sound b k hk) 1 none 0 0 [] ⟨rfl, fun h => absurd h (by omega)⟩ (by first | decide | simp [exA, exB, exC, exD, exE, exF]))
  rw [ex6] at HBO
  unfold ptrTo at HBO
  go_wp2_with (fail)
  refine HBO.out.mono ?_
  rintro e w7 ⟨rfl, ⟨L7, D7⟩, K7⟩
  have B7 := Lib.hid (B6.out.trans (low_keeps K7))
  have D7 := Lib.hid D7
  clear K7 HBO
  -- Read
  have HRD := Lib.hid (read_any D7.out aStr (by first | decide | simp [exA, exB, exC, exD, exE, exF]) (ex_closed b _ _ _) (fun f hf => by rw [List.mem_singleton.1 hf]; simp))
  first | rw [aStr_list, ex7] at HRD | rw [ex7] at HRD
  unfold ptrTo at HRD
  go_wp2_with (fail)
  refine HRD.out.mono ?_
  rintro e w8 ⟨v, rfl, ho, hb8⟩
  obtain ⟨A8, c8, rfl⟩ := ho.form
  obtain ⟨g8, hA8, _⟩ : ∃ g8, A8 = some ⟨g8, 0, none⟩ ∧ True := by
    obtain ⟨g', cap', e, _⟩ := ho.1.form (by first | decide | simp [exA, exB, exC, exD, exE, exF])
    injection e with e _ _
    exact ⟨g', e, trivial⟩
  subst hA8
  have hcs := run_convert_bytes_arg (P := Try.prog) w8 32 5 Try.underlying32 (by kernel_rfl) g8 0 2 c8 [120, 121] rfl (fun i hi => by
    obtain ⟨b', off', e, _, hc⟩ := ho.sh.byte hi
    cases e
    exact hc) 9 Try.underlying9
  have hstr : strOfNums [120, 121] = ⟨#[120, 121]⟩ := rfl
  rw [hstr] at hcs
  have B8 := Lib.hid (B7.out.trans (hb8.mono B7.out.size))
  clear ho hb8
  go_wp2
  go_ret
  exact ⟨rfl, B8.out⟩
end Go.Proofs.Ytekhockdgglndaa
