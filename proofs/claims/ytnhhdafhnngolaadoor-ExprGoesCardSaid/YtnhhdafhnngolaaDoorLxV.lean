/-
  CONTRACT OF 'lex.tokenAt'.
-/
import Derived.Test.YtnhhdafhnngolaaDoorLxU
import Derived.Deep.MidRow
namespace Go.Proofs.YtnhhdafhnngolaaDoor
set_option linter.unusedVariables false
set_option linter.unusedSimpArgs false
open Go.RowKit

/-- What tokenAt answers: a token; memory below is as it was. -/
def TokTo (t : Tk) (w : World) (e : Ending) (w' : World) : Prop := e = .returned (.agg #[.int .i64 t.1, .int .i64 t.2.1, .int .i64 t.2.2]) ∧ Below w.heap.size w w'
/-- The world in which 'until' is called. -/
abbrev tokW (w : World) (v : Value) (k : Int) (u : Nat) : World :=
  ((w.alloc (.cells #[v] 22)).alloc (.cells #[.int .i64 0, .int .i64 0, .int .i64 0] 49)).alloc (.cells #[.int .i64 k, .int .i64 (u : Int), .int .i64 ((u : Int) + 1)] 49)
theorem tokW_below (w : World) (v : Value) (k : Int) (u : Nat) : Below w.heap.size w (tokW w v k u) :=
  (((Below.refl _ w).alloc (Nat.le_refl _) _).alloc (by simp) _).alloc (by simp; omega) _
theorem tokW_a (w : World) (v : Value) (k : Int) (u : Nat) : (tokW w v k u).cell? ⟨w.heap.size, 0, none⟩ = some v := by rw [tokW, World.cell?_alloc_past _ _ _ (by simp; omega), World.cell?_alloc_past _ _ _ (by simp), World.cell?_alloc_at _ _ _ _ rfl]; rfl
theorem tokW_k (w : World) (v : Value) (k : Int) (u : Nat) : (tokW w v k u).cell? ⟨w.heap.size + 1 + 1, 0, none⟩ = some (.int .i64 k) := by rw [tokW, World.cell?_alloc_at _ _ _ _ (by simp)]; rfl
theorem tokW_e (w : World) (v : Value) (k : Int) (u : Nat) : (tokW w v k u).cell? ⟨w.heap.size + 1 + 1, 2, none⟩ = some (.int .i64 ((u + 1 : Nat) : Int)) := by rw [tokW, World.cell?_alloc_at _ _ _ _ (by simp)]; rfl

theorem not_goes3 (k x : Int) (hk : k = 0 ∨ k = 3) : (kd x != k) = !(goes k x) := by
  rcases hk with rfl | rfl <;> simp [goes, bne]
theorem not_goes2 (x : Int) : (kd x != 2 && kd x != 3) = !(goes 2 x) := by simp [goes, bne]
theorem not_goes1 (x : Int) : (x == 10) = !(goes 1 x) := by simp [goes, bne]
theorem ends_3 (w : World) (b : Nat) (k : Int) (hk : k = 0 ∨ k = 3) (hc : w.cell? ⟨b, 0, none⟩ = some (.int .i64 k)) : Ends w 77 #[.pointer (some ⟨b, 0, none⟩)] (goes k) := fun W x hq => by
  rw [← not_goes3 k x hk]
  refine stop2_any b k x W ?_
  obtain ⟨q, rfl⟩ := hq
  exact hc
theorem ends_2 (w : World) : Ends w 78 #[] (goes 2) := fun W x hq => by
  rw [← not_goes2 x]
  exact stop3_any x W
theorem ends_1 (w : World) : Ends w 79 #[] (goes 1) := fun W x hq => by
  rw [← not_goes1 x]
  exact stop4_any x W

theorem zeroTok (w : World) : (zeroValue 49).run Tryd.prog w = .ok (.agg #[.int .i64 0, .int .i64 0, .int .i64 0]) w := by kernel_rfl
theorem tok_load (w : World) (G o : Nat) (x y z : Value) (c0 : w.cell? ⟨G, o, none⟩ = some x) (c1 : w.cell? ⟨G, o + 1, none⟩ = some y) (c2 : w.cell? ⟨G, o + 2, none⟩ = some z) : (loadVar 49 ⟨G, o, none⟩).run Tryd.prog w = .ok (.agg #[x, y, z]) w :=
  run_loadVar_mid w G o 49 [x, y, z] _ (fun j u hj => by
    match j, hj with
    | 0, hj => cases hj; exact c0
    | 1, hj => cases hj; exact c1
    | 2, hj => cases hj; exact c2
    | j + 3, hj => simp at hj) Tryd.underlying49 rfl (by kernel_rfl)
theorem off_ne3 {G i j : Nat} (h : i ≠ j) : (⟨G, i, none⟩ : Addr) ≠ ⟨G, j, none⟩ := fun e => by injection e; exact h (by assumption)
/-- Three cells that are stored. -/
theorem tok_set (w : World) (G : Nat) (x y z : Value) (c0 : (w.cell? ⟨G, 0, none⟩).isSome = true) (c1 : (w.cell? ⟨G, 1, none⟩).isSome = true) (c2 : (w.cell? ⟨G, 2, none⟩).isSome = true) :
    (((w.setCell ⟨G, 0, none⟩ x).setCell ⟨G, 1, none⟩ y).setCell ⟨G, 2, none⟩ z).cell? ⟨G, 0, none⟩ = some x ∧ (((w.setCell ⟨G, 0, none⟩ x).setCell ⟨G, 1, none⟩ y).setCell ⟨G, 2, none⟩ z).cell? ⟨G, 1, none⟩ = some y ∧
    (((w.setCell ⟨G, 0, none⟩ x).setCell ⟨G, 1, none⟩ y).setCell ⟨G, 2, none⟩ z).cell? ⟨G, 2, none⟩ = some z := by
  obtain ⟨a, ha⟩ := Option.isSome_iff_exists.1 c0
  obtain ⟨b, hb⟩ := Option.isSome_iff_exists.1 c1
  obtain ⟨c, hc⟩ := Option.isSome_iff_exists.1 c2
  refine ⟨?_, ?_, ?_⟩
  · rw [World.cell?_setCell_other _ _ _ _ (off_ne3 (by omega)), World.cell?_setCell_other _ _ _ _ (off_ne3 (by omega))]
    exact World.cell?_setCell_same _ _ _ ha
  · rw [World.cell?_setCell_other _ _ _ _ (off_ne3 (by omega))]
    have : (w.setCell ⟨G, 0, none⟩ x).cell? ⟨G, 1, none⟩ = some b := by rw [World.cell?_setCell_other _ _ _ _ (off_ne3 (by omega))]; exact hb
    exact World.cell?_setCell_same _ _ _ this
  · have : ((w.setCell ⟨G, 0, none⟩ x).setCell ⟨G, 1, none⟩ y).cell? ⟨G, 2, none⟩ = some c := by rw [World.cell?_setCell_other _ _ _ _ (off_ne3 (by omega)), World.cell?_setCell_other _ _ _ _ (off_ne3 (by omega))]; exact hc
    exact World.cell?_setCell_same _ _ _ this
/-- The end of tokenAt: the token is stored in the result's block. -/
theorem tok_done {t : Tk} {w W : World} {G : Nat} {x y z : Value} {a : Act} (hp : a.tmps.getD 4 undef = .pointer (some ⟨G, 0, none⟩)) (hd : a.defers = []) (hb : Below w.heap.size w W) (hG : w.heap.size ≤ G) (c0 : (W.cell? ⟨G, 0, none⟩).isSome = true) (c1 : (W.cell? ⟨G, 1, none⟩).isSome = true) (c2 : (W.cell? ⟨G, 2, none⟩).isSome = true)
    (hx : x = .int .i64 t.1) (hy : y = .int .i64 t.2.1) (hz : z = .int .i64 t.2.2) :
    bodyPost Tryd.prog Tryd.f65 (TokTo t w) Exit.ret a (((W.setCell ⟨G, 0, none⟩ x).setCell ⟨G, 1, none⟩ y).setCell ⟨G, 2, none⟩ z) := by
  subst hx; subst hy; subst hz
  obtain ⟨e0, e1, e2⟩ := tok_set W G (.int .i64 t.1) (.int .i64 t.2.1) (.int .i64 t.2.2) c0 c1 c2
  have hr : Tryd.f65.results = #[.cell 4 49] := rfl
  have hl := tok_load _ G 0 _ _ _ e0 e1 e2
  have hp' : a.tmps[4]?.getD undef = .pointer (some ⟨G, 0, none⟩) := by simpa using hp
  refine bodyPost_ret (v := .agg #[.int .i64 t.1, .int .i64 t.2.1, .int .i64 t.2.2]) (by simp [results, hr, hp', asAddr, hl]) hd ?_
  exact ⟨rfl, ((hb.setCell (by exact hG) _).setCell (by exact hG) _).setCell (by exact hG) _⟩
theorem tokW_r (w : World) (v : Value) (k : Int) (u j q : Nat) (x : Value) (hj : j < 3) : ((((tokW w v k u).drewN q).setCell ⟨w.heap.size + 1 + 1, 2, none⟩ x).cell? ⟨w.heap.size + 1, j, none⟩).isSome = true := by
  rw [World.cell?_setCell_other _ _ _ _ (fun e => by injection e; omega)]
  show ((tokW w v k u).cell? ⟨w.heap.size + 1, j, none⟩).isSome = true
  rw [tokW, World.cell?_alloc_past _ _ _ (by simp), World.cell?_alloc_at _ _ _ _ (by simp)]
  match j, hj with
  | 0, _ => rfl
  | 1, _ => rfl
  | 2, _ => rfl

set_option maxRecDepth 10000 in
set_option maxHeartbeats 800000 in
theorem tokenAt_0 (n c u : Nat) (c0 : Int) (bs : List Int) (w : World) (b off : Nat) (hb : b < w.heap.size) (hc0 : w.cell? ⟨b, off + u, none⟩ = some (.int .u8 c0)) (hx : Sh w w.heap.size (some ⟨b, off, none⟩) n (by8 bs)) (hn : n ≤ 1000000) (hnc : n ≤ c) (hcm : c ≤ maxLen) (hu : u < n)
    (hk : kd c0 = 0) :
    Calls Tryd.prog 65 #[.slice (some ⟨b, off, none⟩) n c, .int .i64 (u : Int)] w (TokTo (0, u, ((u + 1 : Nat) : Int) + (runB (goes 0) (bs.drop (u + 1)) : Int)) w) := by
  have HU := Lib.hid (until_any 77 #[.pointer (some ⟨w.heap.size + 1 + 1, 0, none⟩)] (enters_of Tryd.func77 (by kernel_rfl) rfl) (goes 0) (some ⟨b, off, none⟩) n c w.heap.size (w.heap.size + 1 + 1) (u + 1) bs (tokW w (.slice (some ⟨b, off, none⟩) n c) 0 u) w.heap.size (ends_3 _ _ 0 (.inl rfl) (tokW_k _ _ _ _)) (hx.below (tokW_below _ _ _ _)) (.inr ⟨b, off, rfl⟩) hn hnc hcm (tokW_a _ _ _ _) (tokW_e _ _ _ _) (by omega))
  have HB := Lib.hid (tokW_below w (.slice (some ⟨b, off, none⟩) n c) 0 u)
  obtain ⟨r, hr⟩ : ∃ r, ((u + 1 : Nat) : Int) + (runB (goes 0) (bs.drop (u + 1)) : Int) = r := ⟨_, rfl⟩
  rw [hr] at HU ⊢
  unfold maxLen at hcm
  clear hx hr
  have hz := zeroTok w
  go_enter Tryd.func65, Tryd.ntmps65
  go_wp2_with (first
    | (go_at_call 74; refine (kindOf_any _ _).mono ?_; rintro e w' ⟨rfl, rfl⟩; rw [hk])
    | (go_at_call 75; refine HU.out.mono ?_; rintro e w1 ⟨rfl, q, rfl⟩)
    | fail)
  exact tok_done (G := w.heap.size + 1) rfl rfl ((HB.out.trans ((Quiet.one _ _).below _)).setCell (by show w.heap.size ≤ w.heap.size + 1 + 1; omega) _) (by omega) (tokW_r _ _ _ _ _ _ _ (by omega)) (tokW_r _ _ _ _ _ _ _ (by omega)) (tokW_r _ _ _ _ _ _ _ (by omega)) rfl rfl rfl

set_option maxRecDepth 10000 in
set_option maxHeartbeats 800000 in
theorem tokenAt_3 (n c u : Nat) (c0 : Int) (bs : List Int) (w : World) (b off : Nat) (hb : b < w.heap.size) (hc0 : w.cell? ⟨b, off + u, none⟩ = some (.int .u8 c0)) (hx : Sh w w.heap.size (some ⟨b, off, none⟩) n (by8 bs)) (hn : n ≤ 1000000) (hnc : n ≤ c) (hcm : c ≤ maxLen) (hu : u < n)
    (hk : kd c0 = 3) :
    Calls Tryd.prog 65 #[.slice (some ⟨b, off, none⟩) n c, .int .i64 (u : Int)] w (TokTo (3, u, ((u + 1 : Nat) : Int) + (runB (goes 3) (bs.drop (u + 1)) : Int)) w) := by
  have HU := Lib.hid (until_any 77 #[.pointer (some ⟨w.heap.size + 1 + 1, 0, none⟩)] (enters_of Tryd.func77 (by kernel_rfl) rfl) (goes 3) (some ⟨b, off, none⟩) n c w.heap.size (w.heap.size + 1 + 1) (u + 1) bs (tokW w (.slice (some ⟨b, off, none⟩) n c) 3 u) w.heap.size (ends_3 _ _ 3 (.inr rfl) (tokW_k _ _ _ _)) (hx.below (tokW_below _ _ _ _)) (.inr ⟨b, off, rfl⟩) hn hnc hcm (tokW_a _ _ _ _) (tokW_e _ _ _ _) (by omega))
  have HB := Lib.hid (tokW_below w (.slice (some ⟨b, off, none⟩) n c) 3 u)
  obtain ⟨r, hr⟩ : ∃ r, ((u + 1 : Nat) : Int) + (runB (goes 3) (bs.drop (u + 1)) : Int) = r := ⟨_, rfl⟩
  rw [hr] at HU ⊢
  unfold maxLen at hcm
  clear hx hr
  have hz := zeroTok w
  go_enter Tryd.func65, Tryd.ntmps65
  go_wp2_with (first
    | (go_at_call 74; refine (kindOf_any _ _).mono ?_; rintro e w' ⟨rfl, rfl⟩; rw [hk])
    | (go_at_call 75; refine HU.out.mono ?_; rintro e w1 ⟨rfl, q, rfl⟩)
    | fail)
  exact tok_done (G := w.heap.size + 1) rfl rfl ((HB.out.trans ((Quiet.one _ _).below _)).setCell (by show w.heap.size ≤ w.heap.size + 1 + 1; omega) _) (by omega) (tokW_r _ _ _ _ _ _ _ (by omega)) (tokW_r _ _ _ _ _ _ _ (by omega)) (tokW_r _ _ _ _ _ _ _ (by omega)) rfl rfl rfl

set_option maxRecDepth 10000 in
set_option maxHeartbeats 800000 in
theorem tokenAt_2 (n c u : Nat) (c0 : Int) (bs : List Int) (w : World) (b off : Nat) (hb : b < w.heap.size) (hc0 : w.cell? ⟨b, off + u, none⟩ = some (.int .u8 c0)) (hx : Sh w w.heap.size (some ⟨b, off, none⟩) n (by8 bs)) (hn : n ≤ 1000000) (hnc : n ≤ c) (hcm : c ≤ maxLen) (hu : u < n)
    (hk : kd c0 = 2) :
    Calls Tryd.prog 65 #[.slice (some ⟨b, off, none⟩) n c, .int .i64 (u : Int)] w (TokTo (2, u, ((u + 1 : Nat) : Int) + (runB (goes 2) (bs.drop (u + 1)) : Int)) w) := by
  have HU := Lib.hid (until_any 78 #[] (enters_of Tryd.func78 (by kernel_rfl) rfl) (goes 2) (some ⟨b, off, none⟩) n c w.heap.size (w.heap.size + 1 + 1) (u + 1) bs (tokW w (.slice (some ⟨b, off, none⟩) n c) 2 u) w.heap.size (ends_2 _) (hx.below (tokW_below _ _ _ _)) (.inr ⟨b, off, rfl⟩) hn hnc hcm (tokW_a _ _ _ _) (tokW_e _ _ _ _) (by omega))
  have HB := Lib.hid (tokW_below w (.slice (some ⟨b, off, none⟩) n c) 2 u)
  obtain ⟨r, hr⟩ : ∃ r, ((u + 1 : Nat) : Int) + (runB (goes 2) (bs.drop (u + 1)) : Int) = r := ⟨_, rfl⟩
  rw [hr] at HU ⊢
  unfold maxLen at hcm
  clear hx hr
  have hz := zeroTok w
  go_enter Tryd.func65, Tryd.ntmps65
  go_wp2_with (first
    | (go_at_call 74; refine (kindOf_any _ _).mono ?_; rintro e w' ⟨rfl, rfl⟩; rw [hk])
    | (go_at_call 75; refine HU.out.mono ?_; rintro e w1 ⟨rfl, q, rfl⟩)
    | fail)
  exact tok_done (G := w.heap.size + 1) rfl rfl ((HB.out.trans ((Quiet.one _ _).below _)).setCell (by show w.heap.size ≤ w.heap.size + 1 + 1; omega) _) (by omega) (tokW_r _ _ _ _ _ _ _ (by omega)) (tokW_r _ _ _ _ _ _ _ (by omega)) (tokW_r _ _ _ _ _ _ _ (by omega)) rfl rfl rfl

set_option maxRecDepth 10000 in
set_option maxHeartbeats 800000 in
theorem tokenAt_1 (n c u : Nat) (c0 : Int) (bs : List Int) (w : World) (b off : Nat) (hb : b < w.heap.size) (hc0 : w.cell? ⟨b, off + u, none⟩ = some (.int .u8 c0)) (hx : Sh w w.heap.size (some ⟨b, off, none⟩) n (by8 bs)) (hn : n ≤ 1000000) (hnc : n ≤ c) (hcm : c ≤ maxLen) (hu : u < n)
    (hk : kd c0 = 1) :
    Calls Tryd.prog 65 #[.slice (some ⟨b, off, none⟩) n c, .int .i64 (u : Int)] w (TokTo (1, u, ((u + 1 : Nat) : Int) + (runB (goes 1) (bs.drop (u + 1)) : Int)) w) := by
  have HU := Lib.hid (until_any 79 #[] (enters_of Tryd.func79 (by kernel_rfl) rfl) (goes 1) (some ⟨b, off, none⟩) n c w.heap.size (w.heap.size + 1 + 1) (u + 1) bs (tokW w (.slice (some ⟨b, off, none⟩) n c) 1 u) w.heap.size (ends_1 _) (hx.below (tokW_below _ _ _ _)) (.inr ⟨b, off, rfl⟩) hn hnc hcm (tokW_a _ _ _ _) (tokW_e _ _ _ _) (by omega))
  have HB := Lib.hid (tokW_below w (.slice (some ⟨b, off, none⟩) n c) 1 u)
  obtain ⟨r, hr⟩ : ∃ r, ((u + 1 : Nat) : Int) + (runB (goes 1) (bs.drop (u + 1)) : Int) = r := ⟨_, rfl⟩
  rw [hr] at HU ⊢
  unfold maxLen at hcm
  clear hx hr
  have hz := zeroTok w
  go_enter Tryd.func65, Tryd.ntmps65
  go_wp2_with (first
    | (go_at_call 74; refine (kindOf_any _ _).mono ?_; rintro e w' ⟨rfl, rfl⟩; rw [hk])
    | (go_at_call 75; refine HU.out.mono ?_; rintro e w1 ⟨rfl, q, rfl⟩)
    | fail)
  exact tok_done (G := w.heap.size + 1) rfl rfl ((HB.out.trans ((Quiet.one _ _).below _)).setCell (by show w.heap.size ≤ w.heap.size + 1 + 1; omega) _) (by omega) (tokW_r _ _ _ _ _ _ _ (by omega)) (tokW_r _ _ _ _ _ _ _ (by omega)) (tokW_r _ _ _ _ _ _ _ (by omega)) rfl rfl rfl
end Go.Proofs.YtnhhdafhnngolaaDoor
