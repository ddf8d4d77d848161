/-
  CONTRACT OF 'lex.tokenAt', at any byte.
-/
import Derived.Test.YtnhhdafhnngolaaDoorLxV
namespace Go.Proofs.YtnhhdafhnngolaaDoor
set_option linter.unusedVariables false
set_option linter.unusedSimpArgs false
open Go.RowKit

theorem tokW_s (w : World) (v : Value) (k : Int) (u j : Nat) (hj : j < 3) : ((tokW w v k u).cell? ⟨w.heap.size + 1, j, none⟩).isSome = true := by
  show ((tokW w v k u).cell? ⟨w.heap.size + 1, j, none⟩).isSome = true
  rw [tokW, World.cell?_alloc_past _ _ _ (by simp), World.cell?_alloc_at _ _ _ _ (by simp)]
  match j, hj with
  | 0, _ => rfl
  | 1, _ => rfl
  | 2, _ => rfl
theorem tokW_0 (w : World) (v : Value) (k : Int) (u j : Nat) (hj : j < 3) : (tokW w v k u).cell? ⟨w.heap.size + 1, j, none⟩ = some (.int .i64 0) := by
  rw [tokW, World.cell?_alloc_past _ _ _ (by simp), World.cell?_alloc_at _ _ _ _ (by simp)]
  match j, hj with
  | 0, _ => rfl
  | 1, _ => rfl
  | 2, _ => rfl
theorem tokW_u (w : World) (v : Value) (k : Int) (u : Nat) : (tokW w v k u).cell? ⟨w.heap.size + 1 + 1, 1, none⟩ = some (.int .i64 (u : Int)) := by rw [tokW, World.cell?_alloc_at _ _ _ _ (by simp)]; rfl

set_option maxRecDepth 10000 in
set_option maxHeartbeats 1600000 in
/-- A sign, or a bad byte, at the text's last place. -/
theorem tokenAt_last (n c u : Nat) (c0 k : Int) (w : World) (b off : Nat) (hb : b < w.heap.size) (hc0 : w.cell? ⟨b, off + u, none⟩ = some (.int .u8 c0)) (hn : n ≤ 1000000) (hnc : n ≤ c) (hcm : c ≤ maxLen) (hu : u + 1 = n)
    (hk : kd c0 = k) (h4 : 4 ≤ k) :
    Calls Tryd.prog 65 #[.slice (some ⟨b, off, none⟩) n c, .int .i64 (u : Int)] w (TokTo (k, u, ((u + 1 : Nat) : Int)) w) := by
  have HB : Hid (Below w.heap.size w (tokW w (.slice (some ⟨b, off, none⟩) n c) k u)) := Lib.hid (tokW_below w (.slice (some ⟨b, off, none⟩) n c) k u)
  have HS := Lib.hid (tokW_s w (.slice (some ⟨b, off, none⟩) n c) k u)
  have ka := tokW_a w (.slice (some ⟨b, off, none⟩) n c) k u
  have kk := tokW_k w (.slice (some ⟨b, off, none⟩) n c) k u
  have ku := tokW_u w (.slice (some ⟨b, off, none⟩) n c) k u
  have k0 := tokW_0 w (.slice (some ⟨b, off, none⟩) n c) k u 0 (by omega)
  have k1 := tokW_0 w (.slice (some ⟨b, off, none⟩) n c) k u 1 (by omega)
  have k2 := tokW_0 w (.slice (some ⟨b, off, none⟩) n c) k u 2 (by omega)
  have ke := tokW_e w (.slice (some ⟨b, off, none⟩) n c) k u
  have hold := fun p (hp : p.block < w.heap.size) => (tokW_below w (.slice (some ⟨b, off, none⟩) n c) k u).cell (p := p) hp
  have kc : (tokW w (.slice (some ⟨b, off, none⟩) n c) k u).cell? ⟨b, off + u, none⟩ = some (.int .u8 c0) := (hold ⟨b, _, none⟩ hb).trans hc0
  obtain ⟨W, hW⟩ : ∃ W, ((w.alloc (.cells #[.slice (some ⟨b, off, none⟩) n c] 22)).alloc (.cells #[.int .i64 0, .int .i64 0, .int .i64 0] 49)).alloc (.cells #[.int .i64 k, .int .i64 (u : Int), .int .i64 ((u : Int) + 1)] 49) = W := ⟨_, rfl⟩
  unfold tokW at HB HS ka kk ku k0 k1 k2 ke hold kc
  rw [hW] at HB HS ka kk ku k0 k1 k2 ke kc
  rw [show (((u + 1 : Nat) : Int)) = (u : Int) + 1 by omega] at ke
  have HW := Lib.hid hW
  clear hold hW
  unfold maxLen at hcm
  have hz := zeroTok w
  have h0 : (k == 0) = false := by simp; omega
  have h1 : (k == 1) = false := by simp; omega
  have h2 : (k == 2) = false := by simp; omega
  have h3 : (k == 3) = false := by simp; omega
  have hlt : (decide ((u : Int) + 1 < (n : Int))) = false := decide_eq_false (by omega)
  have hun : u < n := by omega
  clear hu
  go_enter Tryd.func65, Tryd.ntmps65
  go_wp2_with (first
    | (go_at_call 74; refine (kindOf_any _ _).mono ?_; rintro e w' ⟨rfl, rfl⟩; rw [hk])
    | fail)
  rw [HW.out]
  go_quiet (fail)
  have hW := HW.out
  subst hW
  clear HW
  go_wp2
  exact tok_done (G := w.heap.size + 1) rfl rfl (HB.out.trans ((Quiet.one _ _).below _)) (by omega) (HS.out _ (by omega)) (HS.out _ (by omega)) (HS.out _ (by omega)) rfl rfl rfl

set_option maxRecDepth 10000 in
set_option maxHeartbeats 1600000 in
/-- .. with a byte behind it, that makes it a sign of two. -/
theorem tokenAt_two (n c u : Nat) (c0 d0 k : Int) (w : World) (b off : Nat) (hb : b < w.heap.size) (hc0 : w.cell? ⟨b, off + u, none⟩ = some (.int .u8 c0)) (hd0 : w.cell? ⟨b, off + (u + 1), none⟩ = some (.int .u8 d0)) (hn : n ≤ 1000000) (hnc : n ≤ c) (hcm : c ≤ maxLen) (hu : u + 1 < n)
    (hk : kd c0 = k) (h4 : 4 ≤ k) (hp : pairB c0 d0 = true) :
    Calls Tryd.prog 65 #[.slice (some ⟨b, off, none⟩) n c, .int .i64 (u : Int)] w (TokTo (4, u, ((u + 2 : Nat) : Int)) w) := by
  have HB : Hid (Below w.heap.size w (tokW w (.slice (some ⟨b, off, none⟩) n c) k u)) := Lib.hid (tokW_below w (.slice (some ⟨b, off, none⟩) n c) k u)
  have HS := Lib.hid (tokW_s w (.slice (some ⟨b, off, none⟩) n c) k u)
  have ka := tokW_a w (.slice (some ⟨b, off, none⟩) n c) k u
  have kk := tokW_k w (.slice (some ⟨b, off, none⟩) n c) k u
  have ku := tokW_u w (.slice (some ⟨b, off, none⟩) n c) k u
  have k0 := tokW_0 w (.slice (some ⟨b, off, none⟩) n c) k u 0 (by omega)
  have k1 := tokW_0 w (.slice (some ⟨b, off, none⟩) n c) k u 1 (by omega)
  have k2 := tokW_0 w (.slice (some ⟨b, off, none⟩) n c) k u 2 (by omega)
  have ke := tokW_e w (.slice (some ⟨b, off, none⟩) n c) k u
  have hold := fun p (hp : p.block < w.heap.size) => (tokW_below w (.slice (some ⟨b, off, none⟩) n c) k u).cell (p := p) hp
  have kc : (tokW w (.slice (some ⟨b, off, none⟩) n c) k u).cell? ⟨b, off + u, none⟩ = some (.int .u8 c0) := (hold ⟨b, _, none⟩ hb).trans hc0
  have kd0 : (tokW w (.slice (some ⟨b, off, none⟩) n c) k u).cell? ⟨b, off + (u + 1), none⟩ = some (.int .u8 d0) := (hold ⟨b, _, none⟩ hb).trans hd0
  obtain ⟨W, hW⟩ : ∃ W, ((w.alloc (.cells #[.slice (some ⟨b, off, none⟩) n c] 22)).alloc (.cells #[.int .i64 0, .int .i64 0, .int .i64 0] 49)).alloc (.cells #[.int .i64 k, .int .i64 (u : Int), .int .i64 ((u : Int) + 1)] 49) = W := ⟨_, rfl⟩
  unfold tokW at HB HS ka kk ku k0 k1 k2 ke hold kc kd0
  rw [hW] at HB HS ka kk ku k0 k1 k2 ke kc kd0
  rw [show (((u + 1 : Nat) : Int)) = (u : Int) + 1 by omega] at ke
  have HW := Lib.hid hW
  clear hold hW
  have HP := Lib.hid hp
  clear hp
  unfold maxLen at hcm
  have hz := zeroTok w
  have h0 : (k == 0) = false := by simp; omega
  have h1 : (k == 1) = false := by simp; omega
  have h2 : (k == 2) = false := by simp; omega
  have h3 : (k == 3) = false := by simp; omega
  have hlt : (u : Int) + 1 < (n : Int) := by omega
  have hpos : 0 ≤ (u : Int) + 1 := by omega
  have hto : ((u : Int) + 1).toNat = u + 1 := by omega
  go_enter Tryd.func65, Tryd.ntmps65
  go_wp2_with (first
    | (go_at_call 74; refine (kindOf_any _ _).mono ?_; rintro e w' ⟨rfl, rfl⟩; rw [hk])
    | fail)
  rw [HW.out]
  go_quiet ((go_at_call 80; exact Calls.quiet_of_same ((pair_any _ _ _).mono fun e w' ⟨h1, h2⟩ => ⟨h1.trans (by rw [HP.out]), h2.symm⟩)))
  have hW := HW.out
  subst hW
  clear HW
  go_wp2
  exact tok_done (G := w.heap.size + 1) rfl rfl (HB.out.trans ((Quiet.one _ _).below _)) (by omega) (HS.out _ (by omega)) (HS.out _ (by omega)) (HS.out _ (by omega)) rfl rfl (by go_num)

set_option maxRecDepth 10000 in
set_option maxHeartbeats 1600000 in
/-- .. that doesn't. -/
theorem tokenAt_one (n c u : Nat) (c0 d0 k : Int) (w : World) (b off : Nat) (hb : b < w.heap.size) (hc0 : w.cell? ⟨b, off + u, none⟩ = some (.int .u8 c0)) (hd0 : w.cell? ⟨b, off + (u + 1), none⟩ = some (.int .u8 d0)) (hn : n ≤ 1000000) (hnc : n ≤ c) (hcm : c ≤ maxLen) (hu : u + 1 < n)
    (hk : kd c0 = k) (h4 : 4 ≤ k) (hp : pairB c0 d0 = false) :
    Calls Tryd.prog 65 #[.slice (some ⟨b, off, none⟩) n c, .int .i64 (u : Int)] w (TokTo (k, u, ((u + 1 : Nat) : Int)) w) := by
  have HB : Hid (Below w.heap.size w (tokW w (.slice (some ⟨b, off, none⟩) n c) k u)) := Lib.hid (tokW_below w (.slice (some ⟨b, off, none⟩) n c) k u)
  have HS := Lib.hid (tokW_s w (.slice (some ⟨b, off, none⟩) n c) k u)
  have ka := tokW_a w (.slice (some ⟨b, off, none⟩) n c) k u
  have kk := tokW_k w (.slice (some ⟨b, off, none⟩) n c) k u
  have ku := tokW_u w (.slice (some ⟨b, off, none⟩) n c) k u
  have k0 := tokW_0 w (.slice (some ⟨b, off, none⟩) n c) k u 0 (by omega)
  have k1 := tokW_0 w (.slice (some ⟨b, off, none⟩) n c) k u 1 (by omega)
  have k2 := tokW_0 w (.slice (some ⟨b, off, none⟩) n c) k u 2 (by omega)
  have ke := tokW_e w (.slice (some ⟨b, off, none⟩) n c) k u
  have hold := fun p (hp : p.block < w.heap.size) => (tokW_below w (.slice (some ⟨b, off, none⟩) n c) k u).cell (p := p) hp
  have kc : (tokW w (.slice (some ⟨b, off, none⟩) n c) k u).cell? ⟨b, off + u, none⟩ = some (.int .u8 c0) := (hold ⟨b, _, none⟩ hb).trans hc0
  have kd0 : (tokW w (.slice (some ⟨b, off, none⟩) n c) k u).cell? ⟨b, off + (u + 1), none⟩ = some (.int .u8 d0) := (hold ⟨b, _, none⟩ hb).trans hd0
  obtain ⟨W, hW⟩ : ∃ W, ((w.alloc (.cells #[.slice (some ⟨b, off, none⟩) n c] 22)).alloc (.cells #[.int .i64 0, .int .i64 0, .int .i64 0] 49)).alloc (.cells #[.int .i64 k, .int .i64 (u : Int), .int .i64 ((u : Int) + 1)] 49) = W := ⟨_, rfl⟩
  unfold tokW at HB HS ka kk ku k0 k1 k2 ke hold kc kd0
  rw [hW] at HB HS ka kk ku k0 k1 k2 ke kc kd0
  rw [show (((u + 1 : Nat) : Int)) = (u : Int) + 1 by omega] at ke
  have HW := Lib.hid hW
  clear hold hW
  have HP := Lib.hid hp
  clear hp
  unfold maxLen at hcm
  have hz := zeroTok w
  have h0 : (k == 0) = false := by simp; omega
  have h1 : (k == 1) = false := by simp; omega
  have h2 : (k == 2) = false := by simp; omega
  have h3 : (k == 3) = false := by simp; omega
  have hlt : (u : Int) + 1 < (n : Int) := by omega
  have hpos : 0 ≤ (u : Int) + 1 := by omega
  have hto : ((u : Int) + 1).toNat = u + 1 := by omega
  go_enter Tryd.func65, Tryd.ntmps65
  go_wp2_with (first
    | (go_at_call 74; refine (kindOf_any _ _).mono ?_; rintro e w' ⟨rfl, rfl⟩; rw [hk])
    | fail)
  rw [HW.out]
  go_quiet ((go_at_call 80; exact Calls.quiet_of_same ((pair_any _ _ _).mono fun e w' ⟨h1, h2⟩ => ⟨h1.trans (by rw [HP.out]), h2.symm⟩)))
  have hW := HW.out
  subst hW
  clear HW
  go_wp2
  exact tok_done (G := w.heap.size + 1) rfl rfl (HB.out.trans ((Quiet.one _ _).below _)) (by omega) (HS.out _ (by omega)) (HS.out _ (by omega)) (HS.out _ (by omega)) rfl rfl rfl

/-- tokenAt(b, u): the token that stands there. -/
theorem tokenAt_any (A : Option Addr) (n c u : Nat) (bs : List Int) (w : World) (hx : Sh w w.heap.size A n (by8 bs)) (hn : n ≤ 1000000) (hnc : n ≤ c) (hcm : c ≤ maxLen) (hu : u < n) :
    Calls Tryd.prog 65 #[.slice A n c, .int .i64 (u : Int)] w (TokTo (tk (bs.drop u), u, ((u + tl (bs.drop u) : Nat) : Int)) w) := by
  have hl : bs.length = n := by have := hx.len; rwa [by8_len] at this
  obtain ⟨b, off, rfl, hb, hc0⟩ := hx.byte hu
  have hd : bs.drop u = bs.getD u 0 :: bs.drop (u + 1) := by
    rw [List.drop_eq_getElem_cons (by omega)]
    simp [show u < bs.length by omega]
  obtain ⟨c0, e0⟩ : ∃ c0, bs.getD u 0 = c0 := ⟨_, rfl⟩
  rw [e0] at hd hc0
  have hr := kd_range c0
  rw [hd, tk_cons, tl_cons]
  by_cases h4 : kd c0 < 4
  · rw [if_pos h4, if_pos h4]
    have hh : kd c0 = 0 ∨ kd c0 = 1 ∨ kd c0 = 2 ∨ kd c0 = 3 := by omega
    have hto : ∀ k : Int, TokTo (k, (u : Int), ((u + 1 : Nat) : Int) + (runB (goes k) (bs.drop (u + 1)) : Int)) w = TokTo (k, (u : Int), ((u + (1 + runB (goes k) (bs.drop (u + 1))) : Nat) : Int)) w := fun k => by
      have : ((u + 1 : Nat) : Int) + (runB (goes k) (bs.drop (u + 1)) : Int) = ((u + (1 + runB (goes k) (bs.drop (u + 1))) : Nat) : Int) := by omega
      rw [this]
    rcases hh with h | h | h | h
    · have := tokenAt_0 n c u c0 bs w b off hb hc0 hx hn hnc hcm hu h
      rw [h, ← hto]; exact this
    · have := tokenAt_1 n c u c0 bs w b off hb hc0 hx hn hnc hcm hu h
      rw [h, ← hto]; exact this
    · have := tokenAt_2 n c u c0 bs w b off hb hc0 hx hn hnc hcm hu h
      rw [h, ← hto]; exact this
    · have := tokenAt_3 n c u c0 bs w b off hb hc0 hx hn hnc hcm hu h
      rw [h, ← hto]; exact this
  · rw [if_neg h4, if_neg h4]
    by_cases hlast : u + 1 = n
    · have : bs.drop (u + 1) = [] := List.drop_of_length_le (by omega)
      rw [this]
      exact tokenAt_last n c u c0 (kd c0) w b off hb hc0 hn hnc hcm hlast rfl (by omega)
    · obtain ⟨b', off', e', hb', hd0⟩ := hx.byte (k := u + 1) (by omega)
      cases e'
      have hd1 : bs.drop (u + 1) = bs.getD (u + 1) 0 :: bs.drop (u + 1 + 1) := by
        rw [List.drop_eq_getElem_cons (by omega)]
        simp [show u + 1 < bs.length by omega]
      rw [hd1]
      show Calls _ _ _ _ (TokTo (if pairB c0 (bs.getD (u + 1) 0) = true then 4 else kd c0, (u : Int), ((u + if pairB c0 (bs.getD (u + 1) 0) = true then 2 else 1 : Nat) : Int)) w)
      by_cases hp : pairB c0 (bs.getD (u + 1) 0) = true
      · rw [if_pos hp, if_pos hp]
        exact tokenAt_two n c u c0 _ (kd c0) w b off hb hc0 hd0 hn hnc hcm (by omega) rfl (by omega) hp
      · rw [if_neg hp, if_neg hp]
        exact tokenAt_one n c u c0 _ (kd c0) w b off hb hc0 hd0 hn hnc hcm (by omega) rfl (by omega) (by simpa using hp)
end Go.Proofs.YtnhhdafhnngolaaDoor
