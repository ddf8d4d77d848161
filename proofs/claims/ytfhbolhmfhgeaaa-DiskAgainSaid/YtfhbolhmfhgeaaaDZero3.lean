/-
  CREATE OF THE DOCUMENT'S DISK, NEW.
-/
import Derived.Test.YtfhbolhmfhgeaaaDZero2
namespace Go.Proofs.Ytfhbolhmfhgeaaa
set_option linter.unusedVariables false
set_option linter.unusedSimpArgs false
open Go.RowKit Go.Maps

section
variable {P : Program} {ops : Array Oper} {rest : List Oper} {o : Oper} {a : Act} {Q : Exit → Act → World → Prop}
theorem wp_lit1 {K : Act → World → Prop} (s x : Operand) (t : TypeId) (ho : o.op = .call { callee := .builtin .append, args := #[s, x], argTypes := #[t, t] })
    {e : TypeId} {size bytes : Nat} (hT : RowT P t e size bytes) (w0 w3 w : World) (r j : Nat) (v0 : Value) (q p : Nat) (us : List Value) (hs : a.eval s = .slice (some ⟨q, 0, none⟩) 0 0)
    (hx : a.eval x = .slice (some ⟨p, 0, none⟩) 1 1) (hl : us.length = size) (h1 : ∀ u ∈ us, u.oneCell' = true) (hL : Lit w3 w q p e size us) (hby : bytes ≤ 64)
    (hc : w3.cell? ⟨r, j, none⟩ = some v0) (hz : w3.frozen? ⟨r, j, none⟩ = false) (hg : w0.grownBy w3 (some r))
    (h : ∀ A c w', w'.heap[r]? = w3.heap[r]? → w0.grownBy w' (some r) → K (a.put o.dst (.slice A 1 c)) w') : o.wp P a w K Q := by
  obtain ⟨ht, i, z, hi, hz', hsize, hbytes, hzs, hpos⟩ := hT
  have hbb : (0 + 1) * bytes ≤ 140737488355328 := Nat.le_trans (Nat.mul_le_mul (Nat.le_refl _) hby) (by decide)
  refine wp_append_own _ s x t ho 0 e i z size bytes ht hi hz' hsize hbytes hzs hpos _ 0 [] hs hL.own ⟨p, 0, none⟩ 1 1 us hx (by simpa using hl) ?_ h1
    (by unfold maxLen; omega) hbb (Nat.zero_le _) ?_
  · intro k u hu
    rw [Addr.add_lit, Nat.zero_add]
    exact hL.cells k u hu
  · intro v' w' ho' hg' _
    have hr : r < w3.heap.size := World.block_lt_of_cell? _ _ hc
    have hr' : r < w.heap.size := Nat.lt_of_lt_of_le hr hL.below.size
    have hq := hL.hq
    have hne : some r ≠ Value.ownBlock (.slice (some ⟨q, 0, none⟩) 0 0) := fun e => by
      have : r = q := by simpa [Value.ownBlock] using e
      omega
    have hvf : ∃ A c, v' = .slice A 1 c := by
      rcases ho'.2 with ⟨rfl, h0⟩ | ⟨g, cap, cur, rfl, _⟩
      · cases h0
      · exact ⟨_, _, rfl⟩
    obtain ⟨A, c, rfl⟩ := hvf
    refine h A c w' ?_ ?_
    · exact (hg'.block r hr' hne).trans (hL.below.block r hr)
    · have g1 : w0.grownBy w (some r) := grown_trans hg (grown_of_below hL.below _)
      refine g1.andThen hg' (fun k hk => .inl ?_)
      have : q = k := by simpa [Value.ownBlock] using hk
      have := hg.size
      omega
theorem wpList_lit1 (hgd : Region.wanted o (yielded ops a.tmps) = true) (s x : Operand) (t : TypeId) (ho : o.op = .call { callee := .builtin .append, args := #[s, x], argTypes := #[t, t] })
    {e : TypeId} {size bytes : Nat} (hT : RowT P t e size bytes) (w0 w3 w : World) (r j : Nat) (v0 : Value) (q p : Nat) (us : List Value) (hs : a.eval s = .slice (some ⟨q, 0, none⟩) 0 0)
    (hx : a.eval x = .slice (some ⟨p, 0, none⟩) 1 1) (hl : us.length = size) (h1 : ∀ u ∈ us, u.oneCell' = true) (hL : Lit w3 w q p e size us) (hby : bytes ≤ 64)
    (hc : w3.cell? ⟨r, j, none⟩ = some v0) (hz : w3.frozen? ⟨r, j, none⟩ = false) (hg : w0.grownBy w3 (some r))
    (h : ∀ A c w', w'.heap[r]? = w3.heap[r]? → w0.grownBy w' (some r) → wpList P ops Q rest (a.put o.dst (.slice A 1 c)) w') : wpList P ops Q (o :: rest) a w :=
  wpList_wanted hgd fun _ hK => wp_lit1 s x t ho hT w0 w3 w r j v0 q p us hs hx hl h1 hL hby hc hz hg fun A c w' h1 h3 => hK _ _ (h A c w' h1 h3)
end

set_option maxRecDepth 10000 in
set_option maxHeartbeats 1600000 in
theorem rz_create {w : World} {r : Nat} (h : RZ w r) (s : ByteArray) (hs : s.size ≤ maxLen) : Calls Try.prog 40 #[.pointer (some ⟨r, 0, none⟩), .string s] w fun e w' => (∃ n : Int, e = .returned (.int .i64 n)) ∧ w.grownBy w' (some r) := by
  obtain ⟨w1, hw1⟩ : ∃ w1, w1 = w.setCell ⟨r, 6, none⟩ (.int .i64 1) := ⟨_, rfl⟩
  have hb : Blk w1 r 52 [.slice none 0 0, .slice none 0 0, .slice none 0 0, .slice none 0 0, .int .i64 0, .bool false, .int .i64 1, .int .i64 0, .int .i64 0, .int .i64 0] := by
    rw [hw1]
    exact Blk.set h 6 _
  have c0 : w1.cell? ⟨r, 0, none⟩ = some (.slice none 0 0) := hb.cell 0
  have c1 : w1.cell? ⟨r, 1, none⟩ = some (.slice none 0 0) := hb.cell 1
  have c3 : w1.cell? ⟨r, 3, none⟩ = some (.slice none 0 0) := hb.cell 3
  have f0 := hb.nf 0
  have f1 := hb.nf 1
  have f3 := hb.nf 3
  have hr := hb.lt
  have hzf : ∀ w : World, (zeroValue 84).run Try.prog w = .ok (.agg #[.slice none 0 0, .int .i64 0]) w := fun w => by kernel_rfl
  have G1 : Hid (w.grownBy w1 (some r)) := Lib.hid (by rw [hw1]; exact grown_set _ _ _ _)
  have HB := Lib.hid (rz_begin h)
  have HW := Lib.hid hw1.symm
  have HN := Lib.hid (refName_any s w1 hs)
  obtain ⟨nb, hnb⟩ : ∃ nb, nb = nameB s.data.toList := ⟨_, rfl⟩
  rw [← hnb] at HN
  clear h hb hw1 hnb hs
  go_enter Try.func40, Try.ntmps40
  go_wp2_with fail
  refine HB.out.mono ?_
  rintro e w2 ⟨rfl, rfl⟩
  rw [HW.out]
  go_wp2_with fail
  refine HN.out.mono ?_
  rintro e w2 ⟨rfl, rfl⟩
  cases nb
  · go_wp2_with fail
    go_ret
    exact ⟨⟨_, rfl⟩, G1.out⟩
  · go_wp2_with fail
    refine (find_nil _ _).mono ?_
    rintro e w2 ⟨rfl, rfl⟩
    go_wp2_with (first
      | (at_builtin; refine wpList_lit1 rfl (.tmp 33) (.tmp 35) 48 rfl rowFi w1 w1 _ r 0 _ w1.heap.size (w1.heap.size + 1) [.slice none 0 0, .int .i64 0] rfl rfl rfl (fun u hu => by simp at hu; rcases hu with rfl | rfl <;> rfl) (Lit.c w1 _ _ _ _) (by decide) c0 f0 (grown_refl _ _) ?_; intro A c w4 e4 g4; have e3 : w4.cell? ⟨r, 0, none⟩ = some (.slice none 0 0) := (World.cell?_of_block (a := ⟨r, 0, none⟩) e4).trans c0; have y3 : w4.frozen? ⟨r, 0, none⟩ = false := (World.frozen?_of_block (a := ⟨r, 0, none⟩) e4).trans f0; have E4 := Lib.hid e4; have G4 := Lib.hid g4; clear e4 g4)
      | fail)
    have d1 : (w4.setCell ⟨r, 0, none⟩ (.slice A 1 c)).cell? ⟨r, 1, none⟩ = some (.slice none 0 0) := by
      rw [World.cell?_setCell_other _ _ _ _ (fun e => by injection e with _ e2; exact absurd e2 (by decide))]
      exact (World.cell?_of_block (a := ⟨r, 1, none⟩) E4.out).trans c1
    have d3 : (w4.setCell ⟨r, 0, none⟩ (.slice A 1 c)).cell? ⟨r, 3, none⟩ = some (.slice none 0 0) := by
      rw [World.cell?_setCell_other _ _ _ _ (fun e => by injection e with _ e2; exact absurd e2 (by decide))]
      exact (World.cell?_of_block (a := ⟨r, 3, none⟩) E4.out).trans c3
    have y1 : (w4.setCell ⟨r, 0, none⟩ (.slice A 1 c)).frozen? ⟨r, 1, none⟩ = false := by
      rw [World.frozen?_setCell]
      exact (World.frozen?_of_block (a := ⟨r, 1, none⟩) E4.out).trans f1
    have y3' : (w4.setCell ⟨r, 0, none⟩ (.slice A 1 c)).frozen? ⟨r, 3, none⟩ = false := by
      rw [World.frozen?_setCell]
      exact (World.frozen?_of_block (a := ⟨r, 3, none⟩) E4.out).trans f3
    refine (turn_nil s 0 _ r (by omega) d1 d3 y1 y3' (World.block_lt_of_cell? _ _ d1)).mono ?_
    rintro e w6 ⟨rfl, g6⟩
    go_wp2_with fail
    go_ret
    exact ⟨⟨_, rfl⟩, grown_trans G1.out (grown_trans (grown_set' G4.out) g6)⟩
end Go.Proofs.Ytfhbolhmfhgeaaa
