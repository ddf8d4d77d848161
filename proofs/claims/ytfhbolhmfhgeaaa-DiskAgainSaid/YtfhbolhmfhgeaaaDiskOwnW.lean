/-
  What is handed in, and what is answered, is memory of its own: whoever writes into it turns nothing. It holds for any two rows of bytes; of more than 500 bytes it says that the document's example holds.
-/
import Derived.Test.YtfhbolhmfhgeaaaDAwake
import Derived.Test.YtfhbolhmfhgeaaaLent
namespace Go.Proofs.Ytfhbolhmfhgeaaa
set_option linter.unusedVariables false
set_option linter.unusedSimpArgs false
open Go.RowKit Go.Maps

set_option maxRecDepth 100000 in
set_option maxHeartbeats 800000 in
theorem diskOwn_long (A B : Option Addr) (n m c d : Nat) (w : World) (h : 500 < n ∨ (¬ 500 < n ∧ 500 < m)) (hn : n ≤ maxLen) (hm : m ≤ maxLen) :
    Calls Try.prog 5 #[.slice A n c, .slice B m d] w fun e w' => e = .returned (.bool true) ∧ Below w.heap.size w w' := by
  unfold maxLen at hn hm
  rcases h with h | ⟨h, h'⟩
  all_goals
    go_enter Try.func5, Try.ntmps5
    go_wp2_with fail
    refine (awake_any _).mono ?_
    rintro e w4 ⟨rfl, hb4⟩
    go_wp2
    go_ret
    exact ⟨rfl, hb4⟩

/-- Bytes that may be written. -/
def Scr (w : World) (A : Option Addr) (n : Nat) : Prop := ∀ k, k < n → ∃ g y, A = some ⟨g, 0, none⟩ ∧ w.cell? ⟨g, k, none⟩ = some (.int .u8 y) ∧ w.frozen? ⟨g, k, none⟩ = false
theorem Scr.of_own {w : World} {B n c : Nat} {A : Option Addr} {xs : List Int} {k : Nat} (h : Own w B 5 1 (.slice A n c) n (by8 xs)) (hk : k ≤ n) : Scr w A k := fun j hj => by
  obtain ⟨b, off, e, _, hc⟩ := h.sh.byte (k := j) (by omega)
  obtain ⟨g, cap, e2, _⟩ := h.1.form (by omega)
  injection e2 with e2 _ _
  subst e2
  cases e
  rw [Nat.zero_add] at hc
  exact ⟨_, _, rfl, hc, h.1.frozenAt j⟩
theorem Scr.set {w : World} {A : Option Addr} {n : Nat} {g k : Nat} {y : Int} (h : Scr w A n) : Scr (w.setCell ⟨g, k, none⟩ (.int .u8 y)) A n := fun j hj => by
  obtain ⟨g', y', e, hc, hz⟩ := h j hj
  by_cases e1 : (⟨g, k, none⟩ : Addr) = ⟨g', j, none⟩
  · injection e1 with e2 e3
    subst e2
    subst e3
    exact ⟨_, y, e, World.cell?_setCell_same _ _ _ hc, (World.frozen?_setCell _ _ _ _).trans hz⟩
  · exact ⟨_, y', e, (World.cell?_setCell_other _ _ _ _ e1).trans hc, (World.frozen?_setCell _ _ _ _).trans hz⟩
theorem Own.kept {X : Nat → Prop} {w w' : World} {B n size : Nat} {e : TypeId} {v : Value} {xs : List Value} (h : Own w B e size v n xs) (hk : Keeps X w w') (hX : ∀ j, v.ownBlock = some j → X j) : Own w' B e size v n xs := by
  refine ⟨⟨h.1.1, ?_⟩, Nat.le_trans h.2 hk.size⟩
  rcases h.1.2 with h1 | ⟨g, cap, cur, h1, h2, h3, r⟩
  · exact .inl h1
  · exact .inr ⟨g, cap, cur, h1, h2, (hk.block g (hX g (by rw [h1]; rfl))).trans h3, r⟩
theorem Own.other {w w' : World} {B n size : Nat} {e : TypeId} {v : Value} {xs : List Value} (h : Own w B e size v n xs) {row : Option Nat} (hg : w.grownBy w' row) (hne : v.ownBlock ≠ row) : Own w' B e size v n xs :=
  ⟨h.1.kept hg (.inr hne), Nat.le_trans h.2 hg.size⟩
theorem below_grown {a b : World} {B : Nat} {row : Option Nat} (h : a.grownBy b row) (hB : B ≤ a.heap.size) (hr : ∀ k, row = some k → B ≤ k) : Below B a b :=
  ⟨h.os, h.tape, h.output, h.size, fun k hk => h.block k (by omega) (fun e => by have := hr k e.symm; omega)⟩
theorem ownBlock_some (g n c : Nat) : Value.ownBlock (.slice (some ⟨g, 0, none⟩) n c) = some g := rfl

/-- The disk of this law. -/
def ownSt (b : Nat) (xs : List Int) (u : Nat) (calls : Nat) : St := { cap := 2000, fs := [⟨b, xs, u, false⟩], names := [([97], b)], sure := [([97], b)], waits := [], calls := calls, fuse := 0, fault := 0, fe := 0, dead := false }
theorem own_append (b : Nat) (xs ys : List Int) (h : xs.length + ys.length ≤ 1000) : (ownSt b xs 0 0).append [97] ys = (ownSt b (xs ++ ys) ys.length 1, 0) := by
  have : ¬ (2000 : Int) < (xs.length : Int) + (ys.length : Int) := by omega
  simp [St.append, ownSt, St.berr, St.begun, nat?, usedOf, lenAt, updF, this]
theorem own_read (b : Nat) (xs : List Int) (u c : Nat) : (ownSt b xs u c).read [97] = (xs, 0) := by simp [St.read, ownSt, nat?]
theorem own_closed (b : Nat) (d : List Int) (u c : Nat) : Closed (ownSt b d u c).names (ownSt b d u c).fs := ex_closed b _ _ _
theorem own_new {w w' : World} {g : Nat} {L : Lay} {fs : List Fl} {xs : List Int} (h : IsNew w w' [⟨aStr, xs⟩] 2000 g L fs) : ∃ b, DAt w' (Low w.heap.size) g L (ownSt b xs 0 0) := by
  have hm := h.made
  match fs, hm with
  | [f], hm =>
    obtain ⟨b, d, u, v⟩ := f
    obtain ⟨⟨h1, h2, h3⟩, _⟩ := hm
    simp only at h1 h2 h3
    subst h1
    subst h2
    subst h3
    exact ⟨b, h.at_⟩

theorem own_read_any {w : World} {X : Nat → Prop} {g b u c N : Nat} {L : Lay} {xs : List Int} (h : DAt w X g L (ownSt b xs u c)) (hN : xs.length = N) (hl : N ≤ 1000) :
    Calls Try.prog 15 #[.pointer (some ⟨g, 0, none⟩), .string ⟨#[97]⟩] w fun e w' => ∃ A c, e = .returned (.tuple #[.slice A N c, .int .i64 0]) ∧ Own w' w.heap.size 5 1 (.slice A N c) N (by8 xs) ∧ Below w.heap.size w w' := by
  subst hN
  have hrd := read_any h aStr (by show 1 ≤ maxLen; decide) (own_closed b _ _ _) (fun f hf => by rw [List.mem_singleton.1 hf]; show xs.length ≤ 1048576; omega)
  refine hrd.mono ?_
  rw [show (ownSt b xs u c).read aStr.data.toList = (xs, 0) from own_read b xs u c]
  rintro e w' ⟨v, rfl, ho, hb⟩
  obtain ⟨A, c, rfl⟩ := ho.form
  exact ⟨A, c, rfl, ho, hb⟩

set_option maxRecDepth 100000 in
set_option maxHeartbeats 6400000 in
theorem diskOwn_short (A B : Option Addr) (n m c d : Nat) (xs ys : List Int) (w : World) (h1 : ¬ 500 < n) (h2 : ¬ 500 < m) (hx : Sh w w.heap.size A n (by8 xs)) (hy : Sh w w.heap.size B m (by8 ys)) :
    Calls Try.prog 5 #[.slice A n c, .slice B m d] w fun e w' => e = .returned (.bool true) ∧ Below w.heap.size w w' := by
  have hxl : xs.length = n := by have := hx.len; rwa [by8_len] at this
  have hyl : ys.length = m := by have := hy.len; rwa [by8_len] at this
  have HXL := Lib.hid hxl
  have HYL := Lib.hid hyl
  have HX := Lib.hid hx
  have HY := Lib.hid hy
  clear hx hy hxl hyl
  have hd1 : decide ((500 : Int) < (n : Int)) = false := by simp; omega
  have hd2 : decide ((500 : Int) < (m : Int)) = false := by simp; omega
  have hn5 : n ≤ 500 := by omega
  have hm5 : m ≤ 500 := by omega
  go_enter Try.func5, Try.ntmps5
  go_wp2_with fail
  refine (lent_any A n c xs w _ HX.out (by omega) (Nat.le_refl _)).mono ?_
  rintro e w1 ⟨G, g1, rfl, ho1, hb1⟩
  obtain ⟨gi, hG⟩ : ∃ gi, G = some ⟨gi, 0, none⟩ := by
    obtain ⟨g', cap', e, _⟩ := ho1.1.form (by omega)
    injection e with e _ _
    exact ⟨g', e⟩
  subst hG
  have hgi := (ho1.1.lt gi rfl)
  have O1 := Lib.hid ho1
  have B1 := Lib.hid hb1
  clear ho1 hb1
  obtain ⟨w2, hw2⟩ : ∃ w2, w2 = w1.alloc (.cells #[.string ⟨#[97]⟩, .slice (some ⟨gi, 0, none⟩) n g1] 58) := ⟨_, rfl⟩
  have hb2 : Below w1.heap.size w1 w2 := by rw [hw2]; exact (Below.refl _ _).alloc (Nat.le_refl _) _
  have hs2 : w2.heap.size = w1.heap.size + 1 := by rw [hw2]; simp
  have hin : InAt w2 w2.heap.size (some ⟨w1.heap.size, 0, none⟩) 1 [⟨aStr, xs⟩] := by
    refine ⟨rfl, fun k f hf => ?_⟩
    have hk : k = 0 := by
      have := (List.getElem?_eq_some_iff.1 hf).1
      simpa using this
    subst hk
    cases hf
    refine ⟨w1.heap.size, 0, some ⟨gi, 0, none⟩, g1, rfl, by omega, ?_, ?_, ?_, by show 1 ≤ maxLen; decide, by show xs.length ≤ maxLen; rw [HXL.out]; unfold maxLen; omega⟩
    · rw [hw2, World.cell?_alloc_at _ _ _ _ rfl]
      rfl
    · rw [hw2, World.cell?_alloc_at _ _ _ _ rfl]
      show _ = some (Value.slice _ xs.length g1)
      rw [HXL.out]
      rfl
    · have := (O1.out.sh.head (k := n) (by omega))
      rw [by8_take, List.take_append_of_le_length (by rw [HXL.out]; exact Nat.le_refl _), List.take_of_length_le (by rw [HXL.out]; exact Nat.le_refl _)] at this
      show Sh w2 w2.heap.size _ xs.length _
      rw [HXL.out]
      exact (this.below hb2).more (by omega)
  have HNEW := Lib.hid (new_any (some ⟨w1.heap.size, 0, none⟩) 1 1 [⟨aStr, xs⟩] 2000 w2 hin (by decide))
  have HW2 := Lib.hid hw2.symm
  clear hw2 hin
  go_wp2_with fail
  rw [HW2.out]
  refine HNEW.out.mono ?_
  rintro e w3 ⟨hb3, ⟨_, g, L, fs, rfl, hnew⟩ | ⟨h0, _⟩⟩
  rotate_left
  · have : (fitsB [⟨aStr, xs⟩] 2000 && namesB [⟨aStr, xs⟩]) = true := by
      have e1 : fitsB [⟨aStr, xs⟩] 2000 = true := by
        unfold fitsB
        rw [decide_eq_true]
        have := HXL.out
        simp [sizeF]
        omega
      rw [e1]
      rfl
    rw [this] at h0
    cases h0
  obtain ⟨b, hD3⟩ := own_new hnew
  have O3 := Lib.hid (((O1.out.below hb2)).below hb3)
  have B3 := Lib.hid ((B1.out.trans (hb2.mono B1.out.size)).trans (hb3.mono (Nat.le_trans B1.out.size hb2.size)))
  have D3 := Lib.hid hD3
  have hgi2 : gi < w2.heap.size := by omega
  have hgw : w.heap.size ≤ gi := hgi.1
  have hs3 : w2.heap.size ≤ w3.heap.size := hb3.size
  clear hnew hD3 hb3 HNEW hb2 HW2 hgi
  -- Lent(more)
  unfold ptrTo
  go_wp2_with fail
  refine (lent_any B m d ys w3 _ (HY.out.below B3.out) (by omega) B3.out.size).mono ?_
  rintro e w4 ⟨G2, g2, rfl, ho4, hb4⟩
  obtain ⟨ga, hG⟩ : ∃ ga, G2 = some ⟨ga, 0, none⟩ := by
    obtain ⟨g', cap', e, _⟩ := ho4.1.form (by omega)
    injection e with e _ _
    exact ⟨g', e⟩
  subst hG
  have hga := ho4.1.lt ga rfl
  have D4 := Lib.hid (D3.out.wide hb4)
  have O4 := Lib.hid (O3.out.below hb4)
  have P4 := Lib.hid ho4
  have B4 := Lib.hid (B3.out.trans (hb4.mono B3.out.size))
  obtain ⟨X, hXdef⟩ : ∃ X, X = With (Low w2.heap.size) w3 w4 := ⟨_, rfl⟩
  rw [← hXdef] at D4
  have hXi : X gi := by rw [hXdef]; exact .inl hgi2
  have hXa : X ga := by rw [hXdef]; exact .inr ⟨hga.1, hga.2⟩
  have hXw : ∀ k, k < w.heap.size → X k := fun k hk => by rw [hXdef]; exact .inl (by unfold Low; omega)
  have hne : gi ≠ ga := by omega
  have hgaw : w.heap.size ≤ ga := by have := B3.out.size; omega
  have HXX := Lib.hid (And.intro hXi (And.intro hXa (And.intro hXw hne)))
  clear hXdef hXi hXa hXw hb4 ho4 hga hne D3 O3
  -- Append
  have hsx : ShX w4 X (some ⟨ga, 0, none⟩) m (by8 ys) := by
    have h0 := P4.out.sh.head (k := m) (by omega)
    rw [by8_take, List.take_append_of_le_length (by rw [HYL.out]; exact Nat.le_refl _), List.take_of_length_le (by rw [HYL.out]; exact Nat.le_refl _)] at h0
    refine ⟨h0.1, fun hm => ?_⟩
    obtain ⟨b', off', e, _, hc⟩ := h0.2 hm
    cases e
    exact ⟨ga, 0, rfl, HXX.out.2.1, hc⟩
  have HAP := Lib.hid (append_any D4.out (by show 0 ≤ 100000; omega) aStr (by show 1 ≤ maxLen; decide) (own_closed b xs 0 0) (by show 1 ≤ 1000; omega) (fun f hf => by rw [List.mem_singleton.1 hf]; have := HXL.out; show xs.length ≤ 1048576; omega) (fun f hf => by rw [List.mem_singleton.1 hf]; show 0 ≤ 1048576; omega) (by show (0 : Int) ≤ 2000 ∧ (2000 : Int) ≤ 1048576; omega) _ m g2 ys hsx (by omega))
  have hap := own_append b xs ys (by have := HXL.out; have := HYL.out; omega)
  first | rw [aStr_list, hap] at HAP | rw [hap] at HAP
  unfold ptrTo at HAP
  clear hsx hap
  go_wp2_with fail
  refine HAP.out.mono ?_
  rintro e w5 ⟨rfl, ⟨L5, D5⟩, K5⟩
  have O5 := Lib.hid (O4.out.kept K5 (fun j hj => by cases hj; exact HXX.out.1))
  have P5 := Lib.hid (P4.out.kept K5 (fun j hj => by cases hj; exact HXX.out.2.1))
  have B5 := Lib.hid (B4.out.trans (K5.below HXX.out.2.2.1))
  have D5 := Lib.hid D5
  clear K5 HAP O4 P4 D4
  -- Kept, twice
  go_wp2_with fail
  refine (kept_yes _ A n g1 c xs w5 _ _ O5.out.sh O5.out.cap.1 (HX.out.below B5.out) (by omega)).mono ?_
  rintro e w6 ⟨rfl, q6, rfl⟩
  go_wp2_with fail
  refine (kept_yes _ B m g2 d ys _ _ _ (P5.out.drewN q6).sh P5.out.cap.1 ((HY.out.below B5.out).drewN q6) (by omega)).mono ?_
  rintro e w7 ⟨rfl, q7, rfl⟩
  obtain ⟨v7, hv7⟩ : ∃ v7, v7 = (w5.drewN q6).drewN q7 := ⟨_, rfl⟩
  have hq : Quiet w5 v7 := by rw [hv7]; exact Quiet.two _ _ _
  rw [← hv7]
  have O7 := Lib.hid (O5.out.quiet hq)
  have P7 := Lib.hid (P5.out.quiet hq)
  have B7 := Lib.hid (B5.out.trans (hq.below _))
  have D7 := Lib.hid (D5.out.quiet hq)
  have hs1 : Scr v7 (some ⟨gi, 0, none⟩) n := Scr.of_own O7.out (by omega)
  clear hv7 hq O5 P5 B5 D5
  go_wp2
  go_loopw [8] (fun i wr => ∃ k : Nat, k ≤ n ∧ i = .int .i64 k ∧ Scr wr (some ⟨gi, 0, none⟩) n ∧ v7.grownBy wr (some gi)) (fun i _ => n - (intOf i).toNat)
  case atStart => exact ⟨0, Nat.zero_le _, rfl, hs1, grown_refl _ _⟩
  case round =>
    obtain ⟨k, hk, rfl, hsc, hgr⟩ := hrel
    by_cases hlt : k < n
    · obtain ⟨g', y, e, hc, hz⟩ := hsc k hlt
      cases e
      have HSC := Lib.hid (fun y => hsc.set (g := gi) (k := k) (y := y))
      have HGR := Lib.hid (fun v => grown_trans hgr (grown_set wr gi k v))
      clear hsc hgr hs1
      go_wp2
      go_roundw
      case rel => exact ⟨k + 1, by omega, by go_num, HSC.out _, HGR.out _⟩
      case measure => simp [intOf]; omega
    · obtain rfl : n = k := by omega
      obtain ⟨wa, hwa⟩ : ∃ wa, wa = wr := ⟨_, rfl⟩
      subst hwa
      have Da := Lib.hid (D7.out.foreign hgr (fun j e => by cases e; exact HXX.out.1))
      have Pa := Lib.hid (P7.out.other hgr (fun e => HXX.out.2.2.2 (by cases e; rfl)))
      have Ba := Lib.hid (B7.out.trans (below_grown hgr B7.out.size (fun j e => by cases e; exact hgw)))
      have hs2 : Scr wa (some ⟨ga, 0, none⟩) m := Scr.of_own Pa.out (by omega)
      clear hsc hgr hs1 D7 P7 B7 O7
      go_wp2
      go_loopw [9] (fun i wr => ∃ k : Nat, k ≤ m ∧ i = .int .i64 k ∧ Scr wr (some ⟨ga, 0, none⟩) m ∧ wa.grownBy wr (some ga)) (fun i _ => m - (intOf i).toNat)
      case atStart => exact ⟨0, Nat.zero_le _, rfl, hs2, grown_refl _ _⟩
      case round =>
        obtain ⟨k, hk, rfl, hsc, hgr⟩ := hrel
        by_cases hlt : k < m
        · obtain ⟨g', y, e, hc, hz⟩ := hsc k hlt
          cases e
          have HSC := Lib.hid (fun y => hsc.set (g := ga) (k := k) (y := y))
          have HGR := Lib.hid (fun v => grown_trans hgr (grown_set wr ga k v))
          clear hsc hgr hs2
          go_wp2
          go_roundw
          case rel => exact ⟨k + 1, by omega, by go_num, HSC.out _, HGR.out _⟩
          case measure => simp [intOf]; omega
        · obtain rfl : m = k := by omega
          obtain ⟨wb, hwb⟩ : ∃ wb, wb = wr := ⟨_, rfl⟩
          subst hwb
          have Db := Da.out.foreign hgr (fun j e => by cases e; exact HXX.out.2.1)
          have Bb := Lib.hid (Ba.out.trans (below_grown hgr Ba.out.size (fun j e => by cases e; exact hgaw)))
          clear hsc hgr hs2 Da Pa Ba
          have hlen : (xs ++ ys).length = n + m := by rw [List.length_append, HXL.out, HYL.out]
          have HRD := Lib.hid (own_read_any Db hlen (by omega))
          have HLEN := Lib.hid hlen
          have Db := Lib.hid Db
          clear hlen
          go_wp2_with fail
          refine HRD.out.mono ?_
          rintro e w8 ⟨A8, c8, rfl, ho8, hb8⟩
          have B8 := Lib.hid (Bb.out.trans (hb8.mono Bb.out.size))
          have D8 := Lib.hid (Db.out.wide hb8)
          have hs3 : Scr w8 A8 (n + m) := Scr.of_own ho8 (Nat.le_refl _)
          have hw8 : ∀ k : Nat, A8.map (·.block) = some k → wb.heap.size ≤ k ∧ k < w8.heap.size := fun k hk => ho8.1.lt k (by cases A8 with | none => cases hk | some a => exact hk)
          have HW8 := Lib.hid hw8
          clear hw8 HRD Db hb8 ho8
          go_wp2
          go_loopw [12] (fun i wr => ∃ k : Nat, k ≤ n + m ∧ i = .int .i64 k ∧ Scr wr A8 (n + m) ∧ w8.grownBy wr (A8.map (·.block))) (fun i _ => n + m - (intOf i).toNat)
          case atStart => exact ⟨0, Nat.zero_le _, rfl, hs3, grown_refl _ _⟩
          case round =>
            obtain ⟨k, hk, rfl, hsc, hgr⟩ := hrel
            by_cases hlt : k < n + m
            · obtain ⟨g', y, e, hc, hz⟩ := hsc k hlt
              subst e
              have HSC := Lib.hid (fun y => hsc.set (g := g') (k := k) (y := y))
              have HGR := Lib.hid (fun v => grown_trans hgr (grown_set wr g' k v))
              clear hsc hgr hs3
              go_wp2
              go_roundw
              case rel => exact ⟨k + 1, by omega, by go_num, HSC.out _, HGR.out _⟩
              case measure => simp [intOf]; omega
            · obtain ⟨wc, hwc⟩ : ∃ wc, wc = wr := ⟨_, rfl⟩
              subst hwc
              have Dc := D8.out.foreign hgr (fun j e => .inr (HW8.out j e))
              have Bc := Lib.hid (B8.out.trans (below_grown hgr B8.out.size (fun j e => Nat.le_trans Bb.out.size (HW8.out j e).1)))
              clear hsc hgr hs3 D8 B8
              have HRD := Lib.hid (own_read_any Dc HLEN.out (by omega))
              clear Dc
              go_wp2_with fail
              refine HRD.out.mono ?_
              rintro e w9 ⟨A9, c9, rfl, ho9, hb9⟩
              have B9 := Lib.hid (Bc.out.trans (hb9.mono Bc.out.size))
              have O9 := Lib.hid ho9
              have X9 := Lib.hid (HX.out.below B9.out)
              have Y9 := Lib.hid (HY.out.below B9.out)
              have hsz9 := Lib.hid B9.out.size
              clear ho9 hb9 HRD
              go_wp2_with (first
                | (at_builtin; refine wpList_more rfl (.tmp 104) (.tmp 105) 32 rfl rowB w9 (w9.alloc (.cells #[] 5)) w9.heap.size _ 0 [] (by8 xs) rfl (Own.empty w9 w9.heap.size 5 1 (Nat.le_refl _)) w.heap.size A n c rfl (X9.out.alloc hsz9.out _) (by8_one _) ((Below.refl _ _).alloc (Nat.le_refl _) _) (by omega) (by omega) ?_; intro v10 w10 ho10 hb10; have ho10 := ho10.cast (Nat.zero_add _) (List.nil_append _))
                | (at_builtin; refine wpList_more rfl (.tmp 106) (.tmp 107) 32 rfl rowB w9 w10 w9.heap.size _ n (by8 xs) (by8 ys) rfl ho10 w.heap.size B m d rfl ((Y9.out.below (hb10.mono hsz9.out))) (by8_one _) hb10 (by omega) (by omega) ?_; intro v11 w11 ho11 hb11; have ho11 := ho11.cast rfl (by8_append _ _).symm; obtain ⟨G11, g11, rfl⟩ := ho11.form)
                | fail)
              refine (same_yes A9 G11 (n + m) (n + m) c9 g11 (xs ++ ys) (xs ++ ys) w11 _ _ (O9.out.below hb11).sh ho11.sh (by unfold maxLen; omega) rfl).mono ?_
              rintro e w12 ⟨rfl, q12, rfl⟩
              go_wp2_with fail
              refine (awake_any _).mono ?_
              rintro e w13 ⟨rfl, hb13⟩
              have B13 := Lib.hid ((B9.out.trans ((hb11.mono hsz9.out).trans (Quiet.below ⟨q12, rfl⟩ _))).trans (hb13.mono (Nat.le_trans hsz9.out hb11.size)))
              go_wp2
              go_ret
              exact ⟨rfl, B13.out⟩

theorem diskOwn_walk (a0 : Option Addr) (len0 cap0 : Nat) (z0 : List Int) (a1 : Option Addr) (len1 cap1 : Nat) (z1 : List Int) (w : World) (w0 : IsRow .u8 w a0 len0 cap0 z0) (w1 : IsRow .u8 w a1 len1 cap1 z1) :
    Calls Try.prog 5 #[.slice a0 len0 cap0, .slice a1 len1 cap1] w fun e w' => e = .returned (.bool true) ∧ Below w.heap.size w w' := by
  obtain ⟨l0, m0, _, s0, b0⟩ := w0.sh
  obtain ⟨l1, m1, _, s1, b1⟩ := w1.sh
  by_cases h : 500 < len0
  · exact diskOwn_long _ _ _ _ _ _ _ (.inl h) (by omega) (by omega)
  · by_cases h' : 500 < len1
    · exact diskOwn_long _ _ _ _ _ _ _ (.inr ⟨h, h'⟩) (by omega) (by omega)
    · exact diskOwn_short _ _ _ _ _ _ _ _ _ h h' s0 s1
end Go.Proofs.Ytfhbolhmfhgeaaa
