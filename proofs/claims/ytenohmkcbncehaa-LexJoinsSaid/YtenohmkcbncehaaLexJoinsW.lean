/-
  blazonlaw06.LexJoins is true for every input: the tokens that count, of two texts with a line's end between, are those of both, the second one's so many places later.
  Conditions: none beyond the statement's own.
-/
import Derived.Test.YtenohmkcbncehaaLxC
namespace Go.Proofs.Ytenohmkcbncehaa
set_option linter.unusedVariables false
set_option linter.unusedSimpArgs false
open Go.RowKit

theorem lexJoins_long (A B : Option Addr) (n m c d : Nat) (w : World) (h : 1000 < n ∨ (¬ 1000 < n ∧ 1000 < m)) (hm : n ≤ maxLen) (hm2 : m ≤ maxLen) :
    Calls Try.prog 7 #[.slice A n c, .slice B m d] w fun e w' => e = .returned (.bool true) ∧ Below w.heap.size w w' := by
  unfold maxLen at hm hm2
  have h' : (1000 : Int) < (n : Int) ∨ (¬ (1000 : Int) < (n : Int) ∧ (1000 : Int) < (m : Int)) := by omega
  clear h
  rcases h' with h1 | ⟨h1, h2⟩
  all_goals
    go_enter Try.func7, Try.ntmps7
    go_wp2_with (go_at_call 8; refine (awake_any _).mono ?_; rintro e w1 ⟨rfl, b1⟩)
    go_ret
    exact ⟨rfl, b1⟩

theorem live_len (bs : List Int) : (live bs 0).length ≤ bs.length := by
  have := toks_len bs bs.length 0 (by omega)
  exact Nat.le_trans (List.length_filter_le _ _) (by omega)
theorem shift_snoc {Y : List Tk} {k : Nat} {t : Tk} (D : Int) (X : List Tk) (h : Y[k]? = some t) : X ++ (Y.take (k + 1)).map (shift D) = (X ++ (Y.take k).map (shift D)) ++ [shift D t] := by
  rw [take_snocT Y k t h]
  simp

theorem toks_in (bs : List Int) : ∀ (m u : Nat), bs.length - u ≤ m → ∀ t ∈ toks bs u, 0 ≤ t.2.1 ∧ t.2.1 ≤ bs.length ∧ 0 ≤ t.2.2 ∧ t.2.2 ≤ bs.length := by
  intro m
  induction m with
  | zero => intro u h t ht; rw [toks_end (by omega)] at ht; cases ht
  | succ m ih =>
    intro u h t ht
    by_cases hu : u < bs.length
    · have h1 := tl_pos (bs.drop u)
      have h2 := tl_in hu
      rw [toks_at hu] at ht
      rcases List.mem_cons.1 ht with rfl | ht
      · refine ⟨?_, ?_, ?_, ?_⟩ <;> simp only <;> omega
      · exact ih _ (by omega) t ht
    · rw [toks_end (by omega)] at ht; cases ht
theorem live_in {bs : List Int} {k : Nat} {t : Tk} (h : (live bs 0)[k]? = some t) : 0 ≤ t.2.1 ∧ t.2.1 ≤ bs.length ∧ 0 ≤ t.2.2 ∧ t.2.2 ≤ bs.length :=
  toks_in bs _ 0 (Nat.le_refl _) t (List.mem_filter.1 (List.mem_of_getElem? h)).1
theorem ShT.grown {a b : World} {B n : Nat} {A : Option Addr} {L : List Tk} {row : Option Nat} (h : ShT a B A n L) (hg : a.grownBy b row) (hB : B ≤ a.heap.size) (hne : 0 < n → ∀ g off, A = some ⟨g, off, none⟩ → row ≠ some g) : ShT b B A n L :=
  ⟨h.1, fun hn => by
    obtain ⟨g, off, e, hlt, hc⟩ := h.2 hn
    have hb := hg.block g (by omega) (fun e' => hne hn g off e e'.symm)
    refine ⟨g, off, e, hlt, fun k t ht => ?_⟩
    obtain ⟨h0, h1, h2⟩ := hc k t ht
    exact ⟨(World.cell?_of_block (a := ⟨g, _, none⟩) hb).trans h0, (World.cell?_of_block (a := ⟨g, _, none⟩) hb).trans h1, (World.cell?_of_block (a := ⟨g, _, none⟩) hb).trans h2⟩⟩
theorem ShT.alloc {a : World} {B n : Nat} {A : Option Addr} {L : List Tk} (h : ShT a B A n L) (hB : B ≤ a.heap.size) (o : Obj) : ShT (a.alloc o) B A n L := h.up ((Below.refl a.heap.size a).alloc (Nat.le_refl _) o) hB
section
variable {P : Program} {ops : Array Oper} {rest : List Oper} {o : Oper} {a : Act} {Q : Exit → Act → World → Prop}
theorem wpList_push_h (hgd : Region.wanted o (yielded ops a.tmps) = true) (s x : Operand) (t : TypeId) (ho : o.op = .call { callee := .builtin .append, args := #[s, x], argTypes := #[t, t] })
    {e : TypeId} {size bytes : Nat} (hT : RowT P t e size bytes) (w : World) (B : Nat) (v : Value) (n : Nat) (xs us : List Value) (hs : a.eval s = v) (hown : Own w B e size v n xs)
    {G : Nat} (hx : a.eval x = .slice (some ⟨G, 0, none⟩) 1 1) (hG : G = w.heap.size) (hl : us.length = size) (h1 : ∀ u ∈ us, u.oneCell' = true)
    (hlen : n ≤ 1099511627776) (hby : bytes ≤ 64)
    (h : ∀ v' w', Own w' B e size v' (n + 1) (xs ++ us) → (w.alloc (.cells us.toArray e)).grownBy w' v.ownBlock → (v'.ownBlock = v.ownBlock ∨ v'.ownBlock = some (w.heap.size + 1)) → wpList P ops Q rest (a.put o.dst v') w') :
    wpList P ops Q (o :: rest) a (w.alloc (.cells us.toArray e)) := by
  refine wpList_wanted hgd fun K hK => ?_
  subst hG
  obtain ⟨ht, i, z, hi, hz, hsize, hbytes, hzs, hpos⟩ := hT
  have hbb : (n + 1) * bytes ≤ 140737488355328 := Nat.le_trans (Nat.mul_le_mul (show n + 1 ≤ 1099511627777 by omega) hby) (by decide)
  obtain ⟨v', w', hr, h2, h3, _, h5⟩ := run_append_own_at (P := P) (w.alloc (.cells us.toArray e)) B t o.type e i z size bytes ht hi hz hsize hbytes hzs hpos v n xs (hown.1.alloc _) ⟨w.heap.size, 0, none⟩ 1 1 us (by simpa using hl)
    (fun j y hj => by
      rw [Addr.add_lit, Nat.zero_add, World.cell?_alloc_at _ _ _ _ rfl]
      simpa using hj) h1 (by unfold maxLen; omega) hbb (by have := hown.2; simp; omega)
  have hge : B ≤ (w.alloc (.cells us.toArray e)).heap.size := by have := hown.2; simp; omega
  unfold Oper.wp execOp
  simp only [ho, resolve, invoke, builtin, Sem.run_bind, Sem.run_pure, Result.andThen_ok, List.map_toArray, List.map_cons, List.map_nil, hs, hx, hr]
  exact hK _ _ (h v' w' ⟨h2, Nat.le_trans hge h3.size⟩ h3 (by simpa using h5))
end

set_option maxRecDepth 10000 in
set_option maxHeartbeats 800000 in
theorem lexJoins_short (A B : Option Addr) (n m c d : Nat) (xs ys : List Int) (w : World) (h1 : ¬ 1000 < n) (h2 : ¬ 1000 < m) (hnc : n ≤ c) (hmd : m ≤ d) (hcm : c ≤ maxLen) (hdm : d ≤ maxLen) (hx : Sh w w.heap.size A n (by8 xs)) (hy : Sh w w.heap.size B m (by8 ys)) :
    Calls Try.prog 7 #[.slice A n c, .slice B m d] w fun e w' => e = .returned (.bool true) ∧ Below w.heap.size w w' := by
  have hl : xs.length = n := by have := hx.len; rwa [by8_len] at this
  have hl2 : ys.length = m := by have := hy.len; rwa [by8_len] at this
  have HL := Lib.hid hl
  have HL2 := Lib.hid hl2
  have X := Lib.hid (fun w' (b : Below w.heap.size w w') => (hx.below b).more b.size)
  have Y := Lib.hid (fun w' (b : Below w.heap.size w w') => (hy.below b).more b.size)
  have HTW := Lib.hid (live_two xs ys)
  have hlx : (live xs 0).length ≤ n := by have := live_len xs; omega
  have hly : (live ys 0).length ≤ m := by have := live_len ys; omega
  have HC := Lib.hid hcm
  have HD := Lib.hid hdm
  have g1 : ¬ (1000 : Int) < (n : Int) := by omega
  have g2 : ¬ (1000 : Int) < (m : Int) := by omega
  clear hl hl2 hx hy hcm hdm
  go_enter Try.func7, Try.ntmps7
  go_wp2_with (first
    | (at_builtin; refine wpList_more rfl (.tmp 20) (.tmp 21) 22 rfl rowB w (w.alloc (.cells #[] 5)) w.heap.size _ 0 [] (by8 xs) rfl (Own.empty w w.heap.size 5 1 (Nat.le_refl _)) _ A n c rfl (X.out _ ((Below.refl _ _).alloc (Nat.le_refl _) _)) (by8_one _) ((Below.refl _ _).alloc (Nat.le_refl _) _) (by omega) (by omega) ?_; intro v1 w1 ho1 hb1; have ho1 := ho1.cast (Nat.zero_add _) (List.nil_append _))
    | (at_builtin; refine wpList_more rfl (.tmp 22) (.tmp 23) 22 rfl rowB w _ w.heap.size _ n (by8 xs) (by8 [10]) rfl (ho1.alloc _) (w1.heap.size + 1) (some ⟨w1.heap.size, 0, none⟩) 1 1 rfl (Sh.lit w1 (by8 [10]) 5) (by8_one _) (hb1.alloc hb1.size _) (by omega) (by omega) ?_; intro v2 w2 ho2 hb2; have ho2 := ho2.cast rfl (by8_append _ _).symm)
    | (at_builtin; refine wpList_more rfl (.tmp 25) (.tmp 26) 22 rfl rowB w _ w.heap.size _ (n + 1) (by8 (xs ++ [10])) (by8 ys) rfl ho2 _ B m d rfl (Y.out _ hb2) (by8_one _) hb2 (by omega) (by omega) ?_; intro v3 w3 ho3 hb3; have ho3 := ho3.cast rfl (by8_append _ _).symm; obtain ⟨G, gc, rfl⟩ := ho3.form)
    | fail)
  have hcap := ho3.cap
  have F3 := Lib.hid ho3.sh
  have B3 := Lib.hid hb3
  clear ho1 hb1 ho2 hb2 ho3 hb3
  have hja : xs ++ [10] ++ ys = xs ++ 10 :: ys := by simp
  rw [hja] at F3
  refine (lexAll_any G (n + 1 + m) gc (xs ++ 10 :: ys) w3 F3.out (by omega) hcap.1 hcap.2).mono ?_
  rintro e w4 ⟨v4, rfl, ho4, b4⟩
  obtain ⟨P4, c4, rfl⟩ := ho4.form
  have S4 := Lib.hid (ho4.tok rfl)
  have B4 := Lib.hid (B3.out.trans (b4.mono B3.out.size))
  have htl4 : (toks (xs ++ 10 :: ys) 0).length ≤ n + 1 + m := by have := toks_len (xs ++ 10 :: ys) _ 0 (Nat.le_refl _); simp at this; have := HL.out; have := HL2.out; omega
  clear ho4 b4 F3 hcap hja
  go_wp2_with fail
  refine (live_any P4 _ c4 _ w4 S4.out (by omega)).mono ?_
  rintro e w5 ⟨v5, rfl, ho5, b5⟩
  change Own w5 w4.heap.size 32 3 v5 (live (xs ++ 10 :: ys) 0).length (tcs (live (xs ++ 10 :: ys) 0)) at ho5
  rw [HTW.out] at ho5
  obtain ⟨P5, c5, rfl⟩ := ho5.form
  have S5 := Lib.hid (ho5.tok rfl)
  have B5 := Lib.hid (B4.out.trans (b5.mono B4.out.size))
  clear ho5 b5 S4 htl4
  go_wp2_with fail
  refine (lexAll_any A n c xs w5 (X.out _ B5.out) (by omega) hnc HC.out).mono ?_
  rintro e w6 ⟨v6, rfl, ho6, b6⟩
  obtain ⟨P6, c6, rfl⟩ := ho6.form
  have S6 := Lib.hid (ho6.tok rfl)
  have T6 := Lib.hid ((S5.out.up b6 (Nat.le_refl _)).more b6.size)
  have B6 := Lib.hid (B5.out.trans (b6.mono B5.out.size))
  have htl6 : (toks xs 0).length ≤ n := by have := toks_len xs _ 0 (Nat.le_refl _); have := HL.out; omega
  clear ho6 b6 S5
  go_wp2_with fail
  refine (live_any P6 _ c6 _ w6 S6.out (by omega)).mono ?_
  rintro e w7 ⟨v7, rfl, ho7, b7⟩
  change Own w7 w6.heap.size 32 3 v7 (live xs 0).length (tcs (live xs 0)) at ho7
  obtain ⟨P7, c7, rfl⟩ := ho7.form
  have O7 := Lib.hid ho7
  have hsz7 : w6.heap.size ≤ w7.heap.size := b7.size
  have T7 := Lib.hid ((T6.out.up b7 (Nat.le_refl _)).more b7.size)
  have B7 := Lib.hid (B6.out.trans (b7.mono B6.out.size))
  clear ho7 b7 S6 htl6
  go_wp2_with fail
  refine (lexAll_any B m d ys w7 (Y.out _ B7.out) (by omega) hmd HD.out).mono ?_
  rintro e w8 ⟨v8, rfl, ho8, b8⟩
  obtain ⟨P8, c8, rfl⟩ := ho8.form
  have S8 := Lib.hid (ho8.tok rfl)
  have T8 := Lib.hid ((T7.out.up b8 (Nat.le_refl _)).more b8.size)
  have O8 := Lib.hid (O7.out.below b8)
  have hsz8 : w7.heap.size ≤ w8.heap.size := b8.size
  have B8 := Lib.hid (B7.out.trans (b8.mono B7.out.size))
  have htl8 : (toks ys 0).length ≤ m := by have := toks_len ys _ 0 (Nat.le_refl _); have := HL2.out; omega
  clear ho8 b8 T7
  go_wp2_with fail
  refine (live_any P8 _ c8 _ w8 S8.out (by omega)).mono ?_
  rintro e w9 ⟨v9, rfl, ho9, b9⟩
  change Own w9 w8.heap.size 32 3 v9 (live ys 0).length (tcs (live ys 0)) at ho9
  obtain ⟨P9, c9, rfl⟩ := ho9.form
  have Y9 := Lib.hid (ho9.tok rfl)
  have T9 := Lib.hid ((T8.out.up b9 (Nat.le_refl _)).more b9.size)
  have O9 := Lib.hid (O8.out.below b9)
  have B9 := Lib.hid (B8.out.trans (b9.mono B8.out.size))
  have hsz9 : w8.heap.size ≤ w9.heap.size := b9.size
  have hne9 : ∀ g off, P9 = some ⟨g, off, none⟩ → (Value.slice P7 (live xs 0).length c7).ownBlock ≠ some g := fun g off e he => by
    subst e
    have h1 := (O7.out.1.lt g he).2
    have h2 := ho9.block_ge g rfl
    omega
  have N9 := Lib.hid hne9
  have hne5 : ∀ g off, P5 = some ⟨g, off, none⟩ → 0 < (live xs 0).length + (live ys 0).length → g < w6.heap.size := fun g off e h => by
    subst e
    obtain ⟨g', off', e', hlt, _⟩ := T6.out.2 (by simpa using h)
    cases e'
    exact hlt
  have N5 := Lib.hid hne5
  clear ho9 b9 S8 T8 O8 O7 htl8 hne9 hne5 T6
  have Z5 : Hid (Below w.heap.size w w9) := B9
  obtain ⟨lx, hlx0⟩ : ∃ lx, (live xs 0).length = lx := ⟨_, rfl⟩
  obtain ⟨ly, hly0⟩ : ∃ ly, (live ys 0).length = ly := ⟨_, rfl⟩
  have HLX := Lib.hid hlx0
  have HLY := Lib.hid hly0
  have hT9 := T9.out
  have hO9 := O9.out
  have hY9 := Y9.out
  have hN9 := N9.out
  have hN5 := N5.out
  rw [show (live xs 0 ++ (live ys 0).map (shift (xs.length + 1))).length = lx + ly by simp [hlx0, hly0]] at hT9
  rw [hlx0] at hlx hO9 hN9 hN5 ⊢
  rw [hly0] at hly hY9 hN5 ⊢
  clear hlx0 hly0 T9 O9 Y9 N9 N5
  have T9 := Lib.hid hT9
  have O9 := Lib.hid hO9
  have Y9 := Lib.hid hY9
  have N9 := Lib.hid hN9
  have N5 := Lib.hid hN5
  clear hT9 hO9 hY9 hN9 hN5
  have hsum : (((lx + ly : Nat) : Int) != (lx : Int) + (ly : Int)) = false := by simp
  have hsum' : ((lx : Int) + (ly : Int) != (lx : Int) + (ly : Int)) = false := by simp
  have hz := zeroTok
  obtain ⟨F, hF⟩ : ∃ F : Nat → List Tk, F = fun k => live xs 0 ++ ((live ys 0).take k).map (shift (xs.length + 1)) := ⟨_, rfl⟩
  have F0 : F 0 = live xs 0 := by rw [hF]; simp
  have FE : F ly = live xs 0 ++ (live ys 0).map (shift (xs.length + 1)) := by rw [hF]; simp only; rw [List.take_of_length_le (by rw [HLY.out]; exact Nat.le_refl _)]
  have FS : ∀ (k : Nat) (K y z : Int), (live ys 0)[k]? = some (K, y, z) → F (k + 1) = F k ++ [(K, y + (n : Int) + 1, z + (n : Int) + 1)] := fun k K y z h => by
    rw [hF]
    simp only
    rw [shift_snoc _ _ h]
    simp only [shift, HL.out, Int.add_assoc]
  have FE' := Lib.hid FE
  have FS' := Lib.hid FS
  have F0' := Lib.hid F0
  rw [← FE] at T9
  clear hF FE FS F0
  go_wp2
  go_loopw [7, 9] (fun v i wr => ∃ k : Nat, i = .int .i64 (k : Int) ∧ k ≤ ly ∧ Own wr w6.heap.size 32 3 v (lx + k) (tcs (F k)) ∧ ShT wr wr.heap.size P5 (lx + ly) (F ly) ∧ ShT wr wr.heap.size P9 ly (live ys 0) ∧ (∀ g off, P9 = some ⟨g, off, none⟩ → v.ownBlock ≠ some g) ∧ Below w.heap.size w wr) (fun _ i _ => ly - (intOf i).toNat)
  case atStart => exact ⟨0, rfl, Nat.zero_le _, (by rw [F0'.out]; exact O9.out), T9.out, Y9.out, N9.out, Z5.out⟩
  case round =>
    obtain ⟨k, rfl, hk, ho, hT, hY, hN, hB⟩ := hrel
    have HO := Lib.hid ho
    have HT := Lib.hid hT
    have HY := Lib.hid hY
    have HN := Lib.hid hN
    have HB := Lib.hid hB
    have hge := ho.2
    have hBs := HB.out.size
    clear ho hT hY hN hB T9 O9 Y9 N9 Z5 B9
    by_cases hlt : k < ly
    · obtain ⟨b, off, t, hP9, hbb, ht, c0, c1, c2⟩ := HY.out.at hlt
      obtain ⟨K, y, z⟩ := t
      subst hP9
      have hbd := live_in ht
      rw [HL2.out] at hbd
      obtain ⟨y0, y1, z0, z1⟩ := hbd
      dsimp only at c0 c1 c2 y0 y1 z0 z1
      have HFS := Lib.hid (FS'.out k K y z ht)
      clear ht
      have hy1 : y ≤ 1000 := by omega
      have hz1 : z ≤ 1000 := by omega
      go_wp2_with (first
        | (at_builtin; refine wpList_push_h rfl (.tmp 68) (.tmp 70) 25 rfl rowTok _ w6.heap.size _ (lx + k) (tcs (F k)) [.int .i64 K, .int .i64 (y + (n : Int) + 1), .int .i64 (z + (n : Int) + 1)] rfl (HO.out.alloc _) rfl (by simp) rfl (by intro z hz; simp at hz; rcases hz with rfl | rfl | rfl <;> rfl) (by omega) (by omega) ?_; intro v2 wz ho2 hg2 hv2)
        | fail)
      go_roundw
      case rel =>
        have hsz : wr.heap.size ≤ wz.heap.size := by have := hg2.size; simp at this; omega
        refine ⟨k + 1, by go_num, hlt, ?_, ?_, ?_, ?_, ?_⟩
        · rw [HFS.out]
          exact ho2.cast (by omega) (tcs_snoc (F k) (K, y + (n : Int) + 1, z + (n : Int) + 1)).symm
        · exact (((HT.out.alloc (Nat.le_refl _) _).alloc (by simp) _).grown hg2 (by simp; omega) (fun hn g off e he => by have h5 := N5.out g off e hn; have h6 := HO.out.block_ge g he; omega)).more hsz
        · exact (((HY.out.alloc (Nat.le_refl _) _).alloc (by simp) _).grown hg2 (by simp; omega) (fun hn g off e => HN.out g off e)).more hsz
        · intro g off e he
          cases e
          rcases hv2 with h | h
          · exact HN.out b off rfl (h ▸ he)
          · rw [h] at he
            injection he with he
            simp at he
            omega
        · exact ((HB.out.alloc (by omega) _).alloc (by simp; omega) _).grown hg2 (by simp; omega) (fun q hq => Nat.le_trans (by have := B6.out.size; omega) (HO.out.1.lt q hq).1)
      case measure => simp [intOf]; omega
    · obtain rfl : k = ly := by omega
      obtain ⟨PX, cX, rfl⟩ := HO.out.form
      have hlen : (F k).length = lx + k := by rw [FE'.out]; simp [HLX.out, HLY.out]
      have SX := Lib.hid (HO.out.tok hlen)
      go_wp2_with fail
      refine (sameT_yes P5 PX (lx + k) c5 cX (F k) wr HT.out SX.out (by omega)).mono ?_
      rintro e wq ⟨rfl, q, rfl⟩
      go_wp2_with (go_at_call 8; refine (awake_any _).mono ?_; rintro e wy ⟨rfl, by1⟩)
      go_ret
      exact ⟨rfl, (HB.out.trans ((Quiet.one wr q).below _)).trans (by1.mono (by have := HB.out.size; exact this))⟩

theorem lexJoins_walk (a0 : Option Addr) (len0 cap0 : Nat) (z0 : List Int) (a1 : Option Addr) (len1 cap1 : Nat) (z1 : List Int) (w : World) (w0 : IsRow .u8 w a0 len0 cap0 z0) (w1 : IsRow .u8 w a1 len1 cap1 z1) :
    Calls Try.prog 7 #[.slice a0 len0 cap0, .slice a1 len1 cap1] w fun e w' => e = .returned (.bool true) ∧ Below w.heap.size w w' := by
  obtain ⟨l0, m0, _, s0, b0⟩ := w0.sh
  obtain ⟨l1, m1, _, s1, b1⟩ := w1.sh
  by_cases h : 1000 < len0
  · exact lexJoins_long _ _ _ _ _ _ _ (.inl h) (by omega) (by omega)
  · by_cases h' : 1000 < len1
    · exact lexJoins_long _ _ _ _ _ _ _ (.inr ⟨h, h'⟩) (by omega) (by omega)
    · exact lexJoins_short _ _ _ _ _ _ _ _ _ h h' l0 l1 m0 m1 s0 s1
end Go.Proofs.Ytenohmkcbncehaa
