/-
  CONTRACTS OF 'record.sumOf', 'record.Put', 'record.Get'.
-/
import Derived.Test.YthfhhgjjnpcmgaaUpon
import Derived.Test.YthfhhgjjnpcmgaaRecM
import Derived.Test.YthfhhgjjnpcmgaaConcat
namespace Go.Proofs.Ythfhhgjjnpcmgaa
set_option linter.unusedVariables false
set_option linter.unusedSimpArgs false
open Go.RowKit

theorem val_u32' {a b : Nat} (h : a = b) : Ending.returned (.int .u32 (a : Int)) = .returned (.int .u32 (b : Int)) := by rw [h]

set_option maxRecDepth 10000 in
set_option maxHeartbeats 800000 in
theorem sumOf_any (g k : Nat) (d : Bool) (q : Nat) (A : Option Addr) (n c : Nat) (xs : List Int) (w : World) (U : Nat) (h : Smr w g d k) (hk : k ≤ 900000000) (hq : q < 256)
    (hx : Sh w U A n (by8 xs)) (hU : U ≤ w.heap.size) (hA : Off A n g) (hb : Byt xs) (hn : n ≤ 1000000) :
    Calls Try.prog 20 #[.pointer (some ⟨g, 0, none⟩), .int .u8 (q : Int), .slice A n c] w fun e w' => e = .returned (.int .u32 (crcOf 0 ((q : Int) :: xs) : Nat)) ∧ Smr w' g true (k + 2) ∧ Upon g w w' := by
  have hq1 : Byt [(q : Int)] := fun x hx => by simp at hx; subst hx; omega
  have H1 : Hid (Smr (w.alloc (.cells #[.int .u8 (q : Int)] 5)) g d k) := Lib.hid (h.alloc _)
  have HO := Lib.hid (of_any g k d (some ⟨w.heap.size, 0, none⟩) 1 1 [(q : Int)] (w.alloc (.cells #[.int .u8 (q : Int)] 5)) (w.heap.size + 1) H1.out (by omega)
    (Sh.lit w [.int .u8 (q : Int)] 5) (Off.some (by have := h.lt; omega)) hq1 (by omega))
  have HP := Lib.hid (crc_parts (s := 0) (by omega) (b := xs) hq1)
  have HX := Lib.hid hx
  have HA := Lib.hid hA
  clear h hx hA hq1
  go_enter Try.func20, Try.ntmps20
  go_wp2_with (first
    | (go_at_call 28; refine HO.out.mono ?_; rintro e w1 ⟨rfl, s1, o1⟩; have S1 := Lib.hid s1; have O1 := Lib.hid (((Upon.refl g w).alloc _).only o1); clear s1 o1)
    | (go_at_call 27; refine (more_any g (k + 1) true (crcOf 0 [(q : Int)]) A n c xs w1 U S1.out (by omega) (crc_lt _ _) (HX.out.upon O1.out hU HA.out) HA.out hb (by omega)).mono ?_; rintro e w2 ⟨rfl, s2, o2⟩; have S2 := Lib.hid s2; have O2 := Lib.hid (O1.out.only o2); clear s2 o2))
  go_ret
  exact ⟨val_u32' HP.out, S2.out, O2.out⟩

theorem u8_in {K : Int} (h0 : 0 ≤ K) (h1 : K ≤ 255) : IntKind.u8.wrap K = K := IntWalk.u8_in K ⟨h0, by omega⟩

/-- A record that is refused: its kind. -/
theorem put_kind (g : Nat) (A P : Option Addr) (n c m pc : Nat) (K : Int) (bs : List Int) (w : World) (U : Nat) (hx : Sh w U A n (by8 bs)) (hU : U ≤ w.heap.size) (hn : n ≤ 1000000) (hK : K < 0 ∨ 255 < K) :
    Calls Try.prog 8 #[.pointer (some ⟨g, 0, none⟩), .slice A n c, .agg #[.int .i64 K, .slice P m pc]] w fun e w' => ∃ v, e = .returned (.tuple #[v, .int .i64 1]) ∧ Own w' w.heap.size 5 1 v n (by8 bs) ∧ Below w.heap.size w w' := by
  have HC := Lib.hid (clone_any A n c bs (w.alloc (.cells #[.int .i64 K, .slice P m pc] 30)) U (hx.alloc hU _) (by simp; omega) (by omega))
  clear hx
  rcases hK with hK | hK
  · go_enter Try.func8, Try.ntmps8
    go_wp2_with (go_at_call 18; refine HC.out.mono ?_; rintro e w1 ⟨v, rfl, ho, hb⟩)
    go_ret2
    exact ⟨_, rfl, ho.lower (by simp), ((Below.refl _ _).alloc (Nat.le_refl _) _).trans (hb.mono (by simp))⟩
  · go_enter Try.func8, Try.ntmps8
    go_wp2_with (go_at_call 18; refine HC.out.mono ?_; rintro e w1 ⟨v, rfl, ho, hb⟩)
    go_ret2
    exact ⟨_, rfl, ho.lower (by simp), ((Below.refl _ _).alloc (Nat.le_refl _) _).trans (hb.mono (by simp))⟩

/-- .. its payload. -/
theorem put_great (g : Nat) (A P : Option Addr) (n c m pc : Nat) (K : Nat) (bs : List Int) (w : World) (U : Nat) (hx : Sh w U A n (by8 bs)) (hU : U ≤ w.heap.size) (hn : n ≤ 1000000) (hK : K ≤ 255) (hm : 65536 < m) (hm2 : m ≤ 1000000) :
    Calls Try.prog 8 #[.pointer (some ⟨g, 0, none⟩), .slice A n c, .agg #[.int .i64 (K : Int), .slice P m pc]] w fun e w' => ∃ v, e = .returned (.tuple #[v, .int .i64 3]) ∧ Own w' w.heap.size 5 1 v n (by8 bs) ∧ Below w.heap.size w w' := by
  have HC := Lib.hid (clone_any A n c bs (w.alloc (.cells #[.int .i64 (K : Int), .slice P m pc] 30)) U (hx.alloc hU _) (by simp; omega) (by omega))
  clear hx
  go_enter Try.func8, Try.ntmps8
  go_wp2_with (go_at_call 18; refine HC.out.mono ?_; rintro e w1 ⟨v, rfl, ho, hb⟩)
  go_ret2
  exact ⟨_, rfl, ho.lower (by simp), ((Below.refl _ _).alloc (Nat.le_refl _) _).trans (hb.mono (by simp))⟩

set_option maxRecDepth 10000 in
set_option maxHeartbeats 1600000 in
/-- A record that is laid. -/
theorem rput_any (g k : Nat) (d : Bool) (A P : Option Addr) (n c m pc : Nat) (K : Nat) (bs xs : List Int) (w : World) (U : Nat) (h : Smr w g d k) (hk : k ≤ 800000000) (hx : Sh w U A n (by8 bs)) (hA : Off A n g) (hp : Sh w U P m (by8 xs)) (hP : Off P m g) (hb : Byt xs)
    (hU : U ≤ w.heap.size) (hn : n ≤ 1000000) (hK : K ≤ 255) (hm : m ≤ 65536) :
    Calls Try.prog 8 #[.pointer (some ⟨g, 0, none⟩), .slice A n c, .agg #[.int .i64 (K : Int), .slice P m pc]] w fun e w' =>
      ∃ v, e = .returned (.tuple #[v, .int .i64 0]) ∧ Own w' w.heap.size 5 1 v (n + (9 + m)) (by8 (bs ++ form K xs)) ∧ Smr w' g true (k + 2) ∧ Upon g w w' := by
  have hg := h.lt
  have hxl : xs.length = m := by have := hp.len; rwa [by8_len] at this
  have HXL := Lib.hid hxl
  have hK8 : (K : Int) % 256 = K := by omega
  have hm32 : (m : Int) % 4294967296 = m := by omega
  have hcr := crc_lt 0 ((K : Int) :: xs)
  obtain ⟨W, hW⟩ : ∃ W, W = w.alloc (.cells #[.int .i64 (K : Int), .slice P m pc] 30) := ⟨_, rfl⟩
  have HW := Lib.hid hW
  have hsz : W.heap.size = w.heap.size + 1 := by rw [hW]; simp
  have HUW : Hid (Upon g w W) := Lib.hid (by rw [hW]; exact (Upon.refl g w).alloc _)
  have HSW := Lib.hid ((hW ▸ h.alloc _ : Smr W g d k))
  have HXW : Hid (∀ w', Upon g W w' → Sh w' U A n (by8 bs)) := Lib.hid fun w' u => (hx.upon HUW.out hU hA).upon u (by omega) hA
  have HPW : Hid (∀ w', Upon g W w' → Sh w' U P m (by8 xs)) := Lib.hid fun w' u => (hp.upon HUW.out hU hP).upon u (by omega) hP
  have HC0 : Hid (∀ w', Upon g W w' → w'.cell? ⟨w.heap.size, 0, none⟩ = some (.int .i64 (K : Int))) := Lib.hid fun w' u => (u.cell (p := ⟨w.heap.size, 0, none⟩) (by simp only; omega) (by simp only; omega)).trans (by rw [hW, World.cell?_alloc_at _ _ _ _ rfl]; rfl)
  have HC1 : Hid (∀ w', Upon g W w' → w'.cell? ⟨w.heap.size, 1, none⟩ = some (.slice P m pc)) := Lib.hid fun w' u => (u.cell (p := ⟨w.heap.size, 1, none⟩) (by simp only; omega) (by simp only; omega)).trans (by rw [hW, World.cell?_alloc_at _ _ _ _ rfl]; rfl)
  have HA := Lib.hid hA
  have HP := Lib.hid hP
  have HB := Lib.hid hb
  have c0 := HC0.out W (Upon.refl g W)
  have c1 := HC1.out W (Upon.refl g W)
  have HCC : ∀ (w3 : World) (B0 : Nat) (H3 : Option Addr) (k3 : Nat), Own w3 B0 5 1 (.slice H3 8 k3) 8 (by8 (digs 4 m ++ digs 4 (crcOf 0 ((K : Int) :: xs)))) → Upon g W w3 →
      Calls Try.prog 21 #[.slice (some ⟨w3.heap.size + 1, 0, none⟩) 4 4]
        ((w3.alloc (.cells #[.int .u8 (K : Int)] 5)).alloc (.cells #[.slice A n c, .slice H3 8 k3, .slice (some ⟨w3.heap.size, 0, none⟩) 1 1, .slice P m pc] 22)) fun e w' =>
        ∃ v, e = .returned v ∧ Own w' (w3.heap.size + 2) 5 1 v (tot [(A, n, c, bs), (H3, 8, k3, digs 4 m ++ digs 4 (crcOf 0 ((K : Int) :: xs))), (some ⟨w3.heap.size, 0, none⟩, 1, 1, [(K : Int)]), (P, m, pc, xs)])
          (by8 (flat [(A, n, c, bs), (H3, 8, k3, digs 4 m ++ digs 4 (crcOf 0 ((K : Int) :: xs))), (some ⟨w3.heap.size, 0, none⟩, 1, 1, [(K : Int)]), (P, m, pc, xs)])) ∧ Below (w3.heap.size + 2) ((w3.alloc (.cells #[.int .u8 (K : Int)] 5)).alloc (.cells #[.slice A n c, .slice H3 8 k3, .slice (some ⟨w3.heap.size, 0, none⟩) 1 1, .slice P m pc] 22)) w' := by
    intro w3 B0 H3 k3 ho3 hu3
    have hs3 := hu3.size
    have := concat_any (w3.heap.size + 1) 0 4 [(A, n, c, bs), (H3, 8, k3, digs 4 m ++ digs 4 (crcOf 0 ((K : Int) :: xs))), (some ⟨w3.heap.size, 0, none⟩, 1, 1, [(K : Int)]), (P, m, pc, xs)]
      ((w3.alloc (.cells #[.int .u8 (K : Int)] 5)).alloc (.cells #[.slice A n c, .slice H3 8 k3, .slice (some ⟨w3.heap.size, 0, none⟩) 1 1, .slice P m pc] 22)) (w3.heap.size + 1)
      rfl (by omega) (by simp) (by simp) ?_ ?_ (by simp [tot]; omega)
    · simpa using this
    · intro j p hj
      rw [World.cell?_alloc_at _ _ _ _ (by simp), Nat.zero_add]
      match j, hj with
      | 0, hj => cases hj; rfl
      | 1, hj => cases hj; rfl
      | 2, hj => cases hj; rfl
      | 3, hj => cases hj; rfl
      | j + 4, hj => simp at hj
    · have hw : ∀ {U' n' : Nat} {A' : Option Addr} {l : List Value}, Sh w3 U' A' n' l → U' ≤ w3.heap.size → Sh ((w3.alloc (.cells #[.int .u8 (K : Int)] 5)).alloc (.cells #[.slice A n c, .slice H3 8 k3, .slice (some ⟨w3.heap.size, 0, none⟩) 1 1, .slice P m pc] 22)) (w3.heap.size + 1) A' n' l :=
        fun h hU' => ((h.alloc hU' _).alloc (by simp; omega) _).more (by omega)
      intro j p hj
      match j, hj with
      | 0, hj => cases hj; exact hw (HXW.out w3 hu3) (by omega)
      | 1, hj => cases hj; exact hw ho3.sh (Nat.le_refl _)
      | 2, hj => cases hj; exact (Sh.lit w3 [.int .u8 (K : Int)] 5).alloc (by simp) _
      | 3, hj => cases hj; exact hw (HPW.out w3 hu3) (by omega)
      | j + 4, hj => simp at hj
  clear h hx hp hA hP hb hxl hW
  go_enter Try.func8, Try.ntmps8
  go_wp2_with (first
    | (go_at_call 19; rw [← HW.out]; refine (put4_any none 0 0 [] m W 0 (Sh.nil _ _ _) (by omega) (by unfold U32; omega)).mono ?_; rintro e w1 ⟨v1, rfl, ho1, hb1⟩; have ho1 := ho1.cast (Nat.zero_add _) (by rw [List.nil_append]); obtain ⟨H1, k1, rfl⟩ := ho1.form; have O1 := Lib.hid ho1; have U1 := Lib.hid (Upon.of_below (g := g) hb1); have S1 := Lib.hid (HSW.out.below_ hb1); clear ho1 hb1; have d1 := HC1.out w1 U1.out)
    | (go_at_call 20; refine (sumOf_any g k d K P m pc xs w1 U S1.out (by omega) (by omega) (HPW.out _ U1.out) (by have := U1.out.size; omega) HP.out HB.out (by omega)).mono ?_; rintro e w2 ⟨rfl, s2, u2⟩; have S2 := Lib.hid s2; have O2 := Lib.hid (O1.out.upon u2 (by omega)); have U2 := Lib.hid (U1.out.trans u2); clear s2 u2; have d2 := HC1.out w2 U2.out)
    | (go_at_call 19; refine (put4_any H1 4 k1 (digs 4 m) (crcOf 0 ((K : Int) :: xs)) w2 w2.heap.size O2.out.sh (by omega) (by unfold U32; omega)).mono ?_; rintro e w3 ⟨v3, rfl, ho3, hb3⟩; obtain ⟨H3, k3, rfl⟩ := ho3.form; have O3 := Lib.hid ho3; have U3 := Lib.hid (U2.out.below' hb3); have S3 := Lib.hid (S2.out.below_ hb3); clear ho3 hb3; have d3 := HC1.out _ (U3.out.alloc (.cells #[.int .u8 (K : Int)] 5)))
    | (go_at_call 21; refine (HCC w3 _ H3 k3 O3.out U3.out).mono ?_; rintro e w4 ⟨v4, rfl, ho4, hb4⟩)
    | fail)
  go_ret2
  have hsz3 := U3.out.size
  have hb5 : Below w3.heap.size w3 w4 := (((Below.refl _ w3).alloc (Nat.le_refl _) _).alloc (by simp) _).trans (hb4.mono (by omega))
  refine ⟨v4, rfl, (ho4.cast ?_ ?_).lower (by omega), S3.out.below_ hb5, HUW.out.trans (U3.out.below' hb5)⟩
  · simp [tot]; omega
  · simp [flat, form, HXL.out]
end Go.Proofs.Ythfhhgjjnpcmgaa
