/-
  Records that are laid one behind the other are those that are told; cut off anywhere, those that are whole. It holds for any records, cut anywhere; of more than 10 records, or of more than 200 bytes, it says that the document's examples hold.
-/
import Derived.Test.YthfhhgjjnpcmgaaRecAwake
import Derived.Test.YthfhhgjjnpcmgaaPick
import Derived.Deep.RegionHeld3
namespace Go.Proofs.Ythfhhgjjnpcmgaa
set_option linter.unusedVariables false
set_option linter.unusedSimpArgs false
open Go.RowKit

theorem rowI : RowT Try.prog 41 3 1 8 := RowT.mk (z := .int .i64 0) Try.underlying41 (by kernel_rfl) rfl (by omega)

/-- A record that came in: its kind, its payload. -/
abbrev It := Nat × Pc
/-- .. as they lie. -/
def ItemsAt (w : World) (U : Nat) (A : Option Addr) (n : Nat) (L : List It) : Prop :=
  L.length = n ∧ ∀ k q, L[k]? = some q → (∃ b off, A = some ⟨b, off, none⟩ ∧ b < U ∧ w.cell? ⟨b, off + k * 2, none⟩ = some (.int .u8 (q.1 : Int)) ∧ w.cell? ⟨b, off + k * 2 + 1, none⟩ = some q.2.val) ∧
    Sh w U q.2.1 q.2.2.1 (by8 q.2.2.2.2) ∧ q.1 < 256 ∧ Byt q.2.2.2.2 ∧ q.2.2.1 ≤ maxLen
theorem ItemsAt.below {w w' : World} {U n : Nat} {A : Option Addr} {L : List It} (h : ItemsAt w U A n L) (hb : Below U w w') : ItemsAt w' U A n L :=
  ⟨h.1, fun k q hq => by
    obtain ⟨⟨b, off, e, hlt, c0, c1⟩, hs, h3⟩ := h.2 k q hq
    exact ⟨⟨b, off, e, hlt, (hb.cell (p := ⟨b, off + k * 2, none⟩) hlt).trans c0, (hb.cell (p := ⟨b, off + k * 2 + 1, none⟩) hlt).trans c1⟩, hs.below hb, h3⟩⟩
/-- .. as lists. -/
def its (L : List It) : List (Int × List Int) := L.map fun q => ((q.1 : Int), q.2.2.2.2)
theorem its_len (L : List It) : (its L).length = L.length := by simp [its]
theorem its_at {L : List It} {k : Nat} {q : It} (h : L[k]? = some q) : (its L)[k]? = some ((q.1 : Int), q.2.2.2.2) := by simp [its, h]
/-- Where the first k of them end. -/
def endAt (l : List (Int × List Int)) (k : Nat) : Nat := (forms (l.take k)).length
def endsOf (l : List (Int × List Int)) (k : Nat) : List Value := (List.range k).map fun j => .int .i64 (endAt l (j + 1) : Nat)
theorem endsOf_snoc (l : List (Int × List Int)) (k : Nat) : endsOf l (k + 1) = endsOf l k ++ [.int .i64 (endAt l (k + 1) : Nat)] := by simp [endsOf, List.range_succ]
theorem endsOf_at (l : List (Int × List Int)) {j k : Nat} (h : j < k) : (endsOf l k)[j]? = some (.int .i64 (endAt l (j + 1) : Nat)) := by simp [endsOf, h]
theorem endAt_zero (l : List (Int × List Int)) : endAt l 0 = 0 := rfl
theorem endAt_next {l : List (Int × List Int)} {k : Nat} {q : Int × List Int} (h : l[k]? = some q) : endAt l (k + 1) = endAt l k + (9 + q.2.length) := by
  obtain ⟨hk, e⟩ := List.getElem?_eq_some_iff.1 h
  unfold endAt
  rw [List.take_succ_eq_append_getElem hk, forms_snoc, List.length_append, form_len, e]
theorem forms_next {l : List (Int × List Int)} {k : Nat} {q : Int × List Int} (h : l[k]? = some q) : forms (l.take (k + 1)) = forms (l.take k) ++ form q.1 q.2 := by
  obtain ⟨hk, e⟩ := List.getElem?_eq_some_iff.1 h
  rw [List.take_succ_eq_append_getElem hk, forms_snoc, e]
theorem endAt_mono (l : List (Int × List Int)) {j k : Nat} (h : j ≤ k) : endAt l j ≤ endAt l k := by
  obtain ⟨d, rfl⟩ : ∃ d, k = j + d := ⟨k - j, by omega⟩
  induction d with
  | zero => exact Nat.le_refl _
  | succ d ih =>
    refine Nat.le_trans (ih (by omega)) ?_
    rcases Nat.lt_or_ge (j + d) l.length with hlt | hge
    · have := endAt_next (List.getElem?_eq_getElem hlt)
      rw [show j + (d + 1) = j + d + 1 by omega, this]
      omega
    · unfold endAt
      rw [List.take_of_length_le hge, List.take_of_length_le (by omega)]
      exact Nat.le_refl _

set_option maxRecDepth 10000 in
set_option maxHeartbeats 800000 in
theorem recordRows_long (A : Option Addr) (n c : Nat) (x : Int) (w : World) (h : 10 < n) (hn : n ≤ maxLen) :
    Calls Try.prog 5 #[.slice A n c, .int .i64 x] w fun e w' => e = .returned (.bool true) ∧ Below w.heap.size w w' := by
  unfold maxLen at hn
  go_enter Try.func5, Try.ntmps5
  go_wp2_with fail
  refine (awake_any _).mono ?_
  rintro e w4 ⟨rfl, hb4⟩
  go_wp2
  go_ret
  exact ⟨rfl, hb4⟩

set_option maxRecDepth 10000 in
set_option maxHeartbeats 800000 in
theorem recordRows_short (A : Option Addr) (n c : Nat) (x : Int) (L : List It) (w : World) (h : ¬ 10 < n) (hL : ItemsAt w w.heap.size A n L) :
    Calls Try.prog 5 #[.slice A n c, .int .i64 x] w fun e w' => e = .returned (.bool true) ∧ Below w.heap.size w w' := by
  have hz0 := zeroRec
  have HLen := Lib.hid hL.1
  have HI := Lib.hid (fun w' (b : Below w.heap.size w w') => (hL.below b).2)
  clear hL
  go_enter Try.func5, Try.ntmps5
  go_wp2_with fail
  refine (new_smr _).mono ?_
  rintro e w1 ⟨g, rfl, hg, s1, b1⟩
  have hg1 := s1.lt
  have hgw := hg
  have B1 := Lib.hid b1
  go_wp2
  go_loopw [6, 7, 8] (fun b e i wr => ∃ (k : Nat) (d' : Bool) (k' : Nat), k ≤ n ∧ i = .int .i64 k ∧ Own wr w1.heap.size 5 1 b (endAt (its L) k) (by8 (forms ((its L).take k))) ∧ Own wr w1.heap.size 3 1 e k (endsOf (its L) k) ∧ endAt (its L) k ≤ 209 * k ∧
    Smr wr g d' k' ∧ k' ≤ 2 * k ∧ Upon g w1 wr) (fun _ _ i _ => n - (intOf i).toNat)
  case atStart => exact ⟨0, false, 0, Nat.zero_le _, rfl, Own.nil _ _ _ _ (Nat.le_refl _), Own.nil _ _ _ _ (Nat.le_refl _), Nat.le_refl _, s1, by omega, Upon.refl _ _⟩
  case round =>
    obtain ⟨k, d', k', hk, rfl, hob, hoe, h9, hs, hk', hup⟩ := hrel
    have BR := Lib.hid (B1.out.trans (hup.below hg B1.out.size))
    have HOB := Lib.hid hob
    have HOE := Lib.hid hoe
    have HS := Lib.hid hs
    have HUP := Lib.hid hup
    clear s1 b1
    by_cases hlt : k < n
    · obtain ⟨q, hq⟩ : ∃ q, L[k]? = some q := ⟨_, List.getElem?_eq_getElem (by rw [HLen.out]; exact hlt)⟩
      obtain ⟨⟨bb, off, rfl, hbb, c0, c1⟩, hsh, hq8, hby, hmx⟩ := HI.out wr BR.out k q hq
      have HN := Lib.hid (endAt_next (its_at hq))
      have HF := Lib.hid (forms_next (its_at hq))
      obtain ⟨K, P, m, pc, xs⟩ := q
      simp only [Pc.val] at c0 c1 hsh hq8 hby hmx HN HF
      have hxl : xs.length = m := by have := hsh.len; rwa [by8_len] at this
      have HXL := Lib.hid hxl
      have HSH := Lib.hid hsh
      have HBY := Lib.hid hby
      obtain ⟨t, ht⟩ : ∃ t, t = endAt (its L) k := ⟨_, rfl⟩
      rw [← ht] at hob h9
      have HT := Lib.hid ht
      have HOB2 := Lib.hid hob
      obtain ⟨X, xc, rfl⟩ := hob.form
      clear hob hoe hs hup hq hxl hsh hby ht
      unfold maxLen at hmx
      by_cases h200 : 200 < m
      · go_wp2_with fail
        refine (awake_any _).mono ?_
        rintro e w4 ⟨rfl, hb4⟩
        go_wp2
        go_ret
        exact ⟨rfl, BR.out.trans (hb4.mono BR.out.size)⟩
      · go_wp2_with fail
        have hlow : w.heap.size ≤ wr.heap.size := BR.out.size
        have hlow1 : w1.heap.size ≤ wr.heap.size := HUP.out.size
        have HPUT : Hid (∀ bv, bv = Value.slice X t xc → Calls Try.prog 8 #[.pointer (some ⟨g, 0, none⟩), bv, .agg #[.int .i64 (K : Int), .slice P m pc]] wr.drew fun e w' =>
            ∃ v, e = .returned (.tuple #[v, .int .i64 0]) ∧ w'.cell? ⟨bb, off + k * 2, none⟩ = some (.int .u8 (K : Int)) ∧ w'.cell? ⟨bb, off + k * 2 + 1, none⟩ = some (.slice P m pc) ∧ Hid (Own w' w1.heap.size 5 1 v (t + (9 + m)) (by8 (forms ((its L).take k) ++ form (K : Int) xs)) ∧ Smr w' g true (k' + 2) ∧ Upon g wr w')) := Lib.hid fun bv hbv => by
          subst hbv
          refine (rput_any g k' d' X P t xc m pc K (forms ((its L).take k)) xs wr.drew wr.heap.size (HS.out.below (below_drew _ _) HS.out.lt) (by omega) (HOB2.out.sh.below (below_drew _ _)) (HOB2.out.off hg1) (HSH.out.more hlow |>.below (below_drew _ _)) (HSH.out.off hg) HBY.out (Nat.le_refl _) (by omega) (by omega) (by omega)).mono ?_
          rintro e w' ⟨v, he, ho, hs', hu'⟩
          have hup := (Upon.of_below (below_drew wr.heap.size wr) (g := g)).trans hu'
          exact ⟨v, he, (hup.cell (p := ⟨bb, off + k * 2, none⟩) (by simp only; omega) (by simp only; omega)).trans c0, (hup.cell (p := ⟨bb, off + k * 2 + 1, none⟩) (by simp only; omega) (by simp only; omega)).trans c1, Lib.hid ⟨ho.lower hlow1, hs', hup⟩⟩
        have HWR : Hid (IntKind.i64.wrap (K : Int) = K) := Lib.hid (IntWalk.i64_in _ (by omega))
        have c0' : wr.drew.cell? ⟨bb, off + k * 2, none⟩ = some (.int .u8 (K : Int)) := c0
        have c1' : wr.drew.cell? ⟨bb, off + k * 2 + 1, none⟩ = some (.slice P m pc) := c1
        go_region_held3 (fun w' => w'.cell? ⟨bb, off + k * 2, none⟩ = some (.int .u8 (K : Int)) ∧ w'.cell? ⟨bb, off + k * 2 + 1, none⟩ = some (.slice P m pc)) (((try dsimp only); (repeat' apply And.intro) <;> first | assumption | go_keep)) (first
          | (go_at_call 8; rw [HWR.out]; refine (HPUT.out _ rfl).mono ?_; rintro e w2 ⟨v2, rfl, k0, k1, H2⟩)
          | fail)
        obtain ⟨ho2, hs2, hu2⟩ := H2.out
        obtain ⟨X2, x2, rfl⟩ := ho2.form
        have OE := Lib.hid (HOE.out.upon hu2 hg1)
        have O2 := Lib.hid ho2
        have S2 := Lib.hid hs2
        have U2 := Lib.hid hu2
        clear H2 ho2 hs2 hu2 k0 k1 c0 c1 c0' c1' HPUT
        go_wp2_with (first
          | (at_builtin; refine wpList_push_g rfl (.tmp 56) (.tmp 59) 41 rfl rowI w2 w1.heap.size _ k (endsOf (its L) k) [.int .i64 ((t + (9 + m) : Nat) : Int)] rfl OE.out rfl rfl rfl (by intro z hz; simp at hz; subst hz; rfl) (by omega) (by omega) ?_; intro v3 w3 ho3 hg3)
          | fail)
        have OW := OE.out.alloc (.cells #[.int .i64 ((t + (9 + m) : Nat) : Int)] 3)
        have hge := OW.block_ge
        go_roundw
        case rel =>
          refine ⟨k + 1, true, k' + 2, by omega, by go_num, (((O2.out.alloc _).other OW (by decide) hg3).cast (by rw [HN.out, ← HT.out, HXL.out]) (by rw [HF.out])), ho3.cast rfl (by rw [endsOf_snoc, HN.out, ← HT.out, HXL.out]), by rw [HN.out, ← HT.out, HXL.out]; omega, (S2.out.alloc _).grown hg3 (fun j hj => Nat.lt_of_lt_of_le hg1 (hge j hj)), by omega, (((HUP.out.trans U2.out).alloc _).grown hg3 hge)⟩
        case measure => simp [intOf]; omega
    · obtain rfl : k = n := by omega
      have HLI : Hid ((its L).length = k) := Lib.hid (by rw [its_len]; exact HLen.out)
      have HTK : Hid ((its L).take k = its L) := Lib.hid (List.take_of_length_le (by rw [HLI.out]; exact Nat.le_refl _))
      rw [HTK.out] at hob
      obtain ⟨t, ht⟩ : ∃ t, t = endAt (its L) k := ⟨_, rfl⟩
      rw [← ht] at hob h9
      have HT := Lib.hid ht
      obtain ⟨X, xc, rfl⟩ := hob.form
      obtain ⟨E, ec, rfl⟩ := hoe.form
      have hcap := hob.cap
      have HXA : Hid (xc = 0 ∨ ∃ b off, X = some ⟨b, off, none⟩) := Lib.hid (by
        rcases hob.1.2 with ⟨h1, _⟩ | ⟨gb, cap, cur, h1, _⟩
        · cases h1; exact .inl rfl
        · cases h1; exact .inr ⟨gb, 0, rfl⟩)
      have hall : ∀ q ∈ its L, ((0 ≤ q.1 ∧ q.1 < 256) ∧ Byt q.2) := fun q hq => by
        obtain ⟨j, hj, rfl⟩ := List.mem_iff_getElem.1 hq
        have hj' : j < L.length := by rwa [its_len] at hj
        obtain ⟨_, _, h1, h2, _⟩ := HI.out wr BR.out j _ (List.getElem?_eq_getElem hj')
        have e : (its L)[j] = (((L[j]).1 : Int), (L[j]).2.2.2.2) := by simp [its]
        rw [e]
        exact ⟨⟨by simp only; omega, by simp only; omega⟩, h2⟩
      have HBF := Lib.hid ((forms_byt hall))
      have HLN : Hid (∀ q ∈ its L, q.2.length ≤ 65536) := Lib.hid fun q hq => by
        have h1 := forms_ge hq
        have h2 : (forms (its L)).length = t := by rw [ht]; unfold endAt; rw [HTK.out]
        omega
      have HOB2 := Lib.hid hob
      have HOE2 := Lib.hid hoe
      clear hob hoe hs hup ht HOB HOE hall
      unfold maxLen at hcap
      go_wp2_with fail
      refine (pick_any x (t + 1) wr (by omega) (by omega)).mono ?_
      rintro e w' ⟨kx, hkx, rfl, rfl⟩
      have hkc : kx ≤ xc := by omega
      have HSX : Hid (Sh wr wr.heap.size X kx (by8 ((forms (its L)).take kx))) := Lib.hid (by
        have := HOB2.out.sh.head (k := kx) (by omega)
        rwa [by8_take] at this)
      have HOX : Hid (Off X kx g) := Lib.hid fun hn => HOB2.out.off hg1 (by omega)
      go_wp2_with fail
      refine (all_any g k' d' X kx xc ((forms (its L)).take kx) wr wr.heap.size HS.out (by omega) hkc (by omega) HXA.out (by unfold maxLen; omega) (HBF.out.take kx) (Nat.le_refl _) HSX.out HOX.out).mono ?_
      rintro e w4 ⟨v4, L4, u, d4, k4, rfl, ho4, hr4, he4, hu4, _, hsh4, s4, _, u4⟩
      obtain ⟨j, hj, hpays, hue0, huk⟩ := reads_cut HLN.out hr4
      have hend : j < k → kx < endAt (its L) (j + 1) := fun hjk => reads_end HLN.out hj (by rw [← hue0]; exact huk) (by rw [← hue0]; exact he4) (by rw [HLI.out]; exact hjk)
      have hL4 : L4.length = j := by
        have := congrArg List.length hpays
        rw [List.length_take, Nat.min_eq_left hj] at this
        simpa [pays] using this
      have HUE : Hid (u = endAt (its L) j) := Lib.hid hue0
      rw [HLI.out] at hj
      have ho4 := ho4.cast hL4 rfl
      obtain ⟨A4, c4, rfl⟩ := ho4.form
      have HP := Lib.hid hpays
      have HL4 := Lib.hid hL4
      have HEND := Lib.hid hend
      have SH4 := Lib.hid hsh4
      have OE4 := Lib.hid (HOE2.out.upon u4 hg1)
      have B4 := Lib.hid (BR.out.trans (u4.below hg BR.out.size))
      have HG4 : Hid (0 < j → ∃ gb, A4 = some ⟨gb, 0, none⟩ ∧ ∀ q qc, L4[q]? = some qc → w4.cell? ⟨gb, q * 2, none⟩ = some (.int .i64 qc.1) ∧ w4.cell? ⟨gb, q * 2 + 1, none⟩ = some qc.2.val) := Lib.hid fun hj0 => by
        rcases ho4.1.2 with ⟨_, h0⟩ | ⟨gb, cap, cur, hv, _⟩
        · omega
        · have hA : A4 = some ⟨gb, 0, none⟩ := by injection hv
          subst hA
          refine ⟨gb, rfl, fun q qc hqc => ?_⟩
          obtain ⟨r0, r1⟩ := rcs_at hqc
          have e0 := ho4.1.cells (g := gb) rfl _ _ r0
          have e1 := ho4.1.cells (g := gb) rfl _ _ r1
          rw [Addr.add_lit, Nat.zero_add] at e0 e1
          rw [Nat.mul_comm] at e0 e1
          exact ⟨e0, e1⟩
      clear hr4 he4 hsh4 s4 u4 hpays hue0 hend hL4 ho4
      go_wp2
      rcases Nat.eq_zero_or_pos k with hk0 | hk0
      · subst hk0
        obtain rfl : j = 0 := by omega
        obtain rfl : u = 0 := HUE.out
        go_loop [14] (fun i => i = .int .i64 0) (fun _ => 0)
        case atStart => exact rfl
        case round =>
          subst hrel
          go_wp2
          go_loop [15] (fun i => i = .int .i64 0) (fun _ => 0)
          case atStart => exact rfl
          case round =>
            subst hrel
            go_wp2_with fail
            refine (awake_any _).mono ?_
            rintro e w5 ⟨rfl, hb5⟩
            go_wp2
            go_ret
            exact ⟨rfl, B4.out.trans (hb5.mono B4.out.size)⟩
      · obtain ⟨ge, rfl, _, _, _⟩ := OE4.out.full (by omega)
        have HCE : Hid (∀ q, q < k → w4.cell? ⟨ge, q, none⟩ = some (.int .i64 (endAt (its L) (q + 1) : Nat))) := Lib.hid fun q hqk => by
          obtain ⟨b', off', e', _, hc'⟩ := OE4.out.sh.2 (by omega)
          cases e'
          have := hc' q _ (endsOf_at (its L) hqk)
          rwa [Nat.zero_add] at this
        go_loop [14] (fun i => ∃ q : Nat, q ≤ j ∧ i = .int .i64 q) (fun i => j - (intOf i).toNat)
        case atStart => exact ⟨0, Nat.zero_le _, rfl⟩
        case round =>
          obtain ⟨q, hq, rfl⟩ := hrel
          by_cases hqj : q < j
          · have hqk : q < k := by omega
            have hcell := HCE.out q hqk
            obtain ⟨eq, heq⟩ : ∃ eq, eq = endAt (its L) (q + 1) := ⟨_, rfl⟩
            rw [← heq] at hcell
            have hle : eq ≤ kx := by
              rw [heq]
              exact Nat.le_trans (endAt_mono _ hqj) (by rw [← HUE.out]; exact huk)
            clear heq
            go_wp2
            go_round
            case rel => exact ⟨q + 1, by omega, by go_num⟩
            case measure => simp [intOf]; omega
          · obtain rfl : q = j := by omega
            by_cases hqk : q < k
            · have hcell := HCE.out q hqk
              obtain ⟨eq, heq⟩ : ∃ eq, eq = endAt (its L) (q + 1) := ⟨_, rfl⟩
              rw [← heq] at hcell
              have hlt : kx < eq := by rw [heq]; exact HEND.out hqk
              clear heq
              by_cases hj0 : q = 0
              · subst hj0
                obtain rfl : u = 0 := HUE.out
                go_wp2
                go_loop [15] (fun i => i = .int .i64 0) (fun _ => 0)
                case atStart => exact rfl
                case round =>
                  subst hrel
                  go_wp2_with fail
                  refine (awake_any _).mono ?_
                  rintro e w5 ⟨rfl, hb5⟩
                  go_wp2
                  go_ret
                  exact ⟨rfl, B4.out.trans (hb5.mono B4.out.size)⟩
              · have hcell2 : w4.cell? ⟨ge, q - 1, none⟩ = some (.int .i64 (u : Int)) := by rw [HCE.out (q - 1) (by omega), show q - 1 + 1 = q by omega, ← HUE.out]
                go_wp2
                obtain ⟨w4', hw4'⟩ : ∃ w4', w4' = w4 := ⟨_, rfl⟩
                go_loopw [15] (fun i wr => ∃ r : Nat, r ≤ q ∧ i = .int .i64 r ∧ Quiet w4 wr) (fun i _ => q - (intOf i).toNat)
                case atStart => exact ⟨0, Nat.zero_le _, rfl, Quiet.refl _⟩
                case round =>
                  obtain ⟨r, hr, rfl, hqt⟩ := hrel
                  have BRR : Hid (Below w.heap.size w wr) := Lib.hid (B4.out.trans (hqt.below _))
                  by_cases hrq : r < q
                  · obtain ⟨gb, rfl, hgc⟩ := HG4.out (by omega)
                    have hrk : r < k := by omega
                    have hrk' : (r : Int) < (k : Int) := by omega
                    obtain ⟨it, hit⟩ : ∃ it, L[r]? = some it := ⟨_, List.getElem?_eq_getElem (by rw [HLen.out]; omega)⟩
                    obtain ⟨qc, hqc⟩ : ∃ qc, L4[r]? = some qc := ⟨_, List.getElem?_eq_getElem (by rw [HL4.out]; omega)⟩
                    obtain ⟨⟨bb, off, rfl, hbb, c0, c1⟩, hsh, hq8, hby, hmx⟩ := HI.out wr BRR.out r it hit
                    obtain ⟨g0, g1⟩ := hgc r qc hqc
                    have hsh4 := SH4.out qc (List.mem_of_getElem? hqc)
                    have hpq := congrArg (fun l => l[r]?) HP.out
                    simp only [pays, its, List.getElem?_map, List.getElem?_take, hqc, hit, if_pos hrq, Option.map_some, Option.some.injEq] at hpq
                    obtain ⟨K, P, m, pc, xs⟩ := it
                    obtain ⟨K4, P4, m4, pc4, xs4⟩ := qc
                    simp only [Prod.mk.injEq] at hpq
                    obtain ⟨e1, e2⟩ := hpq
                    subst e1
                    subst e2
                    simp only [Pc.val] at c0 c1 hsh hq8 hby hmx g0 g1 hsh4
                    have g0 : wr.drew.cell? ⟨gb, r * 2, none⟩ = some (.int .i64 (K : Int)) := by obtain ⟨qq, rfl⟩ := hqt; exact g0
                    have g1 : wr.drew.cell? ⟨gb, r * 2 + 1, none⟩ = some (.slice P4 m4 pc4) := by obtain ⟨qq, rfl⟩ := hqt; exact g1
                    have c0 : wr.drew.cell? ⟨bb, off + r * 2, none⟩ = some (.int .u8 (K : Int)) := c0
                    have c1 : wr.drew.cell? ⟨bb, off + r * 2 + 1, none⟩ = some (.slice P m pc) := c1
                    have hwrap : IntKind.i64.wrap (K : Int) = K := IntWalk.i64_in _ (by omega)
                    have hne : ((K : Int) != IntKind.i64.wrap (K : Int)) = false := by rw [hwrap]; simp
                    have hne2 : ((K : Int) != (K : Int)) = false := by simp
                    have HS1 : Hid (Calls Try.prog 10 #[.slice P4 m4 pc4, .slice P m pc] wr.drew fun e w' => e = .returned (.bool true) ∧ w'.cell? ⟨gb, r * 2, none⟩ = some (.int .i64 (K : Int)) ∧ w'.cell? ⟨gb, r * 2 + 1, none⟩ = some (.slice P4 m4 pc4) ∧ w'.cell? ⟨bb, off + r * 2, none⟩ = some (.int .u8 (K : Int)) ∧ w'.cell? ⟨bb, off + r * 2 + 1, none⟩ = some (.slice P m pc) ∧ Hid (Quiet wr w')) := Lib.hid (by
                      refine (same_yes P4 P m4 m pc4 pc xs4 xs4 wr.drew w4.heap.size w.heap.size (((hsh4.sh).below (hqt.below _)).below (below_drew _ _)) (hsh.below (below_drew _ _)) ?_ rfl).mono ?_
                      · have h1 := hsh4.sh.len
                        have h2 := hsh.len
                        omega
                      · rintro e w' ⟨he, qq, rfl⟩
                        exact ⟨he, g0, g1, c0, c1, Lib.hid ((Quiet.one wr 1).trans ⟨qq, rfl⟩)⟩)
                    have HQT := Lib.hid hqt
                    clear hsh4 hsh hby hmx hqc hit hgc hqt
                    go_wp2_with fail
                    go_region_held3 (fun w' => w'.cell? ⟨gb, r * 2, none⟩ = some (.int .i64 (K : Int)) ∧ w'.cell? ⟨gb, r * 2 + 1, none⟩ = some (.slice P4 m4 pc4) ∧ w'.cell? ⟨bb, off + r * 2, none⟩ = some (.int .u8 (K : Int)) ∧ w'.cell? ⟨bb, off + r * 2 + 1, none⟩ = some (.slice P m pc)) (((try dsimp only); (repeat' apply And.intro) <;> first | assumption | go_keep)) (first
                      | (go_at_call 10; refine HS1.out.mono ?_; rintro e w5 ⟨rfl, k0, k1, k2, k3, hq5⟩)
                      | fail)
                    all_goals go_wp2
                    all_goals go_roundw
                    case rel => exact ⟨r + 1, by omega, by go_num, HQT.out.trans hq5.out⟩
                    case measure => simp [intOf]; omega
                  · obtain rfl : r = q := by omega
                    go_wp2_with fail
                    refine (awake_any _).mono ?_
                    rintro e w5 ⟨rfl, hb5⟩
                    go_wp2
                    go_ret
                    exact ⟨rfl, BRR.out.trans (hb5.mono BRR.out.size)⟩
            · obtain rfl : q = k := by omega
              have hcell2 : w4.cell? ⟨ge, q - 1, none⟩ = some (.int .i64 (u : Int)) := by rw [HCE.out (q - 1) (by omega), show q - 1 + 1 = q by omega, ← HUE.out]
              have hj0 : ¬ q = 0 := by omega
              go_wp2
              obtain ⟨w4', hw4'⟩ : ∃ w4', w4' = w4 := ⟨_, rfl⟩
              go_loopw [15] (fun i wr => ∃ r : Nat, r ≤ q ∧ i = .int .i64 r ∧ Quiet w4 wr) (fun i _ => q - (intOf i).toNat)
              case atStart => exact ⟨0, Nat.zero_le _, rfl, Quiet.refl _⟩
              case round =>
                obtain ⟨r, hr, rfl, hqt⟩ := hrel
                have BRR : Hid (Below w.heap.size w wr) := Lib.hid (B4.out.trans (hqt.below _))
                by_cases hrq : r < q
                · obtain ⟨gb, rfl, hgc⟩ := HG4.out (by omega)
                  obtain ⟨it, hit⟩ : ∃ it, L[r]? = some it := ⟨_, List.getElem?_eq_getElem (by rw [HLen.out]; omega)⟩
                  obtain ⟨qc, hqc⟩ : ∃ qc, L4[r]? = some qc := ⟨_, List.getElem?_eq_getElem (by rw [HL4.out]; omega)⟩
                  obtain ⟨⟨bb, off, rfl, hbb, c0, c1⟩, hsh, hq8, hby, hmx⟩ := HI.out wr BRR.out r it hit
                  obtain ⟨g0, g1⟩ := hgc r qc hqc
                  have hsh4 := SH4.out qc (List.mem_of_getElem? hqc)
                  have hpq := congrArg (fun l => l[r]?) HP.out
                  simp only [pays, its, List.getElem?_map, List.getElem?_take, hqc, hit, if_pos hrq, Option.map_some, Option.some.injEq] at hpq
                  obtain ⟨K, P, m, pc, xs⟩ := it
                  obtain ⟨K4, P4, m4, pc4, xs4⟩ := qc
                  simp only [Prod.mk.injEq] at hpq
                  obtain ⟨e1, e2⟩ := hpq
                  subst e1
                  subst e2
                  simp only [Pc.val] at c0 c1 hsh hq8 hby hmx g0 g1 hsh4
                  have g0 : wr.drew.cell? ⟨gb, r * 2, none⟩ = some (.int .i64 (K : Int)) := by obtain ⟨qq, rfl⟩ := hqt; exact g0
                  have g1 : wr.drew.cell? ⟨gb, r * 2 + 1, none⟩ = some (.slice P4 m4 pc4) := by obtain ⟨qq, rfl⟩ := hqt; exact g1
                  have c0 : wr.drew.cell? ⟨bb, off + r * 2, none⟩ = some (.int .u8 (K : Int)) := c0
                  have c1 : wr.drew.cell? ⟨bb, off + r * 2 + 1, none⟩ = some (.slice P m pc) := c1
                  have hwrap : IntKind.i64.wrap (K : Int) = K := IntWalk.i64_in _ (by omega)
                  have hne : ((K : Int) != IntKind.i64.wrap (K : Int)) = false := by rw [hwrap]; simp
                  have hne2 : ((K : Int) != (K : Int)) = false := by simp
                  have HS1 : Hid (Calls Try.prog 10 #[.slice P4 m4 pc4, .slice P m pc] wr.drew fun e w' => e = .returned (.bool true) ∧ w'.cell? ⟨gb, r * 2, none⟩ = some (.int .i64 (K : Int)) ∧ w'.cell? ⟨gb, r * 2 + 1, none⟩ = some (.slice P4 m4 pc4) ∧ w'.cell? ⟨bb, off + r * 2, none⟩ = some (.int .u8 (K : Int)) ∧ w'.cell? ⟨bb, off + r * 2 + 1, none⟩ = some (.slice P m pc) ∧ Hid (Quiet wr w')) := Lib.hid (by
                    refine (same_yes P4 P m4 m pc4 pc xs4 xs4 wr.drew w4.heap.size w.heap.size (((hsh4.sh).below (hqt.below _)).below (below_drew _ _)) (hsh.below (below_drew _ _)) ?_ rfl).mono ?_
                    · have h1 := hsh4.sh.len
                      have h2 := hsh.len
                      omega
                    · rintro e w' ⟨he, qq, rfl⟩
                      exact ⟨he, g0, g1, c0, c1, Lib.hid ((Quiet.one wr 1).trans ⟨qq, rfl⟩)⟩)
                  have HQT := Lib.hid hqt
                  clear hsh4 hsh hby hmx hqc hit hgc hqt
                  go_wp2_with fail
                  go_region_held3 (fun w' => w'.cell? ⟨gb, r * 2, none⟩ = some (.int .i64 (K : Int)) ∧ w'.cell? ⟨gb, r * 2 + 1, none⟩ = some (.slice P4 m4 pc4) ∧ w'.cell? ⟨bb, off + r * 2, none⟩ = some (.int .u8 (K : Int)) ∧ w'.cell? ⟨bb, off + r * 2 + 1, none⟩ = some (.slice P m pc)) (((try dsimp only); (repeat' apply And.intro) <;> first | assumption | go_keep)) (first
                    | (go_at_call 10; refine HS1.out.mono ?_; rintro e w5 ⟨rfl, k0, k1, k2, k3, hq5⟩)
                    | fail)
                  all_goals go_wp2
                  all_goals go_roundw
                  case rel => exact ⟨r + 1, by omega, by go_num, HQT.out.trans hq5.out⟩
                  case measure => simp [intOf]; omega
                · obtain rfl : r = q := by omega
                  go_wp2_with fail
                  refine (awake_any _).mono ?_
                  rintro e w5 ⟨rfl, hb5⟩
                  go_wp2
                  go_ret
                  exact ⟨rfl, BRR.out.trans (hb5.mono BRR.out.size)⟩

theorem recordRows_walk (A : Option Addr) (n c : Nat) (x : Int) (L : List It) (w : World) (hn : n ≤ maxLen) (hL : ItemsAt w w.heap.size A n L) :
    Calls Try.prog 5 #[.slice A n c, .int .i64 x] w fun e w' => e = .returned (.bool true) ∧ Below w.heap.size w w' := by
  by_cases h : 10 < n
  · exact recordRows_long A n c x w h hn
  · exact recordRows_short A n c x L w h hL
end Go.Proofs.Ythfhhgjjnpcmgaa
