/-
  CONTRACTS OF JoinAll; of the law's square, awake.
  WORDS FOR layer 14's laws: what New comes to; calls between elements.
-/
import Derived.Test.YtnhdpegjkkaabaaLtG
import Derived.Test.YtnhdpegjkkaabaaOlA
import Derived.Test.YtnhdpegjkkaabaaOrO
namespace Go.Proofs.Ytnhdpegjkkaabaa
set_option linter.unusedVariables false
set_option linter.unusedSimpArgs false
open Go.RowKit Go.Maps

def intz (l : List Int) : List Value := l.map (Value.int .i64)
def ljf (F : Nat → Nat → Bool) (n : Nat) (l : List Int) (x : Int) : Int := l.foldl (ltJ F n) x
theorem ljf_snoc (F : Nat → Nat → Bool) (n : Nat) (l : List Int) (a x : Int) : ljf F n (l ++ [a]) x = ltJ F n (ljf F n l x) a := by
  unfold ljf
  rw [List.foldl_append]
  rfl
theorem ltJ_neg (F : Nat → Nat → Bool) (n : Nat) (a : Int) : ltJ F n (-1) a = -1 := ltJ_out (.inl (by unfold inI; simp))
theorem ljf_neg (F : Nat → Nat → Bool) (n : Nat) : ∀ (l : List Int), ljf F n l (-1) = -1
  | [] => rfl
  | a :: l => by
    show ljf F n l (ltJ F n (-1) a) = -1
    rw [ltJ_neg]
    exact ljf_neg F n l
theorem ljf_bad {F : Nat → Nat → Bool} {n : Nat} : ∀ {l : List Int} {x : Int}, (∃ a ∈ l, inI n a = false) → ljf F n l x = -1
  | [], _, h => by obtain ⟨a, ha, _⟩ := h; cases ha
  | b :: l, x, h => by
    show ljf F n l (ltJ F n x b) = -1
    obtain ⟨a, ha, e⟩ := h
    rcases List.mem_cons.1 ha with rfl | ha
    · rw [ltJ_out (.inr e)]
      exact ljf_neg F n l
    · exact ljf_bad ⟨a, ha, e⟩
theorem ljf_good {F : Nat → Nat → Bool} {n : Nat} {J M : Nat → Nat → Nat} (h : Lat n F J M) : ∀ {l : List Nat} {x : Nat}, x < n → (∀ a ∈ l, a < n) → ljf F n (l.map fun (i : Nat) => (i : Int)) (x : Int) = (jfold F n l x : Nat)
  | [], x, _, _ => rfl
  | a :: l, x, hx, hl => by
    have ha := hl a (by simp)
    show ljf F n (l.map fun (i : Nat) => (i : Int)) (ltJ F n (x : Int) (a : Int)) = _
    rw [ltJ_nat hx ha, (h.std.j hx ha).rjoin h.ord]
    exact ljf_good h (h.std.jl hx ha) fun b hb => hl b (by simp [hb])
section
variable {w : World} {X : Nat → Prop} {g og k : Nat} {o : Od} {J M : Nat → Nat → Nat}
set_option maxRecDepth 10000 in
set_option maxHeartbeats 800000 in
theorem ljoinAll_any (h : LtAt w X g og o true k) (h0 : 0 < o.ns.length) (hL : Lat o.ns.length (rmost o) J M) (U : Nat) (S : Option Addr) (n c : Nat) (l : List Int) (hs : ∀ w', Only g w w' → Sh w' U S n (intz l)) (hn : n ≤ 1000000) :
    Calls Try.prog 54 #[.pointer (some ⟨g, 0, none⟩), .slice S n c] w (LtTo w X g og o k (.int .i64 (ljf (rmost o) o.ns.length l (botI (rmost o) o.ns.length)))) := by
  unfold LtTo
  have HB := Lib.hid (lbot_pub h h0 hL)
  unfold LtTo at HB
  have HJ := Lib.hid (fun (w : World) (h : LtAt w X g og o true k) (a b : Int) => ljoin_any h a b)
  unfold LtTo at HJ
  have HS := Lib.hid hs
  have hl : l.length = n := by have := (hs w (Only.refl _ _)).len; simpa [intz] using this
  have HLN := Lib.hid hl
  clear h hs hl h0 hL
  obtain ⟨F, hF⟩ : ∃ F, rmost o = F := ⟨_, rfl⟩
  rw [hF] at HB HJ
  rw [hF]
  clear hF
  obtain ⟨bt, hbt⟩ : ∃ bt, botI F o.ns.length = bt := ⟨_, rfl⟩
  rw [hbt] at HB
  rw [hbt]
  clear hbt
  go_enter Try.func54, Try.ntmps54
  go_wp2_with (first
    | (go_at_call 67; (with_reducible refine HB.out.mono ?_); rintro e w2 ⟨rfl, hm, ho⟩; have HM := Lib.hid hm; have HO := Lib.hid ho; clear hm ho)
    | go_in)
  go_loopw [5, 12] (fun x i wr => ∃ q : Nat, x = .int .i64 (ljf F o.ns.length (l.take q) bt) ∧ i = .int .i64 (q : Int) ∧ q ≤ n ∧ Hid (LtAt wr X g og o true k) ∧ Hid (Only g w wr)) (fun _ i _ => n - (intOf i).toNat)
  case atStart => exact ⟨0, rfl, rfl, Nat.zero_le _, HM, HO⟩
  case round =>
    obtain ⟨q, rfl, rfl, hq, HL, HON⟩ := hrel
    obtain ⟨wz, hwz⟩ : ∃ wz, wz = wr := ⟨_, rfl⟩
    subst hwz
    by_cases hlt : q < n
    · obtain ⟨b, off, u, rfl, hb, hu, c0⟩ := (HS.out wz HON.out).at hlt
      have hql : q < l.length := by rw [HLN.out]; exact hlt
      obtain ⟨y, hy⟩ : ∃ y, l[q] = y := ⟨_, rfl⟩
      have hu2 : u = .int .i64 y := by
        unfold intz at hu
        rw [List.getElem?_map, List.getElem?_eq_getElem hql, hy] at hu
        cases hu; rfl
      subst hu2
      have HTK := Lib.hid (show ljf F o.ns.length (l.take (q + 1)) bt = ltJ F o.ns.length (ljf F o.ns.length (l.take q) bt) y by rw [List.take_add_one, List.getElem?_eq_getElem hql, hy]; exact ljf_snoc _ _ _ _ _)
      obtain ⟨x, hx⟩ : ∃ x, ljf F o.ns.length (l.take q) bt = x := ⟨_, rfl⟩
      rw [hx] at HTK
      rw [hx]
      have HC := Lib.hid (HJ.out wz HL.out x y)
      rw [← HTK.out] at HC
      clear hx hy hu hql
      go_wp2_with (first
        | (go_at_call 65; (with_reducible refine HC.out.mono ?_); rintro e w2 ⟨rfl, hm, ho⟩; have HM2 := Lib.hid hm; have HO2 := Lib.hid (HON.out.trans ho); clear hm ho)
        | go_in)
      go_roundw
      case rel => exact ⟨q + 1, rfl, by go_num, hlt, HM2, HO2⟩
      case measure => simp [intOf]; omega
    · obtain rfl : n = q := by omega
      have HT := Lib.hid (show l.take n = l from List.take_of_length_le (by rw [HLN.out]; exact Nat.le_refl _))
      go_wp2
      go_ret
      exact ⟨by rw [HT.out]; rfl, HL.out, HON.out⟩
end
theorem ljoin0_nil (w : World) (a b : Int) : Calls Try.prog 65 #[.pointer none, .int .i64 a, .int .i64 b] w fun e w' => e = .returned (.int .i64 (-1)) ∧ w = w' := by
  go_enter Try.func65, Try.ntmps65
  go_wp2_with (first
    | (go_at_call 72; (with_reducible refine (lhas_nil _ _).mono ?_); rintro e w2 ⟨rfl, rfl⟩)
    | go_in)
  go_ret
  exact ⟨rfl, rfl⟩
set_option maxRecDepth 10000 in
set_option maxHeartbeats 800000 in
theorem ljoinAll_nil (w : World) (U : Nat) (S : Option Addr) (n c : Nat) (l : List Int) (hs : Sh w U S n (intz l)) (hn : n ≤ 1000000) :
    Calls Try.prog 54 #[.pointer none, .slice S n c] w fun e w' => e = .returned (.int .i64 (-1)) ∧ w = w' := by
  go_enter Try.func54, Try.ntmps54
  go_wp2_with (first
    | (go_at_call 67; (with_reducible refine (lbot_nil _).mono ?_); rintro e w2 ⟨rfl, rfl⟩)
    | go_in)
  go_loopw [5, 12] (fun x i wr => ∃ q : Nat, x = .int .i64 (-1) ∧ i = .int .i64 (q : Int) ∧ q ≤ n ∧ wr = w) (fun _ i _ => n - (intOf i).toNat)
  case atStart => exact ⟨0, rfl, rfl, Nat.zero_le _, rfl⟩
  case round =>
    obtain ⟨q, rfl, rfl, hq, rfl⟩ := hrel
    obtain ⟨wz, hwz⟩ : ∃ wz, wz = wr := ⟨_, rfl⟩
    subst hwz
    by_cases hlt : q < n
    · obtain ⟨b, off, u, rfl, hb, hu, c0⟩ := hs.at hlt
      obtain ⟨y, rfl⟩ : ∃ y, u = .int .i64 y := by
        unfold intz at hu
        rw [List.getElem?_map] at hu
        obtain ⟨y, _, rfl⟩ := Option.map_eq_some_iff.1 hu
        exact ⟨y, rfl⟩
      go_wp2_with (first
        | (go_at_call 65; (with_reducible refine (ljoin0_nil _ _ _).mono ?_); rintro e w2 ⟨rfl, rfl⟩)
        | go_in)
      go_roundw
      case rel => exact ⟨q + 1, rfl, by go_num, hlt, (by trivial)⟩
      case measure => simp [intOf]; omega
    · obtain rfl : n = q := by omega
      go_wp2
      go_ret
      exact ⟨rfl, rfl⟩
theorem lnTo_is {w w' : World} {X : Nat → Prop} {og : Nat} {o : Od} {e : Ending} (h : LnTo w X og o e w') (k : LNew o.ns.length (rmost o) 0 0 0) :
    Below w.heap.size w w' ∧ e = .returned (.tuple #[.pointer (some ⟨w.heap.size, 0, none⟩), .int .i64 0, .int .i64 0, .int .i64 0]) ∧ LtAt w' (fun b => X b ∨ b = w.heap.size) w.heap.size og o true 0 := by
  obtain ⟨hb, a, b, x, hl, h2⟩ := h
  obtain ⟨_, _, rfl⟩ := hl.uniq k
  rw [if_pos rfl] at h2
  exact ⟨hb, h2⟩
theorem lnTo_err {w w' : World} {X : Nat → Prop} {og : Nat} {o : Od} {e : Ending} (h : LnTo w X og o e w') {a b x : Nat} (k : LNew o.ns.length (rmost o) a b x) (hx : x ≠ 0) :
    Below w.heap.size w w' ∧ e = .returned (.tuple #[.pointer none, .int .i64 (a : Int), .int .i64 (b : Int), .int .i64 (x : Int)]) := by
  obtain ⟨hb, a', b', x', hl, h2⟩ := h
  obtain ⟨rfl, rfl, rfl⟩ := hl.uniq k
  rw [if_neg hx] at h2
  exact ⟨hb, h2⟩
end Go.Proofs.Ytnhdpegjkkaabaa
namespace Go.Proofs.Ytnhdpegjkkaabaa
set_option linter.unusedVariables false
set_option linter.unusedSimpArgs false
open Go.RowKit Go.Maps

theorem lnew_ex {n : Nat} {F : Nat → Nat → Bool} (h : Pord n F) : ∃ a b x : Nat, LNew n F a b x := by
  by_cases hn : n = 0
  · exact ⟨_, _, _, .none hn⟩
  · rcases fst_or (ltP1 F n) n with ⟨a, b, k⟩ | hN
    · exact ⟨_, _, _, lnew_one h k⟩
    · rcases fst_or (ltP2 F n) n with ⟨a, b, k⟩ | hN2
      · exact ⟨_, _, _, lnew_two hN k⟩
      · exact ⟨_, _, _, lnew_ok (Nat.pos_of_ne_zero hn) hN hN2⟩
section
variable {w : World} {X : Nat → Prop} {g og k : Nat} {o : Od}
end
theorem ShP.up {w w1 : World} {A : Option Addr} {n : Nat} {L : List OPa} (h : ShP w w.heap.size A n L) (b : Below w.heap.size w w1) : ShP w1 w1.heap.size A n L := by
  have := h.below b
  exact ⟨this.1, fun hn => by
    obtain ⟨bb, off, e, hB, hc⟩ := this.2 hn
    exact ⟨bb, off, e, Nat.lt_of_lt_of_le hB b.size, hc⟩⟩
theorem OrdAt.wide {w w' : World} {X : Nat → Prop} {g : Nat} {o : Od} (h : OrdAt w X g o) (hb : Below w.heap.size w w') : OrdAt w' (fun k => X k ∨ (w.heap.size ≤ k ∧ k < w'.heap.size)) g o := by
  obtain ⟨h1, h2, ⟨v, m, hc, hr, hm, hx⟩, h4, h5⟩ := h
  refine ⟨fun e => e.elim h1 (fun e => ?_), fun k hk => ?_, ⟨v, m, hc.stay (hb.block _ hc.lt), ⟨(hr.stay (fun j hj => hb.block _ (hr.lt hj))).1, fun j hj e => e.elim (hr.2 j hj) (fun e => ?_)⟩, hm.stay (hb.block _ hm.lt), fun e => e.elim hx (fun e => ?_)⟩, h4, h5⟩
  · have := hc.lt; omega
  · rcases hk with hk | hk
    · exact Nat.lt_of_lt_of_le (h2 k hk) hb.size
    · exact hk.2
  · have := hr.lt hj; omega
  · have := hm.lt; omega
theorem LtAt.wide {w w' : World} {X : Nat → Prop} {g og k : Nat} {o : Od} {d : Bool} (h : LtAt w X g og o d k) (hb : Below w.heap.size w w') : LtAt w' (fun b => X b ∨ (w.heap.size ≤ b ∧ b < w'.heap.size)) g og o d k := by
  have h2 := h.stay hb
  exact ⟨⟨.inl h.c.gX, h.c.ord.wide hb, h2.c.osd, h2.c.osa, h2.c.nf, h2.c.c0, h2.c.c1⟩, h2.c2, h2.c3, h2.c5, h2.t, h2.b⟩
theorem lnTo_any {w w' : World} {X : Nat → Prop} {og : Nat} {o : Od} {e : Ending} (h : LnTo w X og o e w') : Below w.heap.size w w' ∧ ∃ (pv : Value) (i j k : Int), e = .returned (.tuple #[pv, .int .i64 i, .int .i64 j, .int .i64 k]) := by
  obtain ⟨hb, a, b, x, _, h2⟩ := h
  refine ⟨hb, ?_⟩
  by_cases hx : x = 0
  · rw [if_pos hx] at h2
    exact ⟨_, _, _, _, h2.1⟩
  · rw [if_neg hx] at h2
    exact ⟨_, _, _, _, h2⟩
theorem LNew.kinds {n : Nat} {F : Nat → Nat → Bool} {a b x : Nat} (h : LNew n F a b x) : x = 0 ∨ x = 1 ∨ x = 17 := by
  cases h with
  | none _ => exact .inr (.inl rfl)
  | one _ => exact .inr (.inr rfl)
  | two _ _ => exact .inr (.inr rfl)
  | ok _ _ _ => exact .inl rfl
theorem LNew.zero {n : Nat} {F : Nat → Nat → Bool} {a b : Nat} (h : LNew n F a b 0) : LNew n F 0 0 0 := by
  cases h with
  | ok h1 h2 h3 => exact .ok h1 h2 h3
theorem rowz_of {H : Type} {enc : TypeId × Value → H} {w : World} {held : Bool} {fuel : Nat} {cs : List Value} {x : DataW H × List MemPlace} {t e : TypeId} {k : IntKind} (ht : Try.prog.underlying t = some (.slice e)) (he : Try.prog.underlying e = some (.int k)) (hc : Try.prog.cellsOf e = 1) (h : DataW.trod enc Try.prog w 0 (fun _ => true) held fuel t cs = some x) :
    ∃ a len cap zs, cs = [.slice a len cap] ∧ IsRow k w a len cap zs := by
  rcases Go.ChangeShapes.open_ints ht he hc h with ⟨hcs, _⟩ | ⟨a, l, c, zs, hcs, _, hl, hm, hz, _, hcell, hwz⟩
  · exact ⟨none, 0, 0, [], hcs, .inl ⟨rfl, rfl, rfl, rfl⟩⟩
  · exact ⟨some a, l, c, zs, hcs, .inr ⟨_, rfl, hl, hm, by simpa using hz, hcell, hwz⟩⟩
theorem turned_el {l : List OPr} (h : ∀ p ∈ l, p.1.size ≠ 0) {x y : Od} (hx : (newO l).1 = some x) (hy : (newO (l.map oturn)).1 = some y) (hn : 0 < x.ns.length) {J M : Nat → Nat → Nat} (hL : Lat x.ns.length (rmost x) J M) {a b : Nat} (ha : a < x.ns.length) (hb : b < x.ns.length) :
    ∃ s : Nat → Nat, (∀ i, i < x.ns.length → y.num (x.ns.getD i ⟨#[]⟩) = s i ∧ s i < y.ns.length ∧ x.ns.getD i ⟨#[]⟩ ∈ y.ns ∧ y.ns.getD (s i) ⟨#[]⟩ = x.ns.getD i ⟨#[]⟩) ∧
      mn (rmost y) y.ns.length (s a) (s b) = s (jn (rmost x) x.ns.length a b) ∧ jn (rmost y) y.ns.length (s a) (s b) = s (mn (rmost x) x.ns.length a b) ∧
      ∃ tp : Nat, tp < x.ns.length ∧ botI (oflip (rmost x)) x.ns.length = (tp : Int) ∧ botI (rmost y) y.ns.length = (s tp : Nat) := by
  obtain ⟨_, hm, hj, hb, hnm⟩ := turned_names h hx hy hn hL ha hb
  refine ⟨fun i => y.num (x.ns.getD i ⟨#[]⟩), fun i hi => ⟨rfl, Od.num_lt (hnm i hi).1, (hnm i hi).1, ?_⟩, hm, hj, hb⟩
  have := (hnm i hi).2
  rw [List.getD_eq_getElem?_getD, List.getD_eq_getElem?_getD]
  rw [this]
end Go.Proofs.Ytnhdpegjkkaabaa
