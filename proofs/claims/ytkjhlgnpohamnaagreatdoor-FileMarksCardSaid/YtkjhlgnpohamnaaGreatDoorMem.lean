import Derived.Below
import Derived.Laws.OwnMore
import Derived.Deep.AppendLies
import Derived.Deep.Draws
import Derived.WalkKit
namespace Go.Proofs.YtkjhlgnpohamnaaGreatDoor
set_option linter.unusedVariables false
set_option linter.unusedSimpArgs false
open Go.RowKit
def Sh (w : World) (B : Nat) (A : Option Addr) (n : Nat) (xs : List Value) : Prop:=
 xs.length = n ∧ (0 < n → ∃ b off,A = some ⟨b,off,none⟩ ∧ b < B ∧ ∀ k u,xs[k]? = some u → w.cell? ⟨b,off + k,none⟩ = some u)
section
variable {w w' : World} {B B' n : Nat} {A : Option Addr} {xs : List Value}
theorem Sh.len (h : Sh w B A n xs) : xs.length = n:=h.1
theorem Sh.nil (w : World) (B : Nat) (A : Option Addr) : Sh w B A 0 []:=⟨rfl,fun h => absurd h (by omega)⟩
theorem Sh.at (h : Sh w B A n xs) {k : Nat} (hk : k < n) : ∃ b off u,A = some ⟨b,off,none⟩ ∧ b < B ∧ xs[k]? = some u ∧ w.cell? ⟨b,off + k,none⟩ = some u:=by
 obtain ⟨b,off,e,hb,hc⟩:=h.2 (by omega)
 have hl : k < xs.length:=by rw [h.1]; exact hk
 exact ⟨b,off,xs[k],e,hb,List.getElem?_eq_getElem hl,hc k _ (List.getElem?_eq_getElem hl)⟩
theorem Sh.keep (h : Sh w B A n xs) (hk : ∀ p : Addr,p.block < B → w'.cell? p = w.cell? p) : Sh w' B A n xs:=
 ⟨h.1,fun hn => by
  obtain ⟨b,off,e,hb,hc⟩:=h.2 hn
  exact ⟨b,off,e,hb,fun k u hu => (hk _ hb).trans (hc k u hu)⟩⟩
theorem Sh.more (h : Sh w B A n xs) (hB : B ≤ B') : Sh w B' A n xs:=
 ⟨h.1,fun hn => by
  obtain ⟨b,off,e,hb,hc⟩:=h.2 hn
  exact ⟨b,off,e,by omega,hc⟩⟩
theorem Sh.below (h : Sh w B A n xs) (hb : Below B w w') : Sh w' B A n xs:=h.keep fun _ hp => hb.cell hp
theorem Sh.up (h : Sh w B A n xs) (hb : Below B' w w') (hB : B ≤ B') : Sh w' B A n xs:=h.keep fun _ hp => hb.cell (by omega)
theorem Sh.drewN (h : Sh w B A n xs) (k : Nat) : Sh (w.drewN k) B A n xs:=h
theorem Sh.drew (h : Sh w B A n xs) : Sh w.drew B A n xs:=h
theorem Sh.head (h : Sh w B A n xs) {k : Nat} (hk : k ≤ n) : Sh w B A k (xs.take k):=by
 refine ⟨by simp [h.1]; omega,fun hn => ?_⟩
 obtain ⟨b,off,e,hb,hc⟩:=h.2 (by omega)
 refine ⟨b,off,e,hb,fun j u hu => hc j u ?_⟩
 rw [List.getElem?_take] at hu
 split at hu
 ·exact hu
 ·cases hu
theorem Sh.piece (h : Sh w B A n xs) {lo hi : Nat} (hlo : lo ≤ hi) (hhi : hi ≤ n) {A' : Option Addr}
  (hA : ∀ b off,A = some ⟨b,off,none⟩ → lo < hi → A' = some ⟨b,off + lo,none⟩) : Sh w B A' (hi - lo) ((xs.take hi).drop lo):=by
 refine ⟨by simp [h.1]; omega,fun hn => ?_⟩
 obtain ⟨b,off,e,hb,hc⟩:=h.2 (by omega)
 refine ⟨b,off + lo,hA b off e (by omega),hb,fun k u hu => ?_⟩
 rw [Nat.add_assoc]
 refine hc _ u ?_
 rw [List.getElem?_drop,List.getElem?_take] at hu
 split at hu
 ·exact hu
 ·cases hu
theorem Sh.of_own {base : Nat} {e : TypeId} {c : Nat} (h : w.ownsRow base e 1 (.slice A n c) n xs) : Sh w w.heap.size A n xs:=by
 refine ⟨by have:=h.1; omega,fun hn => ?_⟩
 obtain ⟨g,cap,hv,_,hlt⟩:=h.form hn
 have hA : A = some ⟨g,0,none⟩:=by injection hv
 subst hA
 refine ⟨g,0,rfl,hlt,fun k u hu => ?_⟩
 have:=h.cells (g:=g) rfl k u hu
 simp only [Addr.add] at this
 split at this
 ·rename_i h0; subst h0; simpa using this
 ·simpa using this
end
theorem Sh.lit (w : World) (xs : List Value) (e : TypeId) : Sh (w.alloc (.cells xs.toArray e)) (w.heap.size + 1) (some ⟨w.heap.size,0,none⟩) xs.length xs:=
 ⟨rfl,fun _ => ⟨w.heap.size,0,rfl,by omega,fun k u hu => by
  rw [Nat.zero_add,World.cell?_alloc_at _ _ _ _ rfl]
  simpa using hu⟩⟩
theorem Sh.alloc {w : World} {B n : Nat} {A : Option Addr} {xs : List Value} (h : Sh w B A n xs) (hB : B ≤ w.heap.size) (o : Obj) : Sh (w.alloc o) B A n xs:=
 h.below ((Below.refl B w).alloc hB o)
def by8 (l : List Int) : List Value:=l.map (Value.int .u8)
theorem by8_get? (l : List Int) (k : Nat) : (by8 l)[k]? = (l[k]?).map (Value.int .u8):=by simp [by8]
theorem by8_len (l : List Int) : (by8 l).length = l.length:=by simp [by8]
theorem by8_take (a : List Int) (k : Nat) : (by8 a).take k = by8 (a.take k):=by simp [by8]
theorem by8_drop (a : List Int) (k : Nat) : (by8 a).drop k = by8 (a.drop k):=by simp [by8]
theorem Sh.byte {w : World} {B n : Nat} {A : Option Addr} {l : List Int} (h : Sh w B A n (by8 l)) {k : Nat} (hk : k < n) :
  ∃ b off,A = some ⟨b,off,none⟩ ∧ b < B ∧ w.cell? ⟨b,off + k,none⟩ = some (.int .u8 (l.getD k 0)):=by
 obtain ⟨b,off,u,e,hb,hu,hc⟩:=h.at hk
 refine ⟨b,off,e,hb,hc.trans ?_⟩
 rw [by8_get?] at hu
 obtain ⟨x,hx,rfl⟩:=Option.map_eq_some_iff.1 hu
 simp [hx]
def Quiet (w w' : World) : Prop:=∃ q,w' = w.drewN q
theorem Quiet.refl (w : World) : Quiet w w:=⟨0,rfl⟩
theorem Quiet.one (w : World) (q : Nat) : Quiet w (w.drewN q):=⟨q,rfl⟩
theorem Quiet.two (w : World) (q r : Nat) : Quiet w ((w.drewN q).drewN r):=⟨q + r,World.drewN_drewN w q r⟩
theorem Quiet.trans {a b c : World} (h : Quiet a b) (k : Quiet b c) : Quiet a c:=by
 obtain ⟨q,rfl⟩:=h
 obtain ⟨r,rfl⟩:=k
 exact Quiet.two _ _ _
theorem Quiet.below {a b : World} (h : Quiet a b) (B : Nat) : Below B a b:=by
 obtain ⟨q,rfl⟩:=h
 exact ⟨rfl,rfl,rfl,Nat.le_refl _,fun _ _ => rfl⟩
theorem Quiet.size {a b : World} (h : Quiet a b) : b.heap.size = a.heap.size:=by
 obtain ⟨q,rfl⟩:=h
 rfl
def RowT (P : Program) (t e : TypeId) (size bytes : Nat) : Prop:=
 P.underlying t = some (.slice e) ∧ ∃ i z,P.info? e = some i ∧ i.zero = some z ∧ i.size = size ∧ i.bytes = bytes ∧ z.cells.size = size ∧ 0 < size
theorem RowT.mk {P : Program} {t e : TypeId} {z : Value} {size bytes : Nat} (h : P.underlying t = some (.slice e))
  (hi : (P.info? e).map (fun i => (i.zero,i.size,i.bytes)) = some (some z,size,bytes)) (hz : z.cells.size = size) (hs : 0 < size) : RowT P t e size bytes:=by
 obtain ⟨i,h1,h2,h3,h4⟩:=info_parts hi
 exact ⟨h,i,z,h1,h2,h3,h4,hz,hs⟩
def Own (w : World) (B : Nat) (e : TypeId) (size : Nat) (v : Value) (n : Nat) (xs : List Value) : Prop:=w.ownsRow B e size v n xs ∧ B ≤ w.heap.size
section
variable {w w' : World} {B n size : Nat} {e : TypeId} {v : Value} {xs : List Value}
theorem Own.form (h : Own w B e size v n xs) : ∃ A c,v = .slice A n c:=by
 rcases h.1.2 with ⟨rfl,rfl⟩ | ⟨g,cap,cur,rfl,_⟩
 ·exact ⟨_,_,rfl⟩
 ·exact ⟨_,_,rfl⟩
theorem Own.len (h : Own w B e size v n xs) : xs.length = n * size:=h.1.1
theorem Own.cast {n' : Nat} {xs' : List Value} (h : Own w B e size v n xs) (hn : n = n') (hx : xs = xs') : Own w B e size v n' xs':=by
 subst hn; subst hx; exact h
theorem Own.cap {A : Option Addr} {c : Nat} (h : Own w B e size (.slice A n c) n xs) : n ≤ c ∧ c ≤ maxLen:=by
 rcases h.1.2 with ⟨h1,rfl⟩ | ⟨g,cap,cur,h1,_,_,h2,h3,_⟩
 ·injection h1 with _ _ h1
  subst h1
  exact ⟨Nat.le_refl _,Nat.zero_le _⟩
 ·injection h1 with _ _ h1
  subst h1
  exact ⟨h2,h3⟩
theorem Own.nil (w : World) (B : Nat) (e : TypeId) (size : Nat) (hB : B ≤ w.heap.size) : Own w B e size (.slice none 0 0) 0 []:=⟨World.ownsRow_nil _ _ _ _,hB⟩
theorem Own.empty (w : World) (B : Nat) (e : TypeId) (size : Nat) (hB : B ≤ w.heap.size) : Own (w.alloc (.cells #[] e)) B e size (.slice (some ⟨w.heap.size,0,none⟩) 0 0) 0 []:=
 ⟨⟨by simp,.inr ⟨w.heap.size,0,#[],rfl,hB,heap_alloc_new w _,Nat.le_refl _,Nat.zero_le _,by simp,by simp⟩⟩,by simp; omega⟩
theorem Own.alloc (h : Own w B e size v n xs) (o : Obj) : Own (w.alloc o) B e size v n xs:=⟨h.1.alloc o,by have:=h.2; simp; omega⟩
theorem Own.drew (h : Own w B e size v n xs) : Own w.drew B e size v n xs:=h
theorem Own.drewN (h : Own w B e size v n xs) (k : Nat) : Own (w.drewN k) B e size v n xs:=h
theorem Own.below (h : Own w B e size v n xs) (hb : Below w.heap.size w w') : Own w' B e size v n xs:=
 ⟨h.1.kept (row:=none) ⟨hb.os,hb.tape,hb.output,hb.size,fun k hk _ => hb.block k hk⟩ (by cases hv : v.ownBlock <;> simp),Nat.le_trans h.2 hb.size⟩
theorem Own.sh {A : Option Addr} {c : Nat} (h : Own w B e 1 (.slice A n c) n xs) : Sh w w.heap.size A n xs:=Sh.of_own h.1
theorem Own.lower {B' : Nat} (h : Own w B e size v n xs) (hB : B' ≤ B) : Own w B' e size v n xs:=by
 refine ⟨⟨h.1.1,?_⟩,Nat.le_trans hB h.2⟩
 rcases h.1.2 with h1 | ⟨g,cap,cur,h1,h2,h3⟩
 ·exact .inl h1
 ·exact .inr ⟨g,cap,cur,h1,Nat.le_trans hB h2,h3⟩
end
section
variable {P : Program} {ops : Array Oper} {rest : List Oper} {o : Oper} {a : Act} {Q : Exit → Act → World → Prop}
theorem wpList_wanted (hw : Region.wanted o (yielded ops a.tmps) = true) {w : World}
  (h : ∀ K : Act → World → Prop,(∀ a w,wpList P ops Q rest a w → K a w) → o.wp P a w K Q) : wpList P ops Q (o :: rest) a w:=
 wpList_step fun K hK => by rw [if_pos hw]; exact h K hK
end
def IsRow (k : IntKind) (w : World) (a : Option Addr) (len cap : Nat) (zs : List Int) : Prop:=
 (a = none ∧ len = 0 ∧ cap = 0 ∧ zs = []) ∨
 ∃ x,a = some x ∧ len ≤ cap ∧ cap ≤ maxLen ∧ zs.length = cap ∧ (∀ i,i < zs.length → w.cell? (x.add i) = some (.int k (zs.getD i 0))) ∧ ∀ n ∈ zs,(Lit.int k n).wf = true
theorem IsRow.sh {k : IntKind} {w : World} {a : Option Addr} {len cap : Nat} {zs : List Int} (h : IsRow k w a len cap zs) :
  len ≤ cap ∧ cap ≤ maxLen ∧ zs.length = cap ∧ Sh w w.heap.size a len ((zs.take len).map (Value.int k)) ∧ ∀ n ∈ zs.take len,(Lit.int k n).wf = true:=by
 rcases h with ⟨rfl,rfl,rfl,rfl⟩ | ⟨x,rfl,hl,hm,hz,hcell,hwz⟩
 ·exact ⟨Nat.le_refl _,Nat.zero_le _,rfl,Sh.nil _ _ _,fun n hn => by simp at hn⟩
 ·refine ⟨hl,hm,hz,⟨by simp; omega,fun hn => ?_⟩,fun n hn => hwz n (List.mem_of_mem_take hn)⟩
  obtain ⟨b,off,spot⟩:=x
  have hc0:=hcell 0 (by omega)
  have hspot : spot = none:=by simpa [Addr.add] using World.cell?_spot hc0
  subst hspot
  refine ⟨b,off,rfl,?_,fun j u hu => ?_⟩
  ·have:=World.block_lt_of_cell? _ _ hc0
   simpa [Addr.add] using this
  ·have hj : j < len ∧ j < zs.length:=by
    have:=(List.getElem?_eq_some_iff.1 hu).1
    simp at this
    omega
   have hc:=hcell j hj.2
   rw [Addr.add_lit] at hc
   rw [hc]
   simp only [List.getElem?_map,List.getElem?_take,if_pos hj.1,List.getElem?_eq_getElem hj.2,Option.map_some] at hu
   rw [← hu]
   simp [hj.2]
end Go.Proofs.YtkjhlgnpohamnaaGreatDoor
