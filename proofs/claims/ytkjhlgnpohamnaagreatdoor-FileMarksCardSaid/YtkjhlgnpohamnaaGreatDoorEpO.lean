import Derived.Test.YtkjhlgnpohamnaaGreatDoorSame
import Derived.Deep.Slices
import Derived.ChangeSame
import Derived.ChangeSlices
import Derived.Lib.SmallJoins
import Derived.Deep.Fields
import Derived.Test.YtkjhlgnpohamnaaGreatDoorMEq
import Derived.Test.YtkjhlgnpohamnaaGreatDoorRows
import Derived.LaidMore
import Derived.MakeChecks
import Derived.Stop.Joined
import Derived.Stop.LaidErr
import Derived.OpenShut
namespace Go.Proofs.YtkjhlgnpohamnaaGreatDoor
set_option linter.unusedVariables false
set_option linter.unusedSimpArgs false
open Go.RowKit Go.Joins Go.Deep Go.ChangeShapes Go.WideShapes
section
variable {H : Type} {enc : TypeId × Value → H} {w : World} {held : Bool} {fuel : Nat} {cs : List Value} {x : DataW H × List MemPlace}
theorem row_of {t e : TypeId} {k : IntKind} (ht : Tryz.prog.underlying t = some (.slice e)) (he : Tryz.prog.underlying e = some (.int k)) (hc : Tryz.prog.cellsOf e = 1) (h : DataW.trod enc Tryz.prog w 0 (fun _ => true) held fuel t cs = some x) :
  ∃ a len cap zs,cs = [.slice a len cap] ∧ IsRow k w a len cap zs:=by
 rcases open_ints ht he hc h with ⟨hcs,_⟩ | ⟨a,l,c,zs,hcs,_,hl,hm,hz,_,hcell,hwz⟩
 ·exact ⟨none,0,0,[],hcs,.inl ⟨rfl,rfl,rfl,rfl⟩⟩
 ·exact ⟨some a,l,c,zs,hcs,.inr ⟨_,rfl,hl,hm,by simpa using hz,hcell,hwz⟩⟩
end
open Go.RowKit Go.Joins Go.Deep Go.ChangeShapes Go.WideShapes
abbrev laids : List (String × DataW Unit):=[("math/bits.deBruijn32tab",Rows.laid_math_bits_deBruijn32tab),("math/bits.deBruijn64tab",Rows.laid_math_bits_deBruijn64tab),("internal/strconv.uint64pow10",Rows.laid_internal_strconv_uint64pow10),("strconv.ErrRange",Rows.laid_strconv_ErrRange),("strconv.ErrSyntax",Rows.laid_strconv_ErrSyntax),("blazon/expr.levels",Rows.laid_blazon_expr_levels)]
theorem pair_of {w : World} {sp : Nat → Bool} {fuel : Nat} {cs : List Value} {a b : List UInt8} {p : List MemPlace} (h : DataW.trod (fun _ => ()) Tryz.prog w 0 sp false fuel 211 cs = some ((.agg [.lit (.string a),.lit (.string b)] : DataW Unit),p)) :
  cs = [.string ⟨⟨a⟩⟩,.string ⟨⟨b⟩⟩]:=by
 obtain ⟨xs,m,_,hx,hl,hxl,hi⟩:=DataW.trod_array (n:=2) (e:=9) (by kernel_rfl) h
 have hC : Tryz.prog.cellsOf 9 = 1:=by kernel_rfl
 have hC2 : Tryz.prog.cellsOf 211 = 2:=by kernel_rfl
 rw [hC] at hi
 rw [hC2] at hl
 match cs,hl with
 | [c0,c1],_ =>
  match xs,hxl with
  | [y0,y1],_ =>
   have e0:=hi 0 (by omega)
   have e1:=hi 1 (by omega)
   obtain ⟨s,es,ys,_⟩:=DataW.trod_string Tryz.underlying9 e0
   obtain ⟨t,et,yt,_⟩:=DataW.trod_string Tryz.underlying9 e1
   simp at es et
   subst es; subst et
   simp only [List.map_cons,List.map_nil,Prod.mk.injEq,DataW.agg.injEq,List.cons.injEq,and_true] at hx
   obtain ⟨⟨hx0,hx1⟩,_⟩:=hx
   rw [ys] at hx0
   rw [yt] at hx1
   have ha : s.data.toList = a:=by
    simp only [DataW.lit.injEq,Lit.string.injEq] at hx0
    exact hx0.symm
   have hb : t.data.toList = b:=by
    simp only [DataW.lit.injEq,Lit.string.injEq] at hx1
    exact hx1.symm
   subst ha; subst hb
   rfl
theorem levels_of {w : World} {r : List (String × DataW Unit)} (h : laidMet Tryz.prog (("blazon/expr.levels",Rows.laid_blazon_expr_levels) :: r) w) : w.rangeAt 1 0 levC:=by
 obtain ⟨ps,⟨g,t,cs,fuel,p,q,hg,ht,hv,hd,_,_⟩,_⟩:=h
 have hg0 : Tryz.prog.globalNamed "blazon/expr.levels" = some 1:=by kernel_rfl
 have ht0 : (Tryz.prog.globals[1]?).map (·.type) = some 212:=by kernel_rfl
 obtain rfl:=Option.some.inj (hg.symm.trans hg0)
 obtain rfl:=Option.some.inj (ht.symm.trans ht0)
 obtain ⟨xs,m,_,hx,hl,hxl,hi⟩:=DataW.trod_array (n:=6) (e:=211) (by kernel_rfl) hd
 have hC2 : Tryz.prog.cellsOf 211 = 2:=by kernel_rfl
 have hC3 : Tryz.prog.cellsOf 212 = 12:=by kernel_rfl
 rw [hC2] at hi
 rw [hC3] at hl
 have hcs : cs.toList = levC:=by
  generalize cs.toList = l at hl hi
  match l,hl with
  | [c0,c1,c2,c3,c4,c5,c6,c7,c8,c9,c10,c11],_ =>
   match xs,hxl with
   | [(d0,p0),(d1,p1),(d2,p2),(d3,p3),(d4,p4),(d5,p5)],_ =>
    simp only [Rows.laid_blazon_expr_levels,List.map_cons,List.map_nil,Prod.mk.injEq,DataW.agg.injEq,List.cons.injEq,and_true] at hx
    obtain ⟨⟨rfl,rfl,rfl,rfl,rfl,rfl⟩,_⟩:=hx
    have e0:=pair_of (hi 0 (by omega))
    have e1:=pair_of (hi 1 (by omega))
    have e2:=pair_of (hi 2 (by omega))
    have e3:=pair_of (hi 3 (by omega))
    have e4:=pair_of (hi 4 (by omega))
    have e5:=pair_of (hi 5 (by omega))
    simp at e0 e1 e2 e3 e4 e5
    obtain ⟨rfl,rfl⟩:=e0
    obtain ⟨rfl,rfl⟩:=e1
    obtain ⟨rfl,rfl⟩:=e2
    obtain ⟨rfl,rfl⟩:=e3
    obtain ⟨rfl,rfl⟩:=e4
    obtain ⟨rfl,rfl⟩:=e5
    rfl
 intro j v hj
 have h1:=World.var?_cell hg hv j
 rw [Nat.zero_add,h1,← Array.getElem?_toList,hcs]
 exact hj
theorem star : "*" ++ "errors.errorString" = "*errors.errorString":=by decide
theorem row_str (u : TypeId) (h : Tryz.prog.typeName? 3 u = some "*errors.errorString") : u = 242:=
 typeName_ptr_named (nm:="errors.errorString") (by rw [star]; kernel_rfl) (by kernel_rfl) (by decide) u (by rw [star]; exact h)
theorem vars_of {w : World} (h : laidMet Tryz.prog laids w) : Vars w:=by
 refine ⟨levels_of h.tail.tail.tail.tail.tail,?_⟩
 obtain ⟨a,s,hv,_,_,_⟩:=laid_sentinel (g:=3) (ti:=139) (tp:=242) (te:=244) (ts:=9) h.tail.tail.tail (by kernel_rfl) (by kernel_rfl) Tryz.underlying139 row_str Tryz.underlying242 Tryz.underlying244 rfl rfl (by kernel_rfl) (by kernel_rfl) (by kernel_rfl)
 exact ⟨_,_,by simpa using World.var?_cell (show Tryz.prog.globalNamed "strconv.ErrRange" = some 3 by kernel_rfl) hv 0⟩
theorem door_met (os : Os) (args : Array Value) : laidMetH Tryz.prog laids ((World.doorLaid Tryz.prog 400 os).forCall (fun _ _ => 0) ⟨#[],args,[]⟩).memory:=by
 rw [MakeChecks.laidMetH_plain _ _ _ (by kernel_rfl)]
 exact laidMet_of_run' 8 (by kernel_rfl) (by kernel_rfl)
end Go.Proofs.YtkjhlgnpohamnaaGreatDoor
