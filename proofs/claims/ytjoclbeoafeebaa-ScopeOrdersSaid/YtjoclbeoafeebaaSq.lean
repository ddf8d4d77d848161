import Derived.Below
import Derived.Lib.Hide
import Derived.Test.YtjoclbeoafeebaaProg
namespace Go.Proofs.Ytjoclbeoafeebaa
open Go.RowKit
theorem Lh{p:Prop}(h:p):Hid p:=Lib.hid h
theorem nLe{n:Nat}:n≤n:=Nat.le_refl n
theorem bRf{n:Nat}{w:World}:Below n w w:=Below.refl n w
theorem bAl{w:World}{b}:Below w.heap.size w (w.alloc b):=(Below.refl _ _).alloc (Nat.le_refl _) _
theorem bTr{w W W':World}(h:Hid (Below w.heap.size w W))(b:Below W.heap.size W W'):Below w.heap.size w W':=h.out.trans (b.mono h.out.size)
theorem sA{α:Type _}(l:List α)(i:Nat)(a:α):l.toArray.setIfInBounds i a=(l.set i a).toArray:=List.setIfInBounds_toArray ..
theorem sB{α:Type _}(x b:α)(l:List α):(x::l).set 0 b=b::l:=rfl
theorem sC{α:Type _}(x b:α)(l:List α)(n:Nat):(x::l).set (n+1) b=x::l.set n b:=rfl
theorem sD{α:Type _}(x:α)(l:List α)(n:Nat):(x::l).drop (n+1)=l.drop n:=rfl
theorem sE{α:Type _}(l:List α):l.drop 0=l:=rfl
theorem sF{α:Type _}(x:α)(l:List α)(n:Nat):(x::l).take (n+1)=x::l.take n:=rfl
theorem sG{α:Type _}(l:List α):l.take 0=[]:=by cases l <;> rfl
abbrev CP:=Calls Try.prog
abbrev z17:Array Value:=#[.int .i64 0, .int .i64 0, .string ⟨#[]⟩, .int .i64 0, .bool false, .bool false, .string ⟨#[]⟩, .int .i64 0, .int .i64 0, .int .i64 0, .int .i64 0, .int .i64 0, .string ⟨#[]⟩, .string ⟨#[]⟩, .slice none 0 0, .slice none 0 0, .slice none 0 0]
abbrev z20:Array Value:=#[.int .i64 0, .int .i64 0, .string ⟨#[]⟩, .int .i64 0, .bool false, .bool false, .string ⟨#[]⟩, .int .i64 0, .int .i64 0, .int .i64 0, .int .i64 0, .int .i64 0, .string ⟨#[]⟩, .string ⟨#[]⟩, .slice none 0 0, .slice none 0 0, .slice none 0 0, .slice none 0 0, .int .i64 0, .int .i64 0]
abbrev z6:Array Value:=#[.int .i64 0, .int .i64 0, .int .i64 0, .string ⟨#[]⟩, .string ⟨#[]⟩, .slice none 0 0]
abbrev z8:Array Value:=#[.int .i64 0, .int .i64 0, .int .i64 0, .string ⟨#[]⟩, .string ⟨#[]⟩, .slice none 0 0, .int .i64 0, .int .i64 0]
abbrev zkw:Array Value:=#[.string ⟨#[105, 109, 112, 111, 114, 116]⟩, .string ⟨#[108, 97, 116, 116, 105, 99, 101]⟩, .string ⟨#[101, 102, 102, 101, 99, 116, 115]⟩, .string ⟨#[118, 97, 114]⟩, .string ⟨#[102, 110]⟩, .string ⟨#[108, 101, 116]⟩, .string ⟨#[105, 102]⟩, .string ⟨#[101, 108, 115, 101]⟩, .string ⟨#[119, 104, 105, 108, 101]⟩, .string ⟨#[114, 101, 116, 117, 114, 110]⟩, .string ⟨#[100, 111]⟩, .string ⟨#[116, 114, 117, 101]⟩, .string ⟨#[102, 97, 108, 115, 101]⟩, .string ⟨#[105, 110, 116]⟩, .string ⟨#[98, 111, 111, 108]⟩, .string ⟨#[100, 101, 99, 108, 97, 115, 115, 105, 102, 121]⟩]
end Go.Proofs.Ytjoclbeoafeebaa
