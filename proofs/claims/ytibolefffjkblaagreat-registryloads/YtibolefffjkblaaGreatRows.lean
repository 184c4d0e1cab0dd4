/-
  No cell of these rows narrows 'for every input' (looked for: loops, veiled, ifaces, maps, wideKeys, modest, calm, conditions, laid).
  DERIVED. THE GIVEN ROWS OF THIS SEAT. 5 by the template 'for every input the law returns true; each argument reads behind the call as it read before'; 0 by the template 'total and deterministic' (their statements: YtibolefffjkblaaGreatTotals.lean).
  GIVEN WITH THE SEED: the statements are not yours to turn. If you find one false, say at which input.
  Laid BY PROGRAM, IN A SANDBOX (cutbox-rows.mjs): the forced cells as the released guide's own fill.sh prints them over the translation 965bc4b9dbcc7a54… (all of the seat's roots in one cut). By AI agents, Wed Nov 11 2026. No macro, syntax, notation, axiom, sorry.
-/
import Derived.Test.YtibolefffjkblaaGreatChecked
import GoSem.Claim
import GoSem.ClaimJoined
import GoSem.ClaimMapViews
import Derived.JoinedTies
import Derived.KernelRfl
namespace Go.Proofs.YtibolefffjkblaaGreat
/- THE CELL 'sum', in the pinned program and in every row, IS THE sha256 OF THE DUMP (.gsa) THAT YtibolefffjkblaaGreatProg.lean LOADS. Nothing in Lean hashes anything: it is a label: what it is worth is what the hold of that sum in a sandbox is worth. -/
noncomputable def Tryz.pinned : Pinned := { name := "ytibolefffjkblaagreat", sum := "965bc4b9dbcc7a54386131f333483a34cb8ecb01f28b6579e5a6092acbe3921c", checked := Tryz.checked }
namespace Rows
def none {H : Type} : Left H := { results := [], args := [] }

/-- 'tappetlaw24.RegistryPlays': WHATEVER THE INPUT: true; the input reads as it did. -/
def registryPlaysSpec : ChangeSpec := { name := "registryPlays", fn := fun _ => fun
  | [d1, d2, d3] => { results := [.lit (.bool true)], args := [d1, d2, d3] }
  | _ => none }
def registryPlaysRow : OpenClaim := { program := "ytibolefffjkblaagreat", sum := "965bc4b9dbcc7a54386131f333483a34cb8ecb01f28b6579e5a6092acbe3921c", func := "tappet/tappetlaw24.RegistryPlays", spec := "registryPlays", inPlace := ["math/bits.Add64"], unfollowed := true, recurses := true, apart := false }
def RegistryPlaysSaid : Prop := registryPlaysRow.holds Tryz.pinned (OpenSpec.ofChange registryPlaysSpec)

/-- ITS FALSE NEIGHBOUR: 'it returns false'. Refute it at one input. -/
def registryPlaysWrong : ChangeSpec := { name := "registryPlays", fn := fun _ => fun
  | [d1, d2, d3] => { results := [.lit (.bool false)], args := [d1, d2, d3] }
  | _ => none }
def RegistryPlaysWrongFalsely : Prop := registryPlaysRow.holds Tryz.pinned (OpenSpec.ofChange registryPlaysWrong)

/-- 'tappetlaw24.RegistryRefs': WHATEVER THE INPUT: true; the input reads as it did. -/
def registryRefsSpec : ChangeSpec := { name := "registryRefs", fn := fun _ => fun
  | [d] => { results := [.lit (.bool true)], args := [d] }
  | _ => none }
def registryRefsRow : OpenClaim := { program := "ytibolefffjkblaagreat", sum := "965bc4b9dbcc7a54386131f333483a34cb8ecb01f28b6579e5a6092acbe3921c", func := "tappet/tappetlaw24.RegistryRefs", spec := "registryRefs", inPlace := ["math/bits.Add64"], unfollowed := true, recurses := true, apart := false }
def RegistryRefsSaid : Prop := registryRefsRow.holds Tryz.pinned (OpenSpec.ofChange registryRefsSpec)

/-- ITS FALSE NEIGHBOUR: 'it returns false'. Refute it at one input. -/
def registryRefsWrong : ChangeSpec := { name := "registryRefs", fn := fun _ => fun
  | [d] => { results := [.lit (.bool false)], args := [d] }
  | _ => none }
def RegistryRefsWrongFalsely : Prop := registryRefsRow.holds Tryz.pinned (OpenSpec.ofChange registryRefsWrong)

/-- 'tappetlaw24.RegistryGrace': WHATEVER THE INPUT: true; the input reads as it did. -/
def registryGraceSpec : ChangeSpec := { name := "registryGrace", fn := fun _ => fun
  | [d] => { results := [.lit (.bool true)], args := [d] }
  | _ => none }
def registryGraceRow : OpenClaim := { program := "ytibolefffjkblaagreat", sum := "965bc4b9dbcc7a54386131f333483a34cb8ecb01f28b6579e5a6092acbe3921c", func := "tappet/tappetlaw24.RegistryGrace", spec := "registryGrace", inPlace := ["math/bits.Add64"], unfollowed := true, recurses := true, apart := false }
def RegistryGraceSaid : Prop := registryGraceRow.holds Tryz.pinned (OpenSpec.ofChange registryGraceSpec)

/-- ITS FALSE NEIGHBOUR: 'it returns false'. Refute it at one input. -/
def registryGraceWrong : ChangeSpec := { name := "registryGrace", fn := fun _ => fun
  | [d] => { results := [.lit (.bool false)], args := [d] }
  | _ => none }
def RegistryGraceWrongFalsely : Prop := registryGraceRow.holds Tryz.pinned (OpenSpec.ofChange registryGraceWrong)

/-- 'tappetlaw24.RegistryLoads': WHATEVER THE INPUT: true; the input reads as it did. -/
def registryLoadsSpec : ChangeSpec := { name := "registryLoads", fn := fun _ => fun
  | [d1, d2] => { results := [.lit (.bool true)], args := [d1, d2] }
  | _ => none }
def registryLoadsRow : OpenClaim := { program := "ytibolefffjkblaagreat", sum := "965bc4b9dbcc7a54386131f333483a34cb8ecb01f28b6579e5a6092acbe3921c", func := "tappet/tappetlaw24.RegistryLoads", spec := "registryLoads", inPlace := ["math/bits.Add64"], unfollowed := true, recurses := true, apart := false }
def RegistryLoadsSaid : Prop := registryLoadsRow.holds Tryz.pinned (OpenSpec.ofChange registryLoadsSpec)

/-- ITS FALSE NEIGHBOUR: 'it returns false'. Refute it at one input. -/
def registryLoadsWrong : ChangeSpec := { name := "registryLoads", fn := fun _ => fun
  | [d1, d2] => { results := [.lit (.bool false)], args := [d1, d2] }
  | _ => none }
def RegistryLoadsWrongFalsely : Prop := registryLoadsRow.holds Tryz.pinned (OpenSpec.ofChange registryLoadsWrong)

/-- 'tappetlaw24.RegistryNumbers': WHATEVER THE INPUT: true; the input reads as it did. -/
def registryNumbersSpec : ChangeSpec := { name := "registryNumbers", fn := fun _ => fun
  | [d] => { results := [.lit (.bool true)], args := [d] }
  | _ => none }
def registryNumbersRow : OpenClaim := { program := "ytibolefffjkblaagreat", sum := "965bc4b9dbcc7a54386131f333483a34cb8ecb01f28b6579e5a6092acbe3921c", func := "tappet/tappetlaw24.RegistryNumbers", spec := "registryNumbers", inPlace := ["math/bits.Add64"], unfollowed := true, recurses := true, apart := false }
def RegistryNumbersSaid : Prop := registryNumbersRow.holds Tryz.pinned (OpenSpec.ofChange registryNumbersSpec)

/-- ITS FALSE NEIGHBOUR: 'it returns false'. Refute it at one input. -/
def registryNumbersWrong : ChangeSpec := { name := "registryNumbers", fn := fun _ => fun
  | [d] => { results := [.lit (.bool false)], args := [d] }
  | _ => none }
def RegistryNumbersWrongFalsely : Prop := registryNumbersRow.holds Tryz.pinned (OpenSpec.ofChange registryNumbersWrong)

/- THE SECOND FORM. 'bulk': how many values and letters a reading holds, each counted each time it is reached (what is shared counts as often as it is met; a slice's spare places count too). A statement '..UptoSaid' is the law's where the arguments, and the package variables that the reading takes, are together of bulk at most 1048576: NARROWER than '..Said'. Prove '..Said' where nothing that the law and all that it calls make is longer than what came in: it says more and counts as full. Else prove '..UptoSaid'. A law counts once. -/
mutual
def uptoBulk {H : Type} : DataW H → Nat
  | .lit (.string bytes) => bytes.length + 1
  | .lit _ => 1
  | .nil => 1
  | .ptr d => uptoBulk d + 1
  | .slice elems spare => uptoBulkAll elems + uptoBulkAll spare + 1
  | .agg parts => uptoBulkAll parts + 1
  | .iface _ d => uptoBulk d + 1
  | .map entries => uptoBulkEntries entries + 1
  | .held _ => 1
def uptoBulkAll {H : Type} : List (DataW H) → Nat
  | [] => 0
  | d :: r => uptoBulk d + uptoBulkAll r
def uptoBulkEntries {H : Type} : List (Lit × DataW H) → Nat
  | [] => 0
  | x :: r => uptoBulkEntry x + uptoBulkEntries r
def uptoBulkEntry {H : Type} : Lit × DataW H → Nat
  | (.string bytes, d) => bytes.length + uptoBulk d + 1
  | (_, d) => uptoBulk d + 1
 end
def uptoSmall : (H : Type) → List (DataW H) → Bool := fun _ ds => decide (uptoBulkAll ds ≤ 1048576)
def OpenSpec.upto (s : _root_.Go.ChangeSpec) : _root_.Go.OpenSpec := { _root_.Go.OpenSpec.ofChange s with cond := some uptoSmall }

/-- 'tappetlaw24.RegistryPlays', WHERE WHAT IT READS IS OF BULK AT MOST 1048576: true; the input reads as it did. -/
def registryPlaysUptoRow : OpenClaim := { program := "ytibolefffjkblaagreat", sum := "965bc4b9dbcc7a54386131f333483a34cb8ecb01f28b6579e5a6092acbe3921c", func := "tappet/tappetlaw24.RegistryPlays", spec := "registryPlays", inPlace := ["math/bits.Add64"], unfollowed := true, recurses := true, apart := false, narrowed := true }
def RegistryPlaysUptoSaid : Prop := registryPlaysUptoRow.holds Tryz.pinned (OpenSpec.upto registryPlaysSpec)

/-- 'tappetlaw24.RegistryRefs', WHERE WHAT IT READS IS OF BULK AT MOST 1048576: true; the input reads as it did. -/
def registryRefsUptoRow : OpenClaim := { program := "ytibolefffjkblaagreat", sum := "965bc4b9dbcc7a54386131f333483a34cb8ecb01f28b6579e5a6092acbe3921c", func := "tappet/tappetlaw24.RegistryRefs", spec := "registryRefs", inPlace := ["math/bits.Add64"], unfollowed := true, recurses := true, apart := false, narrowed := true }
def RegistryRefsUptoSaid : Prop := registryRefsUptoRow.holds Tryz.pinned (OpenSpec.upto registryRefsSpec)

/-- 'tappetlaw24.RegistryGrace', WHERE WHAT IT READS IS OF BULK AT MOST 1048576: true; the input reads as it did. -/
def registryGraceUptoRow : OpenClaim := { program := "ytibolefffjkblaagreat", sum := "965bc4b9dbcc7a54386131f333483a34cb8ecb01f28b6579e5a6092acbe3921c", func := "tappet/tappetlaw24.RegistryGrace", spec := "registryGrace", inPlace := ["math/bits.Add64"], unfollowed := true, recurses := true, apart := false, narrowed := true }
def RegistryGraceUptoSaid : Prop := registryGraceUptoRow.holds Tryz.pinned (OpenSpec.upto registryGraceSpec)

/-- 'tappetlaw24.RegistryLoads', WHERE WHAT IT READS IS OF BULK AT MOST 1048576: true; the input reads as it did. -/
def registryLoadsUptoRow : OpenClaim := { program := "ytibolefffjkblaagreat", sum := "965bc4b9dbcc7a54386131f333483a34cb8ecb01f28b6579e5a6092acbe3921c", func := "tappet/tappetlaw24.RegistryLoads", spec := "registryLoads", inPlace := ["math/bits.Add64"], unfollowed := true, recurses := true, apart := false, narrowed := true }
def RegistryLoadsUptoSaid : Prop := registryLoadsUptoRow.holds Tryz.pinned (OpenSpec.upto registryLoadsSpec)

/-- 'tappetlaw24.RegistryNumbers', WHERE WHAT IT READS IS OF BULK AT MOST 1048576: true; the input reads as it did. -/
def registryNumbersUptoRow : OpenClaim := { program := "ytibolefffjkblaagreat", sum := "965bc4b9dbcc7a54386131f333483a34cb8ecb01f28b6579e5a6092acbe3921c", func := "tappet/tappetlaw24.RegistryNumbers", spec := "registryNumbers", inPlace := ["math/bits.Add64"], unfollowed := true, recurses := true, apart := false, narrowed := true }
def RegistryNumbersUptoSaid : Prop := registryNumbersUptoRow.holds Tryz.pinned (OpenSpec.upto registryNumbersSpec)

end Rows
end Go.Proofs.YtibolefffjkblaaGreat
