/-
  NARROWER THAN 'FOR EVERY INPUT', by the rows' own cells (each row's printed sentence says how): WalRecords: laid · WalScans: laid · WalBack: laid · WalLasts: laid · WalChecks: laid · WalNil: laid.
  DERIVED. THE GIVEN ROWS OF THIS SEAT. 6 by the template 'for every input the law returns true; each argument reads behind the call as it read before'; 0 by the template 'total and deterministic' (their statements: YtooiaadnhglifaaDoorTotals.lean).
  GIVEN WITH THE SEED: the statements are not yours to turn. If you find one false, say at which input.
  Laid BY PROGRAM, IN A SANDBOX (cutbox-rows.mjs): the forced cells as the released guide's own fill.sh prints them over the translation 721e6789ea87ffdb… (all of the seat's roots in one cut). By AI agents, Wed Nov 11 2026. No macro, syntax, notation, axiom, sorry.
-/
import Derived.Test.YtooiaadnhglifaaDoorChecked
import GoSem.Claim
import GoSem.ClaimJoined
import GoSem.ClaimMapViews
import Derived.JoinedTies
import Derived.KernelRfl
namespace Go.Proofs.YtooiaadnhglifaaDoor
/- THE CELL 'sum', in the pinned program and in every row, IS THE sha256 OF THE DUMP (.gsa) THAT YtooiaadnhglifaaDoorProg.lean LOADS. Nothing in Lean hashes anything: it is a label: what it is worth is what the hold of that sum in a sandbox is worth. -/
noncomputable def Tryd.pinned : Pinned := { name := "ytooiaadnhglifaadoor", sum := "721e6789ea87ffdbe6d183052add2cf12ffc929a3508a11ca84add4dbf79cc94", checked := Tryd.checked }
namespace Rows
def none {H : Type} : Left H := { results := [], args := [] }

/- WHAT THE LISTED PACKAGE-LEVEL VARIABLES READ AS WHEN THE CALL BEGINS. Each datum BY PROGRAM (the guide's laid-datum.mjs) off the statement by which the dump's own 'gosem.cut.vars' lays the variable. In a bare row this is a premise. The card (YtooiaadnhglifaaDoorCards.lean) ties it to the program's text. -/
def laid_mandate_sha_firsts {H : Type} : DataW H := .agg [.lit (.int .u32 1779033703), .lit (.int .u32 3144134277), .lit (.int .u32 1013904242), .lit (.int .u32 2773480762), .lit (.int .u32 1359893119), .lit (.int .u32 2600822924), .lit (.int .u32 528734635), .lit (.int .u32 1541459225)]
def laid_mandate_sha_constants {H : Type} : DataW H := .agg [.lit (.int .u32 1116352408), .lit (.int .u32 1899447441), .lit (.int .u32 3049323471), .lit (.int .u32 3921009573), .lit (.int .u32 961987163), .lit (.int .u32 1508970993), .lit (.int .u32 2453635748), .lit (.int .u32 2870763221), .lit (.int .u32 3624381080), .lit (.int .u32 310598401), .lit (.int .u32 607225278), .lit (.int .u32 1426881987), .lit (.int .u32 1925078388), .lit (.int .u32 2162078206), .lit (.int .u32 2614888103), .lit (.int .u32 3248222580), .lit (.int .u32 3835390401), .lit (.int .u32 4022224774), .lit (.int .u32 264347078), .lit (.int .u32 604807628), .lit (.int .u32 770255983), .lit (.int .u32 1249150122), .lit (.int .u32 1555081692), .lit (.int .u32 1996064986), .lit (.int .u32 2554220882), .lit (.int .u32 2821834349), .lit (.int .u32 2952996808), .lit (.int .u32 3210313671), .lit (.int .u32 3336571891), .lit (.int .u32 3584528711), .lit (.int .u32 113926993), .lit (.int .u32 338241895), .lit (.int .u32 666307205), .lit (.int .u32 773529912), .lit (.int .u32 1294757372), .lit (.int .u32 1396182291), .lit (.int .u32 1695183700), .lit (.int .u32 1986661051), .lit (.int .u32 2177026350), .lit (.int .u32 2456956037), .lit (.int .u32 2730485921), .lit (.int .u32 2820302411), .lit (.int .u32 3259730800), .lit (.int .u32 3345764771), .lit (.int .u32 3516065817), .lit (.int .u32 3600352804), .lit (.int .u32 4094571909), .lit (.int .u32 275423344), .lit (.int .u32 430227734), .lit (.int .u32 506948616), .lit (.int .u32 659060556), .lit (.int .u32 883997877), .lit (.int .u32 958139571), .lit (.int .u32 1322822218), .lit (.int .u32 1537002063), .lit (.int .u32 1747873779), .lit (.int .u32 1955562222), .lit (.int .u32 2024104815), .lit (.int .u32 2227730452), .lit (.int .u32 2361852424), .lit (.int .u32 2428436474), .lit (.int .u32 2756734187), .lit (.int .u32 3204031479), .lit (.int .u32 3329325298)]

/-- 'mandatelaw20.WalRecords': WHATEVER THE INPUT: true; the input reads as it did. -/
def walRecordsSpec : ChangeSpec := { name := "walRecords", fn := fun _ => fun
  | [d1, d2] => { results := [.lit (.bool true)], args := [d1, d2] }
  | _ => none }
def walRecordsRow : OpenClaim := { program := "ytooiaadnhglifaadoor", sum := "721e6789ea87ffdbe6d183052add2cf12ffc929a3508a11ca84add4dbf79cc94", func := "mandate/mandatelaw20.WalRecords", spec := "walRecords", unfollowed := true, recurses := true, named := ["mandate/sha.firsts", "mandate/sha.constants"], apart := false, laid := [("mandate/sha.firsts", laid_mandate_sha_firsts), ("mandate/sha.constants", laid_mandate_sha_constants)] }
def WalRecordsSaid : Prop := walRecordsRow.holds Tryd.pinned (OpenSpec.ofChange walRecordsSpec)

/-- ITS FALSE NEIGHBOUR: 'it returns false'. Refute it at one input. -/
def walRecordsWrong : ChangeSpec := { name := "walRecords", fn := fun _ => fun
  | [d1, d2] => { results := [.lit (.bool false)], args := [d1, d2] }
  | _ => none }
def WalRecordsWrongFalsely : Prop := walRecordsRow.holds Tryd.pinned (OpenSpec.ofChange walRecordsWrong)

/-- 'mandatelaw20.WalScans': WHATEVER THE INPUT: true; the input reads as it did. -/
def walScansSpec : ChangeSpec := { name := "walScans", fn := fun _ => fun
  | [d] => { results := [.lit (.bool true)], args := [d] }
  | _ => none }
def walScansRow : OpenClaim := { program := "ytooiaadnhglifaadoor", sum := "721e6789ea87ffdbe6d183052add2cf12ffc929a3508a11ca84add4dbf79cc94", func := "mandate/mandatelaw20.WalScans", spec := "walScans", unfollowed := true, recurses := true, named := ["mandate/sha.firsts", "mandate/sha.constants"], apart := false, laid := [("mandate/sha.firsts", laid_mandate_sha_firsts), ("mandate/sha.constants", laid_mandate_sha_constants)] }
def WalScansSaid : Prop := walScansRow.holds Tryd.pinned (OpenSpec.ofChange walScansSpec)

/-- ITS FALSE NEIGHBOUR: 'it returns false'. Refute it at one input. -/
def walScansWrong : ChangeSpec := { name := "walScans", fn := fun _ => fun
  | [d] => { results := [.lit (.bool false)], args := [d] }
  | _ => none }
def WalScansWrongFalsely : Prop := walScansRow.holds Tryd.pinned (OpenSpec.ofChange walScansWrong)

/-- 'mandatelaw20.WalBack': WHATEVER THE INPUT: true; the input reads as it did. -/
def walBackSpec : ChangeSpec := { name := "walBack", fn := fun _ => fun
  | [d] => { results := [.lit (.bool true)], args := [d] }
  | _ => none }
def walBackRow : OpenClaim := { program := "ytooiaadnhglifaadoor", sum := "721e6789ea87ffdbe6d183052add2cf12ffc929a3508a11ca84add4dbf79cc94", func := "mandate/mandatelaw20.WalBack", spec := "walBack", unfollowed := true, recurses := true, named := ["mandate/sha.firsts", "mandate/sha.constants"], apart := false, laid := [("mandate/sha.firsts", laid_mandate_sha_firsts), ("mandate/sha.constants", laid_mandate_sha_constants)] }
def WalBackSaid : Prop := walBackRow.holds Tryd.pinned (OpenSpec.ofChange walBackSpec)

/-- ITS FALSE NEIGHBOUR: 'it returns false'. Refute it at one input. -/
def walBackWrong : ChangeSpec := { name := "walBack", fn := fun _ => fun
  | [d] => { results := [.lit (.bool false)], args := [d] }
  | _ => none }
def WalBackWrongFalsely : Prop := walBackRow.holds Tryd.pinned (OpenSpec.ofChange walBackWrong)

/-- 'mandatelaw20.WalLasts': WHATEVER THE INPUT: true; the input reads as it did. -/
def walLastsSpec : ChangeSpec := { name := "walLasts", fn := fun _ => fun
  | [d] => { results := [.lit (.bool true)], args := [d] }
  | _ => none }
def walLastsRow : OpenClaim := { program := "ytooiaadnhglifaadoor", sum := "721e6789ea87ffdbe6d183052add2cf12ffc929a3508a11ca84add4dbf79cc94", func := "mandate/mandatelaw20.WalLasts", spec := "walLasts", unfollowed := true, recurses := true, named := ["mandate/sha.firsts", "mandate/sha.constants"], apart := false, laid := [("mandate/sha.firsts", laid_mandate_sha_firsts), ("mandate/sha.constants", laid_mandate_sha_constants)] }
def WalLastsSaid : Prop := walLastsRow.holds Tryd.pinned (OpenSpec.ofChange walLastsSpec)

/-- ITS FALSE NEIGHBOUR: 'it returns false'. Refute it at one input. -/
def walLastsWrong : ChangeSpec := { name := "walLasts", fn := fun _ => fun
  | [d] => { results := [.lit (.bool false)], args := [d] }
  | _ => none }
def WalLastsWrongFalsely : Prop := walLastsRow.holds Tryd.pinned (OpenSpec.ofChange walLastsWrong)

/-- 'mandatelaw20.WalChecks': WHATEVER THE INPUT: true; the input reads as it did. -/
def walChecksSpec : ChangeSpec := { name := "walChecks", fn := fun _ => fun
  | [d1, d2] => { results := [.lit (.bool true)], args := [d1, d2] }
  | _ => none }
def walChecksRow : OpenClaim := { program := "ytooiaadnhglifaadoor", sum := "721e6789ea87ffdbe6d183052add2cf12ffc929a3508a11ca84add4dbf79cc94", func := "mandate/mandatelaw20.WalChecks", spec := "walChecks", unfollowed := true, recurses := true, named := ["mandate/sha.firsts", "mandate/sha.constants"], apart := false, laid := [("mandate/sha.firsts", laid_mandate_sha_firsts), ("mandate/sha.constants", laid_mandate_sha_constants)] }
def WalChecksSaid : Prop := walChecksRow.holds Tryd.pinned (OpenSpec.ofChange walChecksSpec)

/-- ITS FALSE NEIGHBOUR: 'it returns false'. Refute it at one input. -/
def walChecksWrong : ChangeSpec := { name := "walChecks", fn := fun _ => fun
  | [d1, d2] => { results := [.lit (.bool false)], args := [d1, d2] }
  | _ => none }
def WalChecksWrongFalsely : Prop := walChecksRow.holds Tryd.pinned (OpenSpec.ofChange walChecksWrong)

/-- 'mandatelaw20.WalNil': WHATEVER THE INPUT: true; the input reads as it did. -/
def walNilSpec : ChangeSpec := { name := "walNil", fn := fun _ => fun
  | [d] => { results := [.lit (.bool true)], args := [d] }
  | _ => none }
def walNilRow : OpenClaim := { program := "ytooiaadnhglifaadoor", sum := "721e6789ea87ffdbe6d183052add2cf12ffc929a3508a11ca84add4dbf79cc94", func := "mandate/mandatelaw20.WalNil", spec := "walNil", unfollowed := true, recurses := true, named := ["mandate/sha.firsts", "mandate/sha.constants"], apart := false, laid := [("mandate/sha.firsts", laid_mandate_sha_firsts), ("mandate/sha.constants", laid_mandate_sha_constants)] }
def WalNilSaid : Prop := walNilRow.holds Tryd.pinned (OpenSpec.ofChange walNilSpec)

/-- ITS FALSE NEIGHBOUR: 'it returns false'. Refute it at one input. -/
def walNilWrong : ChangeSpec := { name := "walNil", fn := fun _ => fun
  | [d] => { results := [.lit (.bool false)], args := [d] }
  | _ => none }
def WalNilWrongFalsely : Prop := walNilRow.holds Tryd.pinned (OpenSpec.ofChange walNilWrong)

/- THE SECOND FORM. 'bulk': how many values and letters a reading holds, each counted each time it is reached (what is shared counts as often as it is met; a slice's spare places count too). A statement '..UptoSaid' is the law's where the arguments, and the package variables that the reading takes, are together of bulk at most 1048576: NARROWER than '..Said'. Prove '..Said' where nothing that the law and all that it calls make is longer than what came in: it says more and counts as full. Else prove '..UptoSaid'. A law counts once. -/
mutual
def uptoBulk {H : Type} : DataW H → Nat
  | .lit (.string bytes) => bytes.length + 1
  | .lit _ => 1
  | .nil => 1
  | .ptr d => uptoBulk d + 1
  | .slice elems spare => uptoBulkAll elems + uptoBulkAll spare + 1
  | .agg parts => uptoBulkAll parts + 1
  | .iface _ d => uptoBulk d + 1
  | .map entries => uptoBulkEntries entries + 1
  | .held _ => 1
def uptoBulkAll {H : Type} : List (DataW H) → Nat
  | [] => 0
  | d :: r => uptoBulk d + uptoBulkAll r
def uptoBulkEntries {H : Type} : List (Lit × DataW H) → Nat
  | [] => 0
  | x :: r => uptoBulkEntry x + uptoBulkEntries r
def uptoBulkEntry {H : Type} : Lit × DataW H → Nat
  | (.string bytes, d) => bytes.length + uptoBulk d + 1
  | (_, d) => uptoBulk d + 1
 end
def uptoSmall : (H : Type) → List (DataW H) → Bool := fun _ ds => decide (uptoBulkAll ds ≤ 1048576)
def OpenSpec.upto (s : _root_.Go.ChangeSpec) : _root_.Go.OpenSpec := { _root_.Go.OpenSpec.ofChange s with cond := some uptoSmall }

/-- 'mandatelaw20.WalRecords', WHERE WHAT IT READS IS OF BULK AT MOST 1048576: true; the input reads as it did. -/
def walRecordsUptoRow : OpenClaim := { program := "ytooiaadnhglifaadoor", sum := "721e6789ea87ffdbe6d183052add2cf12ffc929a3508a11ca84add4dbf79cc94", func := "mandate/mandatelaw20.WalRecords", spec := "walRecords", unfollowed := true, recurses := true, named := ["mandate/sha.firsts", "mandate/sha.constants"], apart := false, laid := [("mandate/sha.firsts", laid_mandate_sha_firsts), ("mandate/sha.constants", laid_mandate_sha_constants)], narrowed := true }
def WalRecordsUptoSaid : Prop := walRecordsUptoRow.holds Tryd.pinned (OpenSpec.upto walRecordsSpec)

/-- 'mandatelaw20.WalScans', WHERE WHAT IT READS IS OF BULK AT MOST 1048576: true; the input reads as it did. -/
def walScansUptoRow : OpenClaim := { program := "ytooiaadnhglifaadoor", sum := "721e6789ea87ffdbe6d183052add2cf12ffc929a3508a11ca84add4dbf79cc94", func := "mandate/mandatelaw20.WalScans", spec := "walScans", unfollowed := true, recurses := true, named := ["mandate/sha.firsts", "mandate/sha.constants"], apart := false, laid := [("mandate/sha.firsts", laid_mandate_sha_firsts), ("mandate/sha.constants", laid_mandate_sha_constants)], narrowed := true }
def WalScansUptoSaid : Prop := walScansUptoRow.holds Tryd.pinned (OpenSpec.upto walScansSpec)

/-- 'mandatelaw20.WalBack', WHERE WHAT IT READS IS OF BULK AT MOST 1048576: true; the input reads as it did. -/
def walBackUptoRow : OpenClaim := { program := "ytooiaadnhglifaadoor", sum := "721e6789ea87ffdbe6d183052add2cf12ffc929a3508a11ca84add4dbf79cc94", func := "mandate/mandatelaw20.WalBack", spec := "walBack", unfollowed := true, recurses := true, named := ["mandate/sha.firsts", "mandate/sha.constants"], apart := false, laid := [("mandate/sha.firsts", laid_mandate_sha_firsts), ("mandate/sha.constants", laid_mandate_sha_constants)], narrowed := true }
def WalBackUptoSaid : Prop := walBackUptoRow.holds Tryd.pinned (OpenSpec.upto walBackSpec)

/-- 'mandatelaw20.WalLasts', WHERE WHAT IT READS IS OF BULK AT MOST 1048576: true; the input reads as it did. -/
def walLastsUptoRow : OpenClaim := { program := "ytooiaadnhglifaadoor", sum := "721e6789ea87ffdbe6d183052add2cf12ffc929a3508a11ca84add4dbf79cc94", func := "mandate/mandatelaw20.WalLasts", spec := "walLasts", unfollowed := true, recurses := true, named := ["mandate/sha.firsts", "mandate/sha.constants"], apart := false, laid := [("mandate/sha.firsts", laid_mandate_sha_firsts), ("mandate/sha.constants", laid_mandate_sha_constants)], narrowed := true }
def WalLastsUptoSaid : Prop := walLastsUptoRow.holds Tryd.pinned (OpenSpec.upto walLastsSpec)

/-- 'mandatelaw20.WalChecks', WHERE WHAT IT READS IS OF BULK AT MOST 1048576: true; the input reads as it did. -/
def walChecksUptoRow : OpenClaim := { program := "ytooiaadnhglifaadoor", sum := "721e6789ea87ffdbe6d183052add2cf12ffc929a3508a11ca84add4dbf79cc94", func := "mandate/mandatelaw20.WalChecks", spec := "walChecks", unfollowed := true, recurses := true, named := ["mandate/sha.firsts", "mandate/sha.constants"], apart := false, laid := [("mandate/sha.firsts", laid_mandate_sha_firsts), ("mandate/sha.constants", laid_mandate_sha_constants)], narrowed := true }
def WalChecksUptoSaid : Prop := walChecksUptoRow.holds Tryd.pinned (OpenSpec.upto walChecksSpec)

/-- 'mandatelaw20.WalNil', WHERE WHAT IT READS IS OF BULK AT MOST 1048576: true; the input reads as it did. -/
def walNilUptoRow : OpenClaim := { program := "ytooiaadnhglifaadoor", sum := "721e6789ea87ffdbe6d183052add2cf12ffc929a3508a11ca84add4dbf79cc94", func := "mandate/mandatelaw20.WalNil", spec := "walNil", unfollowed := true, recurses := true, named := ["mandate/sha.firsts", "mandate/sha.constants"], apart := false, laid := [("mandate/sha.firsts", laid_mandate_sha_firsts), ("mandate/sha.constants", laid_mandate_sha_constants)], narrowed := true }
def WalNilUptoSaid : Prop := walNilUptoRow.holds Tryd.pinned (OpenSpec.upto walNilSpec)

end Rows
end Go.Proofs.YtooiaadnhglifaaDoor
