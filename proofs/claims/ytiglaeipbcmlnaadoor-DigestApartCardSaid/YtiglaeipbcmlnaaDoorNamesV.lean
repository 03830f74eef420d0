/-
  docketlaw2.DigestNames: the values.
-/
import Derived.Test.YtiglaeipbcmlnaaDoorEmptyW
import Derived.Test.YtiglaeipbcmlnaaDoorWrittenW
import Derived.Test.YtiglaeipbcmlnaaDoorMacW
namespace Go.Proofs.YtiglaeipbcmlnaaDoor.NamesV
open Go.RowKit Sha TurnW Mem RowW SpreadW MixW HashM CopyW WriteW WriteN EndW SumH NewW EqW CutW OfW LeafW BranchW EmptyW WrittenW PadW MacW
set_option linter.unusedVariables false

def t1 : List UInt8 := [116, 104, 101, 32, 116, 104, 105, 114, 100, 32, 99, 97, 115, 101, 32, 111, 102, 32, 116, 104, 101, 32, 100, 111, 99, 107, 101, 116]
def t2 : List UInt8 := [97, 32, 100, 111, 99, 107, 101, 116, 32, 105, 115, 32, 114, 101, 97, 100, 32, 102, 114, 111, 109, 32, 105, 116, 115, 32, 102, 105, 114, 115, 116, 32, 101, 118, 101, 110, 116, 32, 116, 111, 32, 105, 116, 115, 32, 108, 97, 115, 116, 44, 32, 116, 119, 105, 99, 101]
def t3 : List UInt8 := [99, 108, 101, 114, 107]
def t4 : List UInt8 := [104, 101, 97, 100, 32, 49, 50]
def t5 : List UInt8 := [99, 97, 115, 101]
def s1 : ByteArray := ⟨#[52, 52, 57, 52, 55, 48, 53, 55, 54, 50, 55, 53, 51, 48, 49, 55, 49, 48, 100, 101, 97, 53, 49, 54, 54, 50, 100, 98, 56, 55, 99, 98, 50, 101, 52, 51, 51, 51, 100, 50, 57, 100, 102, 97, 50, 51, 101, 48, 98, 55, 48, 101, 98, 51, 55, 55, 49, 57, 56, 98, 52, 102, 53, 98]⟩
def s2 : ByteArray := ⟨#[50, 102, 98, 50, 53, 97, 98, 101, 97, 97, 55, 57, 48, 53, 57, 99, 54, 97, 56, 55, 100, 49, 55, 56, 51, 98, 48, 100, 55, 97, 98, 99, 99, 102, 102, 101, 101, 49, 51, 57, 54, 49, 100, 53, 99, 57, 101, 50, 52, 53, 53, 99, 99, 99, 52, 51, 102, 56, 56, 50, 53, 50, 55, 57]⟩
def s3 : ByteArray := ⟨#[100, 99, 99, 53, 97, 55, 97, 56, 53, 55, 53, 52, 97, 57, 101, 49, 56, 51, 55, 98, 48, 99, 98, 48, 56, 55, 101, 55, 97, 51, 48, 55, 101, 98, 48, 100, 53, 48, 99, 100, 51, 101, 55, 57, 102, 52, 53, 100, 48, 53, 50, 55, 100, 48, 56, 57, 49, 56, 99, 48, 97, 54, 102, 57]⟩
def s4 : ByteArray := ⟨#[56, 57, 51, 56, 53, 100, 102, 55, 97, 49, 97, 97, 53, 99, 55, 49, 56, 55, 53, 49, 51, 98, 102, 52, 50, 100, 99, 98, 102, 57, 54, 97, 100, 52, 49, 51, 55, 48, 55, 55, 102, 100, 99, 50, 49, 48, 50, 100, 57, 102, 50, 99, 51, 53, 52, 56, 57, 98, 56, 51, 55, 52, 56, 54]⟩
def s5 : ByteArray := ⟨#[101, 55, 55, 98, 57, 97, 57, 97, 101, 57, 101, 51, 48, 98, 48, 100, 98, 100, 98, 54, 102, 53, 49, 48, 97, 50, 54, 52, 101, 102, 57, 100, 101, 55, 56, 49, 53, 48, 49, 100, 55, 98, 54, 98, 57, 50, 97, 101, 56, 57, 101, 98, 48, 53, 57, 99, 53, 97, 98, 55, 52, 51, 100, 98]⟩
def s6 : ByteArray := ⟨#[54, 53, 51, 55, 49, 51, 48, 56, 55, 57, 102, 56, 49, 50, 57, 99, 101, 98, 55, 99, 101, 56, 101, 100, 56, 52, 51, 51, 57, 52, 97, 49, 50, 100, 54, 53, 53, 50, 50, 48, 57, 101, 51, 49, 52, 101, 50, 54, 49, 48, 48, 54, 50, 48, 50, 102, 52, 56, 48, 57, 56, 53, 48, 52]⟩
set_option maxRecDepth 1000000 in
theorem v1 : sha t1 = hexs s1.data.toList := by decide +kernel
set_option maxRecDepth 1000000 in
theorem v2 : sha t2 = hexs s2.data.toList := by decide +kernel
set_option maxRecDepth 1000000 in
theorem v3 : macM t3 t4 = hexs s3.data.toList := by decide +kernel
set_option maxRecDepth 1000000 in
theorem v4 : ofM 32 0 [t5] = hexs s4.data.toList := by decide +kernel
set_option maxRecDepth 1000000 in
theorem v5 : emp 32 0 = hexs s5.data.toList := by decide +kernel
set_option maxRecDepth 1000000 in
theorem v6 : emp 32 1 = hexs s6.data.toList := by decide +kernel
end Go.Proofs.YtiglaeipbcmlnaaDoor.NamesV
