/-
  docketlaw4.eight.
-/
import Derived.Test.YtgfdnljblfkhkabDoorFrFirst
namespace Go.Proofs.YtgfdnljblfkhkabDoor.FrEight
open Go.RowKit Sha Mem Width PutW WriterW RowW CopyW BookW RawB Crc FrTurn FrScan FrFits FrBegin FrOne FrWalk FrEnd FrPack FrLaw ConvS FrFirst
set_option linter.unusedVariables false
set_option linter.unusedSimpArgs false

def EightAt (n : Int) (w : World) (e : Ending) (w' : World) : Prop := ∃ g, e = .returned (.slice (some ⟨g, 0, none⟩) 8 8) ∧ w'.ownsRow w.heap.size 5 1 (.slice (some ⟨g, 0, none⟩) 8 8) 8 ((be n 8).map u8) ∧ Upd (fun _ => False) w w'
set_option maxHeartbeats 2000000 in
set_option maxRecDepth 100000 in
theorem eight_any (n : Int) (w : World) (h0 : 0 ≤ n) (h1 : n < 1099511627776) : Calls Tryd.prog 25 #[.int .i64 n] w (EightAt n w) := by
  have e0 : IntKind.u64.wrap n = n := by rw [IntKind.wrap_u64]; omega
  have hmk : ∀ w, (Instr.makeSlice 22 (.int .i64 8) (.int .i64 8)).run Tryd.prog w = .ok (.slice (some ⟨w.heap.size, 0, none⟩) 8 8) (w.alloc (.cells #[.int .u8 0, .int .u8 0, .int .u8 0, .int .u8 0, .int .u8 0, .int .u8 0, .int .u8 0, .int .u8 0] 5)) := fun _ => by kernel_rfl
  have hC : Hid (#[Value.int .u8 (n / 72057594037927936), .int .u8 (n / 281474976710656), .int .u8 (n / 1099511627776), .int .u8 (n / 4294967296), .int .u8 (n / 16777216 % 256), .int .u8 (n / 65536 % 256), .int .u8 (n / 256 % 256), .int .u8 (n % 256)] = ((be n 8).map u8).toArray) := by
    show _ = (([byteAt n 7, byteAt n 6, byteAt n 5, byteAt n 4, byteAt n 3, byteAt n 2, byteAt n 1, byteAt n 0] : List UInt8).map u8).toArray
    simp only [List.map_cons, List.map_nil, ← byteV n _ h0, IntKind.wrap_u8]
    have a7 : n / 256 ^ 7 % 256 = n / 72057594037927936 := by omega
    have a6 : n / 256 ^ 6 % 256 = n / 281474976710656 := by omega
    have a5 : n / 256 ^ 5 % 256 = n / 1099511627776 := by omega
    have a4 : n / 256 ^ 4 % 256 = n / 4294967296 := by omega
    have a3 : n / 256 ^ 3 % 256 = n / 16777216 % 256 := by omega
    have a2 : n / 256 ^ 2 % 256 = n / 65536 % 256 := by omega
    have a1 : n / 256 ^ 1 % 256 = n / 256 % 256 := by omega
    have a0 : n / 256 ^ 0 % 256 = n % 256 := by omega
    rw [a7, a6, a5, a4, a3, a2, a1, a0]
  go_enter Tryd.func25, Tryd.ntmps25
  go_wp2
  refine wp_loop_rounds 9 ?_
  iterate 9 (rw [rounds_succ]; go_wp2)
  go_ret
  rw [hC.out]
  refine ⟨w.heap.size, rfl, ⟨by simp [be_len], .inr ⟨_, 8, _, rfl, Nat.le_refl _, heap_alloc_new _ _, Nat.le_refl _, by unfold maxLen; omega, by simp [be_len], ?_⟩⟩, (Upd.refl _ _).alloc _⟩
  exact List.take_of_length_le (by simp [be_len])
end Go.Proofs.YtgfdnljblfkhkabDoor.FrEight
