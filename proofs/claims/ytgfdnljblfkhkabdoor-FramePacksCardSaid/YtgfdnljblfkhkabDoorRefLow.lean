/-
  docketref4.low, Pack.
-/
import Derived.Test.YtgfdnljblfkhkabDoorFrPackE
import Derived.Test.YtgfdnljblfkhkabDoorRefCrc
import Derived.Test.YtgfdnljblfkhkabDoorBookM
import Derived.Deep.LoopGhost
namespace Go.Proofs.YtgfdnljblfkhkabDoor.RefLow
open Go.RowKit Sha Mem Width PutW WriterW RowW CopyW BookW RawB Crc FrTurn FrScan FrFits FrBegin FrOne FrWalk FrEnd FrPack ListsB FrPackE
set_option linter.unusedVariables false
set_option linter.unusedSimpArgs false

theorem be_take (n : Int) : ∀ wd c, c < wd → (be n wd).take (c + 1) = (be n wd).take c ++ [byteAt n (wd - 1 - c)]
  | 0, _, h => by omega
  | wd + 1, 0, _ => by simp [be]
  | wd + 1, c + 1, h => by
    rw [be, List.take_succ_cons, List.take_succ_cons, be_take n wd c (by omega), List.cons_append, show wd + 1 - 1 - (c + 1) = wd - 1 - c by omega]
theorem byte_shr (n : Int) (h0 : 0 ≤ n) (k : Nat) : n / 2 ^ (8 * k) % 256 = ((byteAt n k).toNat : Int) := by
  obtain ⟨N, rfl⟩ := Int.eq_ofNat_of_zero_le h0
  unfold byteAt
  have h1 : (2 : Nat) ^ (8 * k) = 256 ^ k := by rw [Nat.pow_mul]
  have h2 : N / 256 ^ k % 256 < 256 := Nat.mod_lt _ (by decide)
  rw [UInt8.toNat_ofNat_of_lt' (by simpa using h2)]
  have h3 : ((2 : Int) ^ (8 * k)) = ((256 ^ k : Nat) : Int) := by rw [← h1]; simp
  rw [h3]
  simp

/-- new memory that reads as l -/
def NewAt (w : World) (l : List UInt8) (e : Ending) (w' : World) : Prop :=
  ∃ v, e = .returned v ∧ w'.ownsRow w.heap.size 5 1 v l.length (l.map u8) ∧ Upd (fun _ => False) w w'

def LLow (w : World) (n : Int) (wd : Nat) (g : Nat) (b i : Value) (wr : World) : Prop :=
  ∃ k : Nat, g = k ∧ k ≤ wd ∧ i = .int .i64 ((k : Int) - 1) ∧ wr.ownsRow w.heap.size 5 1 b (wd - k) (((be n wd).take (wd - k)).map u8) ∧ Upd (fun _ => False) w wr

set_option maxHeartbeats 2000000 in
theorem low_any (n : Int) (wd : Nat) (w : World) (h0 : 0 ≤ n) (h1 : n ≤ 18446744073709551615) (hw : wd ≤ 8) (h2 : 1 ≤ wd) :
    Calls Tryd.prog 26 #[.int .u64 n, .int .i64 wd] w (NewAt w (be n wd)) := by
  have H0 := Lib.hid h0
  have H1 := Lib.hid h1
  clear h0 h1
  go_enter Tryd.func26, Tryd.ntmps26
  go_wp2
  go_loopg [5, 6] wd (fun g b i wr => LLow w n wd g b i wr)
  case atStart => exact ⟨wd, rfl, Nat.le_refl _, rfl, by rw [Nat.sub_self]; exact World.ownsRow_nil w _ _ 1, Upd.refl _ _⟩
  case round =>
    obtain ⟨k, hk, hkw, rfl, hown, hu⟩ := hrel
    obtain rfl : gk = k := hk
    have HO := Lib.hid hown
    have HU := Lib.hid hu
    clear hown hu
    cases gk with
    | zero =>
      have HP : Hid (NewAt w (be n wd) (.returned u5) wr) := ⟨u5, rfl, by
        have h := HO.out
        rw [Nat.sub_zero, List.take_of_length_le (by rw [be_len]; exact Nat.le_refl _)] at h
        rw [be_len]
        exact h, HU.out⟩
      go_wp2
      go_ret
      exact HP.out
    | succ k =>
      have e1 : (((k + 1 : Nat) : Int) - 1) = (k : Int) := by omega
      rw [e1]
      clear e1
      obtain ⟨c, hc⟩ : ∃ c, c = byteAt n k := ⟨_, rfl⟩
      have hb := byte_shr n H0.out k
      rw [← hc] at hb
      obtain ⟨l, hl⟩ : ∃ l, l = (be n wd).take (wd - (k + 1)) := ⟨_, rfl⟩
      have hll : l.length = wd - (k + 1) := by rw [hl, List.length_take, be_len]; omega
      have HO2 : Hid (wr.ownsRow w.heap.size 5 1 u5 l.length (l.map Mem.u8)) := by
        show World.ownsRow _ _ _ _ _ _ _
        rw [hll, hl]; exact HO.out
      have Hl : Hid (l ++ [c] = (be n wd).take (wd - k)) := by
        show _ = _
        rw [hl, hc, show wd - k = (wd - (k + 1)) + 1 by omega, be_take n wd _ (by omega)]
        congr 3
        omega
      have Hll := Lib.hid hll
      have HkI : Hid (k + 1 ≤ wd) := hkw
      have hk8 : (k : Int) ≤ 7 := by omega
      clear hc hl hll HO
      have HSx : Hid (Sl (wr.alloc (.cells #[.int .u8 (c.toNat : Int)] 5)) (.slice (some ⟨wr.heap.size, 0, none⟩) 1 1) [c]) :=
        Sl.row (l := [c]) (show Row (wr.alloc (.cells #[.int .u8 (c.toNat : Int)] 5)) wr.heap.size 5 ([c].map Mem.u8) from Row.new wr _ [Mem.u8 c]) (Nat.le_refl _) (by unfold maxLen; simp)
      have HLb : Hid (l.length + [c].length ≤ maxLen) := by show _ ≤ _; rw [Hll.out]; unfold maxLen; simp; omega
      have HLb2 : Hid (l.length + [c].length ≤ 140737488355328) := by show _ ≤ _; rw [Hll.out]; simp; omega
      go_wp2_with ((with_reducible refine wpList_append_bytes (o := ⟨some 21, _, _, _, _, _⟩) _ ?_ (.tmp 13) (.tmp 20) ?_ w.heap.size u5 l [c] ?_ (HO2.out.alloc _) (.slice (some ⟨wr.heap.size, 0, none⟩) 1 1) ?_ HSx.out HLb.out HLb2.out ?_ ?_); rfl; rfl; rfl; rfl; (have := HU.out.size; simp; omega); intro v2 w2 HO3 HG3 HA3)
      go_roundg k
      case rel =>
        refine ⟨k, rfl, by have := HkI.out; omega, by first | rfl | (congr 1; omega), ?_, ?_⟩
        · have h := HO3.out
          rw [Hl.out] at h
          have hlen : ((be n wd).take (wd - k)).length = wd - k := by rw [List.length_take, be_len]; omega
          rw [hlen] at h
          exact h
        · exact (HU.out.alloc _).trans ((Upd.grown HG3.out (S := own u5) (fun k hk => hk)).mono (fun j hj e => .inr ((HO2.out.lt j e).1)))
      case measure => omega
end Go.Proofs.YtgfdnljblfkhkabDoor.RefLow
