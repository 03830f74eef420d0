/-
  octet.Writer.Flag.
-/
import Derived.Test.YtcdgimapkbaboaaWriterW
namespace Go.Proofs.Ytcdgimapkbaboaa.WriterW
open Go.RowKit Mem Width PutW
set_option linter.unusedVariables false

set_option maxHeartbeats 1000000 in
theorem flag_any (x : Bool) (b : Nat) (v : Value) (l : List UInt8) (w : World) (hw : Wr w b v l) (hl : l.length ≤ 140737488355300) :
    Calls Try.prog 18 #[.pointer (some ⟨b, 0, none⟩), .bool x] w fun e w' => e = .returned (.tuple #[]) ∧ Grew b v l [if x then 1 else 0] w w' := by
  obtain ⟨hb, hown⟩ := hw
  have hc : w.cell? ⟨b, 0, none⟩ = some v := cell_of_one hb
  have hblt := lt_of_block hb
  have Hb := Lib.hid hb
  have Hown := Lib.hid hown
  have Hi := Lib.hid (info_parts info8)
  have Hl := Lib.hid (show l.length + 1 ≤ maxLen from by unfold maxLen; omega)
  have Hl2 := Lib.hid (show (l.length + 1) * 1 ≤ 140737488355328 from by omega)
  clear hb hown hl
  cases x
  all_goals
    go_enter Try.func18, Try.ntmps18
    go_wp2_with (at_builtin; obtain ⟨i0, hi, hz0, hz1, hz2⟩ := Hi.out; refine wpList_append_lies _ rfl _ _ 30 rfl 0 5 i0 (.int .u8 0) 1 1 Try.underlying30 hi hz0 hz1 hz2 rfl (by decide) v _ _ rfl (Hown.out.alloc _) ⟨w.heap.size, 0, none⟩ 1 1 [_] rfl rfl (World.news_of_block (heap_alloc_new _ _)) (by simp [Value.oneCell']) (by omega) Hl.out Hl2.out (Nat.zero_le _) _ rfl ?_; clear hi hz0 hz1 hz2; intro g cap w1 hown1 hgrow1 hat1 hlt1; have hc1 := cell_of_one (one_kept Hb.out (by decide) Hown.out (fun k hk => ((Upd.refl (fun _ => False) _).alloc _).block k hk id) (by simp) hgrow1); have hf1 := free_of_one (one_kept Hb.out (by decide) Hown.out (fun k hk => ((Upd.refl (fun _ => False) _).alloc _).block k hk id) (by simp) hgrow1); have Hown1 := Lib.hid hown1; have Hgrow1 := Lib.hid hgrow1; have Hat1 := Lib.hid hat1; clear hown1 hgrow1 hat1)
    go_end0
    exact ⟨rfl, step' (news := [_]) Hb.out Hown.out rfl ((Upd.refl _ _).alloc _) (by simpa [u8] using Hown1.out) Hgrow1.out (Hat1.out.imp id fun e => by rw [e]; simp)⟩
end Go.Proofs.Ytcdgimapkbaboaa.WriterW
