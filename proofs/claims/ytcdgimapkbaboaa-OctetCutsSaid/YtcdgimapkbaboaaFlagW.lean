/-
  octet.Reader.Flag.
-/
import Derived.Test.YtcdgimapkbaboaaTakeW
namespace Go.Proofs.Ytcdgimapkbaboaa.FlagW
open Go.RowKit Mem Width PutW WriterW ReaderW TakeW
set_option linter.unusedVariables false

/-- what Reader.Flag answers, and where the Reader stands behind it -/
def flagM (l : List UInt8) (s : Nat × Int) : Bool × (Nat × Int) :=
  if (takeM 1 l s).1 ≤ 1 then (decide ((takeM 1 l s).1 = 1), (takeM 1 l s).2) else (false, (s.1, 8))

theorem takeM_pos {W : Nat} {l : List UInt8} {s : Nat × Int} (h : 1 < (takeM W l s).1) : (takeM W l s).2.2 = 0 := by
  unfold takeM at h ⊢
  split
  · split
    · rfl
    · simp_all
  · simp_all

theorem ret_b {a b : Bool} (h : a = b) : Ending.returned (.bool a) = .returned (.bool b) := by rw [h]

theorem rflag_any (b : Nat) (v : Value) (l : List UInt8) (s : Nat × Int) (w : World) (hr : Rd w b v l s) (hl : l.length ≤ 140737488355328) :
    Calls Try.prog 21 #[.pointer (some ⟨b, 0, none⟩)] w fun e w' => e = .returned (.bool (flagM l s).1) ∧ Rd w' b v l (flagM l s).2 ∧ Upd (fun k => k = b) w w' := by
  have h1 := hr.c1
  have hp := hr.2.2
  have Hr := Lib.hid hr
  clear hr
  go_enter Try.func21, Try.ntmps21
  go_wp2_with fail
  refine (take8 b v l s _ Hr.out hl).mono ?_
  rintro e w1 ⟨rfl, hr1, hu1⟩
  have Hr1 := Lib.hid hr1
  have Hu1 := Lib.hid hu1
  clear hr1 hu1 h1
  by_cases hc : (takeM 1 l s).1 ≤ 1
  · have Hf := Lib.hid (show flagM l s = (decide ((takeM 1 l s).1 = 1), (takeM 1 l s).2) by simp [flagM, hc])
    generalize takeM 1 l s = tk at *
    go_wp2
    go_ret
    refine ⟨?_, by rw [Hf.out]; exact Hr1.out, Hu1.out⟩
    rw [Hf.out]
    exact ret_b (a := ((tk.1 : Int) == 1)) (by rw [Bool.eq_iff_iff]; simp; omega)
  · have Hf := Lib.hid (show flagM l s = (false, (s.1, 8)) by simp [flagM, hc])
    have H0 := Lib.hid (takeM_pos (W := 1) (l := l) (s := s) (by omega))
    generalize takeM 1 l s = tk at *
    go_wp2_with fail
    refine (refuse_any b v l _ _ _ _ Hr1.out hp).mono ?_
    rintro e w2 ⟨rfl, hr2, hu2⟩
    have Hr2 := Lib.hid hr2
    have Hu2 := Lib.hid hu2
    clear hr2 hu2
    have hb : ((tk.1 : Int) == 1) = false := by simp; omega
    go_wp2
    go_ret
    refine ⟨?_, ?_, Hu1.out.trans (Hu2.out.mono fun k _ hk => .inl hk)⟩
    · rw [Hf.out]; rfl
    · rw [Hf.out]
      have := Hr2.out
      rw [H0.out] at this
      simpa using this
end Go.Proofs.Ytcdgimapkbaboaa.FlagW
