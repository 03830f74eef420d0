/-
  frame.End, frame.Unpack.
-/
import Derived.Test.YtgfdnljblfkhkaaDoorFrWalk
import Derived.Deep.Onto
namespace Go.Proofs.YtgfdnljblfkhkaaDoor.FrEnd
open Go.RowKit Sha Mem Width PutW WriterW RowW CopyW Crc FrTurn FrScan FrFits FrBegin FrOne FrWalk
set_option linter.unusedVariables false
set_option linter.unusedSimpArgs false

theorem callEnd (a : Array Value) (w : World) : (callFunc 91 a).run Tryd.prog w = .ok (.enter 91 a) w := by kernel_rfl

def EndAt (n : Int) (l : List UInt8) (w : World) (e : Ending) (w' : World) : Prop :=
  ∃ (k p : Nat) (y : Int), EndIs n l k p y ∧ e = .returned (.tuple #[.int .i64 k, .int .i64 p, .int .i64 y]) ∧ Upd (fun _ => False) w w'

theorem each_end (a b : Value) (w : World) : Calls Tryd.prog 91 #[a, b] w fun e w' => e = .returned (.bool true) ∧ w = w' := by
  go_enter Tryd.func91, Tryd.ntmps91
  go_wp2
  go_ret
  exact ⟨rfl, rfl⟩

set_option maxHeartbeats 1000000 in
theorem end_any (n : Int) (ao : Option Addr) (m cap : Nat) (l : List UInt8) (w : World) (hn : -9223372036854775808 ≤ n ∧ n ≤ 9223372036854775807) (hs : Sl w (.slice ao m cap) l) (hl : m ≤ 140737488355328) (ht : Tw w) :
    Calls Tryd.prog 63 #[.int .i64 n, .slice ao m cap] w (EndAt n l w) := by
  have hml : m = l.length := by obtain ⟨_, _, h, _⟩ := hs; injection h
  subst hml
  have HW := Lib.hid (walk_any n ao cap l 91 #[] (fun _ w' => Upd (fun _ => False) w w') (fun _ _ => False) w hn hl (Upd.refl _ _) callEnd
    (fun k wr h => ⟨hs.upd h (fun _ _ => id), ht.upd h id⟩) (fun k wr wr' h h' => h.trans (h'.mono fun _ _ e => e.elim))
    (fun k p pb o wr _ _ _ _ _ hi => (each_end _ _ wr).mono fun e w' ⟨he, hw⟩ => .inl ⟨he, hw ▸ hi⟩))
  clear hn hs ht
  go_enter Tryd.func63, Tryd.ntmps63
  go_wp2_with fail
  refine HW.out.mono ?_
  rintro e w' (⟨k, p, y, he, rfl, hu⟩ | ⟨k, p, _, _, _, _, _, hf⟩)
  · have HE : Hid (EndAt n l w (.returned (.tuple #[.int .i64 k, .int .i64 p, .int .i64 y])) w') := ⟨k, p, y, he, rfl, hu⟩
    clear he hu HW
    go_wp2
    go_ret3
    exact HE.out
  · exact hf.elim

theorem scan_cases (R : List UInt8) : ∀ (s : Sc) (i : Nat), scan s i R = 0 ∨ scan s i R = 1 ∨ 13 ≤ scan s i R := by
  induction R with
  | nil => intro s i; exact .inl rfl
  | cons c r ih =>
    intro s i
    unfold scan
    by_cases h : s.ok i c = true
    · rw [if_pos h]
      by_cases h2 : i + 1 = 13 + (s.next i c).len
      · rw [if_pos h2]; right; right; omega
      · rw [if_neg h2]; exact ih _ _
    · rw [if_neg h]; exact .inr (.inl rfl)
theorem one_cases (n : Int) (R : List UInt8) : one n R = 0 ∨ one n R = 1 ∨ 13 ≤ one n R := scan_cases R _ 0

/-- the record of the frame that l begins with -/
def rec (n : Int) (l : List UInt8) : List UInt8 := (l.drop 9).take (one n l - 13)
def UnErr (n : Int) (l : List UInt8) (y : Int) : Prop := (nok n = false ∧ y = 1) ∨ (nok n = true ∧ one n l = 0 ∧ y = 40) ∨ (nok n = true ∧ one n l = 1 ∧ y = 41)
def UnpackAt (n : Int) (l : List UInt8) (w : World) (e : Ending) (w' : World) : Prop :=
  (nok n = true ∧ 13 ≤ one n l ∧ ∃ v, e = .returned (.tuple #[v, .int .i64 (one n l), .int .i64 0]) ∧ w'.ownsRow w.heap.size 5 1 v (rec n l).length ((rec n l).map u8) ∧ Upd (fun _ => False) w w') ∨
  (∃ y, UnErr n l y ∧ e = .returned (.tuple #[.slice none 0 0, .int .i64 0, .int .i64 y]) ∧ Upd (fun _ => False) w w')
theorem rec_len (n : Int) (l : List UInt8) (h : 13 ≤ one n l) : (rec n l).length = one n l - 13 := by
  have := one_le n l h
  unfold rec
  simp
  omega
theorem sl_rec {w : World} {pb o m cap : Nat} {l : List UInt8} (n : Int) (h : Sl w (.slice (some ⟨pb, o, none⟩) m cap) l) (h13 : 13 ≤ one n l) :
    Sl w (.slice (some ⟨pb, rat o (one n l - 13), none⟩) (one n l - 13) (one n l - 13)) (rec n l) := by
  have h1 := one_le n l h13
  have hm : l.length ≤ maxLen := by obtain ⟨_, _, _, h1, h2, _⟩ := h; omega
  refine ⟨_, _, by rw [rec_len n l h13], by rw [rec_len n l h13]; exact Nat.le_refl _, by omega, by simp, fun a ha => ?_⟩
  injection ha with ha
  subst ha
  refine ⟨rfl, fun i hi => ?_⟩
  rw [rec_len n l h13] at hi
  have := sl_cell h (9 + i) (by omega)
  rw [add_none]
  unfold rat
  rw [if_neg (by omega), Nat.add_assoc, this]
  congr 2
  unfold rec
  simp [List.getD_eq_getElem?_getD, List.getElem?_take_of_lt hi]

/-- the box that the record goes into -/
def BoxAt (n : Int) (l : List UInt8) (w w1 : World) (w' : World) : Prop :=
  ∃ v, w'.heap[w.heap.size]? = some (.cells #[v] 25 (0, 0)) ∧ w'.ownsRow w1.heap.size 5 1 v (rec n l).length ((rec n l).map u8) ∧ Upd (fun k => k = w.heap.size) w1 w'




/-- what is known while the bytes are gone over, and behind the first frame -/
def InvU (w1 : World) (k : Nat) (w' : World) : Prop := k = 0 ∧ Upd (fun _ => False) w1 w'
def FinU (n : Int) (l : List UInt8) (w w1 : World) (k : Nat) (w' : World) : Prop := k = 0 ∧ BoxAt n l w w1 w'
theorem slice_form {w : World} {base n : Nat} {e : TypeId} {v : Value} {xs : List Value} (h : w.ownsRow base e 1 v n xs) : ∃ ao cap, v = .slice ao n cap := by
  rcases h.2 with ⟨rfl, rfl⟩ | ⟨g, cap, cur, rfl, _⟩
  · exact ⟨_, _, rfl⟩
  · exact ⟨_, _, rfl⟩

end Go.Proofs.YtgfdnljblfkhkaaDoor.FrEnd
