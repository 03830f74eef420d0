/-
  frame.End, frame.Unpack.
-/
import Derived.Test.YtgfdnljblfkhkabDoorFrWalk
import Derived.Deep.Onto
namespace Go.Proofs.YtgfdnljblfkhkabDoor.FrEnd
open Go.RowKit Sha Mem Width PutW WriterW RowW CopyW Crc FrTurn FrScan FrFits FrBegin FrOne FrWalk
set_option linter.unusedVariables false
set_option linter.unusedSimpArgs false

theorem callEnd (a : Array Value) (w : World) : (callFunc 40 a).run Tryd.prog w = .ok (.enter 40 a) w := by kernel_rfl
theorem callUnp (a : Array Value) (w : World) : (callFunc 43 a).run Tryd.prog w = .ok (.enter 43 a) w := by kernel_rfl

def EndAt (n : Int) (l : List UInt8) (w : World) (e : Ending) (w' : World) : Prop :=
  ∃ (k p : Nat) (y : Int), EndIs n l k p y ∧ e = .returned (.tuple #[.int .i64 k, .int .i64 p, .int .i64 y]) ∧ Upd (fun _ => False) w w'

theorem each_end (a b : Value) (w : World) : Calls Tryd.prog 40 #[a, b] w fun e w' => e = .returned (.bool true) ∧ w = w' := by
  go_enter Tryd.func40, Tryd.ntmps40
  go_wp2
  go_ret
  exact ⟨rfl, rfl⟩

set_option maxHeartbeats 1000000 in
theorem end_any (n : Int) (ao : Option Addr) (m cap : Nat) (l : List UInt8) (w : World) (hn : -9223372036854775808 ≤ n ∧ n ≤ 9223372036854775807) (hs : Sl w (.slice ao m cap) l) (hl : m ≤ 140737488355328) (ht : Tw w) :
    Calls Tryd.prog 19 #[.int .i64 n, .slice ao m cap] w (EndAt n l w) := by
  have hml : m = l.length := by obtain ⟨_, _, h, _⟩ := hs; injection h
  subst hml
  have HW := Lib.hid (walk_any n ao cap l 40 #[] (fun _ w' => Upd (fun _ => False) w w') (fun _ _ => False) w hn hl (Upd.refl _ _) callEnd
    (fun k wr h => ⟨hs.upd h (fun _ _ => id), ht.upd h id⟩) (fun k wr wr' h h' => h.trans (h'.mono fun _ _ e => e.elim))
    (fun k p pb o wr _ _ _ _ _ hi => (each_end _ _ wr).mono fun e w' ⟨he, hw⟩ => .inl ⟨he, hw ▸ hi⟩))
  clear hn hs ht
  go_enter Tryd.func19, Tryd.ntmps19
  go_wp2_with fail
  refine HW.out.mono ?_
  rintro e w' (⟨k, p, y, he, rfl, hu⟩ | ⟨k, p, _, _, _, _, _, hf⟩)
  · have HE : Hid (EndAt n l w (.returned (.tuple #[.int .i64 k, .int .i64 p, .int .i64 y])) w') := ⟨k, p, y, he, rfl, hu⟩
    clear he hu HW
    go_wp2
    go_ret3
    exact HE.out
  · exact hf.elim

theorem scan_cases (R : List UInt8) : ∀ (s : Sc) (i : Nat), scan s i R = 0 ∨ scan s i R = 1 ∨ 13 ≤ scan s i R := by
  induction R with
  | nil => intro s i; exact .inl rfl
  | cons c r ih =>
    intro s i
    unfold scan
    by_cases h : s.ok i c = true
    · rw [if_pos h]
      by_cases h2 : i + 1 = 13 + (s.next i c).len
      · rw [if_pos h2]; right; right; omega
      · rw [if_neg h2]; exact ih _ _
    · rw [if_neg h]; exact .inr (.inl rfl)
theorem one_cases (n : Int) (R : List UInt8) : one n R = 0 ∨ one n R = 1 ∨ 13 ≤ one n R := scan_cases R _ 0

/-- the record of the frame that l begins with -/
def rec (n : Int) (l : List UInt8) : List UInt8 := (l.drop 9).take (one n l - 13)
def UnErr (n : Int) (l : List UInt8) (y : Int) : Prop := (nok n = false ∧ y = 1) ∨ (nok n = true ∧ one n l = 0 ∧ y = 40) ∨ (nok n = true ∧ one n l = 1 ∧ y = 41)
def UnpackAt (n : Int) (l : List UInt8) (w : World) (e : Ending) (w' : World) : Prop :=
  (nok n = true ∧ 13 ≤ one n l ∧ ∃ v, e = .returned (.tuple #[v, .int .i64 (one n l), .int .i64 0]) ∧ w'.ownsRow w.heap.size 5 1 v (rec n l).length ((rec n l).map u8) ∧ Upd (fun _ => False) w w') ∨
  (∃ y, UnErr n l y ∧ e = .returned (.tuple #[.slice none 0 0, .int .i64 0, .int .i64 y]) ∧ Upd (fun _ => False) w w')
theorem rec_len (n : Int) (l : List UInt8) (h : 13 ≤ one n l) : (rec n l).length = one n l - 13 := by
  have := one_le n l h
  unfold rec
  simp
  omega
theorem sl_rec {w : World} {pb o m cap : Nat} {l : List UInt8} (n : Int) (h : Sl w (.slice (some ⟨pb, o, none⟩) m cap) l) (h13 : 13 ≤ one n l) :
    Sl w (.slice (some ⟨pb, rat o (one n l - 13), none⟩) (one n l - 13) (one n l - 13)) (rec n l) := by
  have h1 := one_le n l h13
  have hm : l.length ≤ maxLen := by obtain ⟨_, _, _, h1, h2, _⟩ := h; omega
  refine ⟨_, _, by rw [rec_len n l h13], by rw [rec_len n l h13]; exact Nat.le_refl _, by omega, by simp, fun a ha => ?_⟩
  injection ha with ha
  subst ha
  refine ⟨rfl, fun i hi => ?_⟩
  rw [rec_len n l h13] at hi
  have := sl_cell h (9 + i) (by omega)
  rw [add_none]
  unfold rat
  rw [if_neg (by omega), Nat.add_assoc, this]
  congr 2
  unfold rec
  simp [List.getD_eq_getElem?_getD, List.getElem?_take_of_lt hi]

/-- the box that the record goes into -/
def BoxAt (n : Int) (l : List UInt8) (w w1 : World) (w' : World) : Prop :=
  ∃ v, w'.heap[w.heap.size]? = some (.cells #[v] 22 (0, 0)) ∧ w'.ownsRow w1.heap.size 5 1 v (rec n l).length ((rec n l).map u8) ∧ Upd (fun k => k = w.heap.size) w1 w'

set_option maxHeartbeats 1000000 in
theorem each_unp (n a : Int) (v : Value) (bx : Nat) (l : List UInt8) (w w1 wr : World) (h13 : 13 ≤ one n l) (hbx : bx = w.heap.size) (h1 : w1.heap.size = w.heap.size + 1) (hb : wr.heap[bx]? = some (.cells #[.slice none 0 0] 22 (0, 0)))
    (hu : Upd (fun _ => False) w1 wr) (hs : Sl wr v (rec n l)) (hl : l.length ≤ 140737488355328) :
    Calls Tryd.prog 43 #[.int .i64 a, v, .pointer (some ⟨bx, 0, none⟩)] wr fun e w' => e = .returned (.bool false) ∧ BoxAt n l w w1 w' := by
  have HC := Lib.hid (clone_any v (rec n l) wr hs (by have := one_le n l h13; rw [rec_len n l h13]; omega))
  have Hb := Lib.hid hb
  have Hu := Lib.hid hu
  have Hbx := Lib.hid hbx
  have H1 := Lib.hid h1
  clear hs hb hu hbx h1
  go_enter Tryd.func43, Tryd.ntmps43
  go_wp2_with fail
  refine HC.out.mono ?_
  rintro e w2 ⟨v2, rfl, hown, hu2⟩
  have hb2 := (hu2.block bx (lt_of_block Hb.out) id).trans Hb.out
  obtain ⟨ao2, cap2, hv2, _⟩ := Sl.of_row hown
  obtain ⟨len2, hlen2⟩ : ∃ x, x = (rec n l).length := ⟨_, rfl⟩
  rw [← hlen2] at hv2 hown
  subst hv2
  have Hlen2 := Lib.hid hlen2
  clear hlen2
  have c0 := cell_of_one hb2
  have f0 := free_of_one hb2
  have Hb2 := Lib.hid hb2
  have Hown := Lib.hid hown
  have Hu2 := Lib.hid hu2
  clear hb2 hown hu2
  go_wp2
  go_ret
  have hne : (Value.slice ao2 len2 cap2).ownBlock ≠ some bx := fun e => by
    have h3 := Hown.out.lt bx e
    have := lt_of_block Hb.out
    omega
  refine ⟨rfl, .slice ao2 len2 cap2, ?_, ?_, ?_⟩
  · rw [← Hbx.out]; exact one_setCell Hb2.out
  · have h3 := ownsRow_setCell_other Hown.out (a := ⟨bx, 0, none⟩) hne (.slice ao2 len2 cap2)
    rw [← Hlen2.out]
    exact World.ownsRow.mono h3 Hu.out.size
  · have h4 : Upd (fun k => k = w.heap.size) w1 w2 := (Hu.out.mono (fun _ _ e => e.elim)).trans (Hu2.out.mono (fun _ _ e => e.elim))
    exact h4.put bx 0 (.inl Hbx.out) _

theorem unp_number (n : Int) (ao : Option Addr) (m cap : Nat) (l : List UInt8) (w : World) (hk : nok n = false) :
    Calls Tryd.prog 23 #[.int .i64 n, .slice ao m cap] w (UnpackAt n l w) := by
  have HN := numbers_any n w
  rw [hk] at HN
  have H := Lib.hid HN
  have Hk := Lib.hid hk
  clear HN hk
  go_enter Tryd.func23, Tryd.ntmps23
  go_wp2_with (go_at_call 28; refine H.out.mono ?_; rintro e w2 ⟨rfl, rfl⟩)
  go_ret3
  exact .inr ⟨1, .inl ⟨Hk.out, rfl⟩, rfl, Upd.refl _ _⟩

theorem unp_empty (n : Int) (ao : Option Addr) (cap : Nat) (w : World) (hk : nok n = true) :
    Calls Tryd.prog 23 #[.int .i64 n, .slice ao 0 cap] w (UnpackAt n [] w) := by
  have HN := numbers_any n w
  rw [hk] at HN
  have H := Lib.hid HN
  have Hk := Lib.hid hk
  clear HN hk
  go_enter Tryd.func23, Tryd.ntmps23
  go_wp2_with (go_at_call 28; refine H.out.mono ?_; rintro e w2 ⟨rfl, rfl⟩)
  go_ret3
  exact .inr ⟨40, .inr (.inl ⟨Hk.out, rfl, rfl⟩), rfl, Upd.refl _ _⟩

/-- what is known while the bytes are gone over, and behind the first frame -/
def InvU (w1 : World) (k : Nat) (w' : World) : Prop := k = 0 ∧ Upd (fun _ => False) w1 w'
def FinU (n : Int) (l : List UInt8) (w w1 : World) (k : Nat) (w' : World) : Prop := k = 0 ∧ BoxAt n l w w1 w'
theorem slice_form {w : World} {base n : Nat} {e : TypeId} {v : Value} {xs : List Value} (h : w.ownsRow base e 1 v n xs) : ∃ ao cap, v = .slice ao n cap := by
  rcases h.2 with ⟨rfl, rfl⟩ | ⟨g, cap, cur, rfl, _⟩
  · exact ⟨_, _, rfl⟩
  · exact ⟨_, _, rfl⟩
set_option maxHeartbeats 2000000 in
theorem unp_some (n : Int) (ao : Option Addr) (m cap : Nat) (l : List UInt8) (w : World) (hk : nok n = true) (h0 : 0 < m) (hs : Sl w (.slice ao m cap) l) (hl : m ≤ 140737488355328) (ht : Tw w) :
    Calls Tryd.prog 23 #[.int .i64 n, .slice ao m cap] w (UnpackAt n l w) := by
  have hml : m = l.length := by obtain ⟨_, _, h, _⟩ := hs; injection h
  subst hml
  have HN := numbers_any n w
  rw [hk] at HN
  have H := Lib.hid HN
  have hn := (nok_iff _).1 hk
  obtain ⟨w1, hw1⟩ : ∃ x, x = w.alloc (.cells #[.slice none 0 0] 22) := ⟨_, rfl⟩
  have hu1 : Upd (fun _ => False) w w1 := by rw [hw1]; exact (Upd.refl _ _).alloc _
  have hs1 : w1.heap.size = w.heap.size + 1 := by rw [hw1]; simp
  have hb1 : w1.heap[w.heap.size]? = some (.cells #[.slice none 0 0] 22 (0, 0)) := by rw [hw1]; exact heap_alloc_new _ _
  have HE : ∀ (k p pb o : Nat) wr, ao = some ⟨pb, o, none⟩ → pos n l k = some p → p < l.length → nok (n + k) = true → 13 ≤ one (n + k) (l.drop p) → InvU w1 k wr →
      Calls Tryd.prog 43 (#[.int .i64 (n + k), .slice (some ⟨pb, rat (o + p) (one (n + k) (l.drop p) - 13), none⟩) (one (n + k) (l.drop p) - 13) (one (n + k) (l.drop p) - 13)] ++ #[.pointer (some ⟨w.heap.size, 0, none⟩)]) wr (EachAt (InvU w1) (FinU n l w w1) k) := by
    intro k p pb o wr hao hp hpl hkk h13 ⟨hk0, hu⟩
    subst hk0
    obtain rfl : 0 = p := Option.some.inj hp
    simp only [Int.natCast_zero, Int.add_zero, Nat.add_zero, List.drop_zero] at h13 ⊢
    subst hao
    have hsl := sl_rec n (hs.upd (hu1.trans (hu.mono fun _ _ e => e.elim)) (fun _ _ => id)) h13
    exact (each_unp n n _ w.heap.size l w w1 wr h13 rfl hs1 ((hu.block _ (by omega) id).trans hb1) hu hsl (by omega)).mono fun e w' ⟨he, hb⟩ => .inr ⟨he, rfl, hb⟩
  have HW := walk_any n ao cap l 43 #[.pointer (some ⟨w.heap.size, 0, none⟩)] (InvU w1) (FinU n l w w1) w1 (by omega) hl ⟨rfl, Upd.refl _ _⟩ callUnp
    (fun k wr h => ⟨hs.upd (hu1.trans (h.2.mono fun _ _ e => e.elim)) (fun _ _ => id), ht.upd (hu1.trans (h.2.mono fun _ _ e => e.elim)) id⟩) (fun k wr wr' h h' => ⟨h.1, h.2.trans (h'.mono fun _ _ e => e.elim)⟩) HE
  have HWk := Lib.hid HW
  have Hw1 := Lib.hid hw1
  have Hb1 := Lib.hid hb1
  have Hu1 := Lib.hid hu1
  have Hs1 := Lib.hid hs1
  have Hk := Lib.hid hk
  obtain ⟨ll, hll⟩ : ∃ x, x = l.length := ⟨_, rfl⟩
  have Hll := Lib.hid hll
  rw [← hll] at h0 hl HWk ⊢
  have hl0 : ((ll : Int) == 0) = false := by rw [beq_eq_false_iff_ne]; omega
  have hmf : ∀ (fn : Fn) (first cap : Array Value) (w : World), (Instr.makeFunc fn first cap).run Tryd.prog w = .ok (.func fn first cap) w := fun _ _ _ _ => rfl
  clear HN hk hn hb1 hu1 hs1 HE HW hs ht hll
  go_enter Tryd.func23, Tryd.ntmps23
  go_wp2_with (go_at_call 28; refine H.out.mono ?_; rintro e w2 ⟨rfl, rfl⟩)
  rw [← hw1]
  clear hw1
  refine HWk.out.mono ?_
  rintro e w' (⟨k, p, y, ⟨hp, hst⟩, rfl, hk0, hu⟩ | ⟨k, p, hp, _, _, h13, rfl, hk0, hb⟩)
  · subst hk0
    obtain rfl : 0 = p := Option.some.inj hp
    have hbx : w'.heap[w.heap.size]? = some (.cells #[.slice none 0 0] 22 (0, 0)) := (hu.block _ (by have := Hs1.out; omega) id).trans Hb1.out
    have c0 := cell_of_one hbx
    have HE : Hid (UnpackAt n l w (.returned (.tuple #[.slice none 0 0, .int .i64 0, .int .i64 y])) w') := by
      refine .inr ⟨y, ?_, rfl, Hu1.out.trans (hu.mono fun _ _ e => e.elim)⟩
      unfold Stops at hst
      simp only [Int.natCast_zero, Int.add_zero, List.drop_zero] at hst
      rcases hst with ⟨a, b⟩ | ⟨a, b, c⟩ | ⟨a, b, c, d⟩ | ⟨a, b, c, d⟩
      · have := Hll.out; omega
      · exact .inl ⟨b, c⟩
      · exact .inr (.inr ⟨b, c, d⟩)
      · exact .inr (.inl ⟨b, c, d⟩)
    clear hp hst hu hbx
    go_wp2
    go_ret3
    exact HE.out
  · subst hk0
    obtain rfl : 0 = p := Option.some.inj hp
    simp only [Int.natCast_zero, Int.add_zero, List.drop_zero] at h13
    obtain ⟨v, hbx, hown, hu⟩ := hb
    obtain ⟨r, hr⟩ : ∃ r, r = one n l := ⟨_, rfl⟩
    have HE : Hid (UnpackAt n l w (.returned (.tuple #[v, .int .i64 r, .int .i64 0])) w') := by
      refine .inl ⟨Hk.out, h13, v, by rw [hr], World.ownsRow.mono hown (by have := Hs1.out; omega), Hu1.out.trans (hu.mono fun k _ e => .inr (by omega))⟩
    have c0 := cell_of_one hbx
    obtain ⟨ao2, cap2, hv2⟩ := slice_form hown
    obtain ⟨len2, hlen2⟩ : ∃ x, x = (rec n l).length := ⟨_, rfl⟩
    rw [← hlen2] at hv2
    subst hv2
    simp only [Int.natCast_zero, Int.add_zero, List.drop_zero, Nat.zero_add]
    rw [← hr]
    clear hp hbx hown hu hr hlen2
    go_wp2
    go_ret3
    exact HE.out

theorem unpack_any (n : Int) (ao : Option Addr) (m cap : Nat) (l : List UInt8) (w : World) (hs : Sl w (.slice ao m cap) l) (hl : m ≤ 140737488355328) (ht : Tw w) :
    Calls Tryd.prog 23 #[.int .i64 n, .slice ao m cap] w (UnpackAt n l w) := by
  have hml : m = l.length := by obtain ⟨_, _, h, _⟩ := hs; injection h
  by_cases hk : nok n = true
  · rcases Nat.eq_zero_or_pos m with h0 | h0
    · subst h0
      obtain rfl : l = [] := List.eq_nil_of_length_eq_zero hml.symm
      exact unp_empty n ao cap w hk
    · exact unp_some n ao m cap l w hk h0 hs hl ht
  · exact unp_number n ao m cap l w (by simpa using hk)
end Go.Proofs.YtgfdnljblfkhkabDoor.FrEnd
