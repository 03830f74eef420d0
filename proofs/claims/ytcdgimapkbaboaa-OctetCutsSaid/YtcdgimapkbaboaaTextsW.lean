/-
  octet.Writer.Texts.
-/
import Derived.Test.YtcdgimapkbaboaaRawW
import Derived.WalkLawsBesides
namespace Go.Proofs.Ytcdgimapkbaboaa.TextsW
open Go.RowKit Mem Width PutW WriterW ReaderW NamesW StrW RawW
set_option linter.unusedVariables false

/-- v is a slice of the strings ss -/
def StrL (w : World) (v : Value) (ss : List ByteArray) : Prop :=
  ∃ ao cap, v = .slice ao ss.length cap ∧ (ao = none → ss.length = 0) ∧ (∀ s ∈ ss, s.size ≤ maxLen) ∧
    ∀ a, ao = some a → a.spot = none ∧ ∀ i, i < ss.length → w.cell? (a.add i) = some (.string (ss.getD i ByteArray.empty))
theorem StrL.upd {S : Nat → Prop} {w w' : World} {v : Value} {ss : List ByteArray} (h : StrL w v ss) (hu : Upd S w w') (hd : ∀ k, own v k → ¬ S k) : StrL w' v ss := by
  obtain ⟨ao, cap, rfl, h3, hm, h4⟩ := h
  refine ⟨ao, cap, rfl, h3, hm, fun a ha => ⟨(h4 a ha).1, fun i hi => ?_⟩⟩
  subst ha
  refine hu.cell ((h4 a rfl).2 i hi) (hd _ ?_)
  simp [own, Value.ownBlock, Addr.add]
  split <;> rfl

/-- the order of texts, as the model has it -/
def leB (s t : ByteArray) : Bool := Op.bytesLess s.toList t.toList || s.toList == t.toList

def longB (ss : List ByteArray) (each : Int) (i : Nat) : Bool := decide (bnd each 65535 < ((ss.getD i ByteArray.empty).size : Int))
def lowB (ss : List ByteArray) (i : Nat) : Bool := decide (0 < i) && leB (ss.getD i ByteArray.empty) (ss.getD (i - 1) ByteArray.empty)
/-- the first fault of a row of texts -/
def rowErr (ss : List ByteArray) (each : Int) : Int :=
  match (List.range ss.length).find? (fun i => longB ss each i || lowB ss i) with
  | none => 0
  | some i => if longB ss each i then 6 else 8
def tsErr (ss : List ByteArray) (most each : Int) : Int := if bnd most 65535 < ss.length then 7 else rowErr ss each

theorem rowErr_some {ss : List ByteArray} {each : Int} {k : Nat} (hk : k < ss.length) (h : longB ss each k = true ∨ lowB ss k = true) (hall : ∀ j, j < k → longB ss each j = false ∧ lowB ss j = false) :
    rowErr ss each = if longB ss each k then 6 else 8 := by
  have : (List.range ss.length).find? (fun i => longB ss each i || lowB ss i) = some k := by
    rw [List.find?_range_eq_some]
    refine ⟨by simpa using h, by simpa using hk, fun j hj => ?_⟩
    have := hall j hj
    simp [this.1, this.2]
  simp [rowErr, this]
theorem rowErr_none {ss : List ByteArray} {each : Int} (hall : ∀ j, j < ss.length → longB ss each j = false ∧ lowB ss j = false) : rowErr ss each = 0 := by
  have : (List.range ss.length).find? (fun i => longB ss each i || lowB ss i) = none := by
    rw [List.find?_range_eq_none]
    intro j hj
    have := hall j (by simpa using hj)
    simp [this.1, this.2]
  simp [rowErr, this]

theorem dlen (s : ByteArray) : s.data.toList.length = s.size := rfl

/-- a text's form -/
def form (s : ByteArray) : List UInt8 := be s.size 2 ++ s.data.toList
def forms (ss : List ByteArray) : List UInt8 := be ss.length 2 ++ cat (ss.map form)

/-- no text is refused -/
def Good (ss : List ByteArray) (each : Int) (k : Nat) : Prop := ∀ j, j < k → longB ss each j = false ∧ lowB ss j = false

set_option maxHeartbeats 2000000 in
/-- the writer's row of texts -/
theorem Texts_any (b : Nat) (v p : Value) (l : List UInt8) (ss : List ByteArray) (most each : Int) (w : World) (hw : Wr w b v l) (hs : StrL w p ss) (hoff : ∀ k, own p k → k < w.heap.size ∧ k ≠ b ∧ ¬ own v k)
    (hl : l.length + (cat (ss.map form)).length ≤ 140737488355000) (hn : ss.length ≤ 70368744177660) :
    Calls Try.prog 69 #[.pointer (some ⟨b, 0, none⟩), p, .int .i64 most, .int .i64 each] w (Lays b v l (forms ss) (tsErr ss most each) w) := by
  have Hw := Lib.hid hw
  have Hs := Lib.hid hs
  obtain ⟨ao, cap, rfl, h3, hm, h4⟩ := hs
  have Hm := Lib.hid hm
  by_cases hlt : bnd most 65535 < ss.length
  · have HP := Lib.hid (show Lays b v l (forms ss) (tsErr ss most each) w (.returned (.int .i64 7)) w by
      have e : tsErr ss most each = 7 := if_pos hlt
      rw [e]; exact ⟨rfl, Grew.refl hw⟩)
    clear hw h4 hm
    generalize hbn : bnd most 65535 = bn at *
    have Hbn := Lib.hid hbn
    clear hbn
    go_enter Try.func69, Try.ntmps69
    go_wp2_with fail
    refine (bound_any _ _ _).mono ?_
    rintro e w' ⟨rfl, rfl⟩
    rw [Hbn.out]
    go_wp2
    go_ret
    exact HP.out
  · have Hts := Lib.hid (show tsErr ss most each = rowErr ss each from if_neg hlt)
    have hn16 : ss.length ≤ 65535 := by have := bnd_lt hlt; omega
    have e16 : IntKind.u16.wrap (ss.length : Int) = ss.length := by rw [IntKind.wrap_u16]; omega
    have E16 := Lib.hid e16
    have Hl := Lib.hid hl
    clear hw hm e16 hl
    generalize hbn : bnd most 65535 = bn at *
    have Hbn := Lib.hid hbn
    clear hbn
    go_enter Try.func69, Try.ntmps69
    go_wp2_with fail
    refine (bound_any _ _ _).mono ?_
    rintro e w' ⟨rfl, rfl⟩
    rw [Hbn.out]
    have Hh4 := Lib.hid h4
    clear h4
    go_wp2
    go_loop [20] (fun i => ∃ k : Nat, k ≤ ss.length ∧ i = .int .i64 k ∧ Good ss each k) (fun i => ss.length - (intOf i).toNat)
    case atStart => exact ⟨0, Nat.zero_le _, rfl, fun j hj => by omega⟩
    case round =>
      obtain ⟨k, hk, rfl, hgood⟩ := hrel
      have Hgood := Lib.hid hgood
      clear hgood
      by_cases hkl : k < ss.length
      · obtain ⟨ad, rfl⟩ : ∃ ad, ao = some ad := by
          cases ao with
          | some ad => exact ⟨ad, rfl⟩
          | none => have := h3 rfl; omega
        obtain ⟨hsp, hcell⟩ := Hh4.out ad rfl
        obtain ⟨g, off, sp⟩ := ad
        obtain rfl : sp = none := hsp
        have hc := hcell k hkl
        have hcp := hcell (k - 1) (by omega)
        rw [show (⟨g, off, none⟩ : Addr).add k = ⟨g, off + k, none⟩ by unfold Addr.add; split <;> simp_all] at hc
        rw [show (⟨g, off, none⟩ : Addr).add (k - 1) = ⟨g, off + (k - 1), none⟩ by unfold Addr.add; split <;> simp_all] at hcp
        have hsm : (ss.getD k ByteArray.empty).size ≤ 9223372036854775807 := by
          have := Hm.out (ss.getD k ByteArray.empty) (by simp [List.getD, hkl])
          unfold maxLen at this
          exact this
        have Hlong := Lib.hid (show longB ss each k = decide (bnd each 65535 < ((ss.getD k ByteArray.empty).size : Int)) from rfl)
        have Hlow := Lib.hid (show lowB ss k = (decide (0 < k) && (Op.bytesLess (ss.getD k ByteArray.empty).toList (ss.getD (k - 1) ByteArray.empty).toList || (ss.getD k ByteArray.empty).toList == (ss.getD (k - 1) ByteArray.empty).toList)) from rfl)
        clear hcell
        generalize ss.getD k ByteArray.empty = s at *
        generalize ss.getD (k - 1) ByteArray.empty = s' at *
        generalize hbe : bnd each 65535 = be' at *
        have Hbe := Lib.hid hbe
        clear hbe
        by_cases hlong : be' < (s.size : Int)
        · have hl1 : longB ss each k = true := by rw [Hlong.out]; simpa using hlong
          have HR := Lib.hid (show rowErr ss each = 6 by rw [rowErr_some hkl (.inl hl1) Hgood.out, if_pos hl1])
          have HP := Lib.hid (show Lays b v l (forms ss) (tsErr ss most each) w (.returned (.int .i64 6)) w by
            rw [Hts.out, HR.out]; exact ⟨rfl, Grew.refl Hw.out⟩)
          clear hl1
          go_wp2_with (go_at_call 100; refine (bound_any _ _ _).mono ?_; rintro e w' ⟨rfl, rfl⟩; rw [Hbe.out])
          go_ret
          exact HP.out
        · have hl0 : longB ss each k = false := by rw [Hlong.out]; simpa using hlong
          by_cases hk0 : k = 0
          · have Hnext := Lib.hid (show Good ss each (k + 1) from fun j hj => by
              by_cases e : j = k
              · subst e; exact ⟨hl0, by rw [Hlow.out, hk0]; rfl⟩
              · exact Hgood.out j (by omega))
            have hk1 : k < 1 := by omega
            clear hl0 hcp hk0
            go_wp2_with (go_at_call 100; refine (bound_any _ _ _).mono ?_; rintro e w' ⟨rfl, rfl⟩; rw [Hbe.out])
            go_round
            case rel => exact ⟨k + 1, by omega, by go_num, Hnext.out⟩
            case measure => simp [intOf]; omega
          · have hk1 : 0 < k := by omega
            cases hle : (Op.bytesLess s.toList s'.toList || s.toList == s'.toList) with
            | true =>
              have HR := Lib.hid (show rowErr ss each = 8 by rw [rowErr_some hkl (.inr (by rw [Hlow.out, hle]; simp [hk1])) Hgood.out, if_neg (by rw [hl0]; decide)])
              have HP := Lib.hid (show Lays b v l (forms ss) (tsErr ss most each) w (.returned (.int .i64 8)) w by
                rw [Hts.out, HR.out]; exact ⟨rfl, Grew.refl Hw.out⟩)
              clear hl0
              go_wp2_with (go_at_call 100; refine (bound_any _ _ _).mono ?_; rintro e w' ⟨rfl, rfl⟩; rw [Hbe.out])
              go_ret
              exact HP.out
            | false =>
              have Hnext := Lib.hid (show Good ss each (k + 1) from fun j hj => by
                by_cases e : j = k
                · subst e; exact ⟨hl0, by rw [Hlow.out, hle]; simp⟩
                · exact Hgood.out j (by omega))
              clear hl0
              go_wp2_with (go_at_call 100; refine (bound_any _ _ _).mono ?_; rintro e w' ⟨rfl, rfl⟩; rw [Hbe.out])
              go_round
              case rel => exact ⟨k + 1, by omega, by go_num, Hnext.out⟩
              case measure => simp [intOf]; omega
      · have hkn : k = ss.length := by omega
        subst hkn
        have HR := Lib.hid (rowErr_none Hgood.out)
        have HP := Lib.hid (show ∀ w', Grew b v l (forms ss) w w' → Lays b v l (forms ss) (tsErr ss most each) w (.returned (.int .i64 0)) w' from fun w' hg => by
          rw [Hts.out, HR.out]; exact ⟨rfl, hg⟩)
        have e16 := E16.out
        go_wp2_with fail
        refine (put16 b v l _ _ (by omega) (WalkArith.wf_u16 (by omega)) Hw.out (by have := Hl.out; omega)).mono ?_
        rintro e w1 ⟨rfl, hg1⟩
        have Hg1 := Lib.hid hg1
        clear hg1 e16
        go_wp2
        go_loopw [12, 49] (fun _ i wr => ∃ k : Nat, k ≤ ss.length ∧ i = .int .i64 k ∧ Grew b v l (be ss.length 2 ++ cat ((ss.map form).take k)) w wr) (fun _ i _ => ss.length - (intOf i).toNat)
        case atStart => exact ⟨0, Nat.zero_le _, rfl, by simpa [cat] using Hg1.out⟩
        case round =>
          obtain ⟨k, hk, rfl, hg⟩ := hrel
          by_cases hkl : k < ss.length
          · have Hg := Lib.hid hg
            obtain ⟨v1, hw1, hu1, ho1⟩ := hg
            obtain ⟨ao', cap', he, h3', hm', h4'⟩ := Hs.out.upd hu1 (fun j hj h => h.elim (hoff j hj).2.1 (hoff j hj).2.2)
            cases he
            obtain ⟨ad, rfl⟩ : ∃ ad, ao = some ad := by
              cases ao with
              | some ad => exact ⟨ad, rfl⟩
              | none => have := h3 rfl; omega
            obtain ⟨hsp, hcell⟩ := h4' ad rfl
            obtain ⟨g, off, sp⟩ := ad
            obtain rfl : sp = none := hsp
            have hc := hcell k hkl
            rw [show (⟨g, off, none⟩ : Addr).add k = ⟨g, off + k, none⟩ by unfold Addr.add; split <;> simp_all] at hc
            have hlen : ((ss.map form).getD k []) = form (ss.getD k ByteArray.empty) := by simp [List.getD, hkl]
            have Hft := Lib.hid (flat_take (ts := ss.map form) (k := k) (by simpa using hkl))
            have hfl := flat_le (ts := ss.map form) (k := k) (by simpa using hkl)
            have hgk : longB ss each k = false := (Hgood.out k hkl).1
            have hsz : ((ss.getD k ByteArray.empty).size : Int) ≤ 65535 := by
              simp only [longB, decide_eq_false_iff_not] at hgk
              have := bnd_lt hgk
              omega
            rw [hlen] at hfl
            have Hlen := Lib.hid hlen
            generalize hsk : ss.getD k ByteArray.empty = s at *
            have hfs : (form s).length = 2 + s.size := by rw [form, List.length_append, be_length, dlen]
            have Hw1 := Lib.hid hw1
            have Hu1 := Lib.hid hu1
            have Ho1 := Lib.hid ho1
            have Hbd := Lib.hid (show (l ++ (be (ss.length : Int) 2 ++ cat ((ss.map form).take k))).length + s.data.toList.length ≤ 140737488355300 from by
              have := Hl.out
              have e : s.data.toList.length = s.size := dlen s
              rw [List.length_append, List.length_append, be_length, e]
              omega)
            have Hs16 := Lib.hid (show s.data.toList.length ≤ 65535 from by
              have e : s.data.toList.length = s.size := dlen s
              omega)
            clear hw1 hu1 ho1 hcell h3' hm' h4' hlen hfl hgk hsk hfs hsz
            go_wp2_with fail
            have ht := text_any b v1 _ s.data.toList _ Hw1.out Hbd.out Hs16.out
            rw [show ByteArray.mk s.data.toList.toArray = s by simp] at ht
            refine ht.mono ?_
            clear ht
            rintro e w2 ⟨rfl, hg2⟩
            have Hg2 := Lib.hid (Grew.then Hu1.out Ho1.out hg2)
            clear hg2
            go_wp2
            go_roundw
            case rel =>
              refine ⟨k + 1, by omega, by go_num, ?_⟩
              rw [Hft.out, Hlen.out]
              have := Hg2.out
              rw [dlen, List.append_assoc] at this
              exact this
            case measure => simp [intOf]; omega
          · have Hg := Lib.hid (show Grew b v l (forms ss) w wr by rw [List.take_of_length_le (by simpa using hkl)] at hg; exact hg)
            clear hg
            go_wp2
            go_ret
            exact HP.out _ Hg.out
end Go.Proofs.Ytcdgimapkbaboaa.TextsW
