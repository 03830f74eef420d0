/-
  What is laid and cut short is refused, and the reader stays at its begin: each form of octet, on lists.
-/
import Derived.Test.YtcdgimapkbaboaaBackL
namespace Go.Proofs.Ytcdgimapkbaboaa.CutL
open Go.RowKit Mem PutW TakeW FlagW ReadB ReadT ReadG StrW RawW TextsW ForthL LaysD AgainB BackL
set_option linter.unusedVariables false
set_option linter.unusedSimpArgs false

/-- from a on l is a piece of x -/
def Pre (l : List UInt8) (a : Nat) (x : List UInt8) : Prop := ∀ n, a + n ≤ l.length → seg l a n = x.take n
theorem Pre.of_take {l x : List UInt8} {a n : Nat} (h : seg l a x.length = x) (hn : n ≤ a + x.length) : Pre (l.take n) a x := by
  intro m hm
  have h0 : m ≤ x.length := by
    have := List.length_take_le n l
    omega
  have h1 : a + m ≤ n := by
    have := List.length_take_le n l
    omega
  have e : seg (l.take n) a m = seg l a m := by
    unfold seg
    rw [List.drop_take, List.take_take, Nat.min_eq_left (by omega)]
  rw [e]
  conv => rhs; rw [← h]
  unfold seg
  rw [List.take_take, Nat.min_eq_left h0]
theorem Pre.head {l x y : List UInt8} {a : Nat} (h : Pre l a (x ++ y)) (hl : a + x.length ≤ l.length) : seg l a x.length = x ∧ Pre l (a + x.length) y := by
  have h1 : seg l a x.length = x := by
    have := h x.length hl
    rwa [List.take_left] at this
  refine ⟨h1, fun n hn => ?_⟩
  have h2 := h (x.length + n) (by omega)
  rw [seg_add, h1, List.take_append, List.take_of_length_le (by omega), Nat.add_sub_cancel_left] at h2
  exact List.append_cancel_left h2
theorem cnt_cut {W : Nat} {top most : Int} {l : List UInt8} {a : Nat} {t : List UInt8} (he : terr t.length most top = 0) (ht : t.length < 256 ^ W) (hp : Pre l a (be (t.length : Int) W ++ t)) (ha : a ≤ l.length) (hs : l.length < a + (W + t.length)) :
    (cntM a (takeM W l (a, 0)).1 (bnd most top) l (takeM W l (a, 0)).2).2 = (a, 8) := by
  have hb : ¬ bnd most top < (t.length : Int) := by
    intro hb
    unfold terr at he
    rw [if_pos hb] at he
    cases he
  by_cases h : a + W ≤ l.length
  · obtain ⟨h1, _⟩ := hp.head (by rw [be_length]; exact h)
    rw [be_length] at h1
    rw [take_back h1 h, Nat.mod_eq_of_lt ht]
    have e : nextM (t.length : Int) l (a + W, 0) = ([], (a + W, 8)) := by
      unfold nextM
      rw [if_pos rfl, if_pos]
      simp
      omega
    unfold cntM
    rw [if_neg hb]
    simp only [e]
    rfl
  · rw [takeM_short (by omega)]
    have hb0 : ¬ bnd most top < ((0 : Nat) : Int) := by unfold bnd; omega
    unfold cntM
    rw [if_neg hb0]
    simp [nextM]
theorem loop_cut {l : List UInt8} {each : Int} (frm : Nat) : ∀ (ss acc : List ByteArray) (p : Nat), TextsW.Good (acc ++ ss) each (acc ++ ss).length → Pre l p (cat (ss.map form)) → p ≤ l.length → l.length < p + (cat (ss.map form)).length →
    (tsLoop frm each l ss.length acc (p, 0)).2 = (frm, 8)
  | [], acc, p, _, _, ha, hs => by simp [cat] at hs; omega
  | s :: ss, acc, p, hg, hp, ha, hs => by
    have hcat : cat ((s :: ss).map form) = form s ++ cat (ss.map form) := rfl
    rw [hcat] at hp hs
    rw [List.length_append] at hs
    have hlt : acc.length < (acc ++ s :: ss).length := by simp
    obtain ⟨hlong, hlow⟩ := hg acc.length hlt
    have hat : (acc ++ s :: ss).getD acc.length ByteArray.empty = s := by simp [List.getD_eq_getElem?_getD]
    have hsz : s.data.toList.length = s.size := rfl
    have hb : ¬ bnd each 65535 < (s.size : Int) := by
      unfold longB at hlong
      rw [hat] at hlong
      simpa using hlong
    have hb2 : s.size ≤ 65535 := by unfold bnd at hb; omega
    have hf : form s = be (s.data.toList.length : Int) 2 ++ s.data.toList := rfl
    have hfl : (form s).length = 2 + s.size := by rw [hf, List.length_append, be_length, hsz]
    have hte : terr s.data.toList.length each 65535 = 0 := by unfold terr; rw [hsz, if_neg hb]
    show (tsLoop frm each l (ss.length + 1) acc (p, 0)).2 = _
    unfold tsLoop
    by_cases hw : p + (form s).length ≤ l.length
    · obtain ⟨h1, h2⟩ := hp.head hw
      have e : txtM each l (p, 0) = (s.data.toList, (p + 2 + s.data.toList.length, 0)) := cnt_back hte (by rw [hsz]; omega) (by rw [← hf]; exact h1) (by rw [← hf]; omega)
      rw [e, if_pos rfl, tx_data]
      have hn : ¬ (acc ≠ [] ∧ leB s (acc.getD (acc.length - 1) ByteArray.empty) = true) := by
        rintro ⟨hne, hle⟩
        have h0 : 0 < acc.length := List.length_pos_iff.2 hne
        unfold lowB at hlow
        rw [hat, show (acc ++ s :: ss).getD (acc.length - 1) ByteArray.empty = acc.getD (acc.length - 1) ByteArray.empty by
          rw [List.getD_eq_getElem?_getD, List.getElem?_append_left (by omega), List.getD_eq_getElem?_getD], hle] at hlow
        simp [h0] at hlow
      rw [if_neg hn]
      have h3 : p + 2 + s.data.toList.length = p + (form s).length := by rw [hfl, hsz]; omega
      rw [h3]
      exact loop_cut frm ss (acc ++ [s]) (p + (form s).length) (by simpa [List.append_assoc] using hg) h2 hw (by omega)
    · have hp1 : Pre l p (form s) := fun n hn => by
        rw [hp n hn, List.take_append_of_le_length (by omega)]
      have e : (txtM each l (p, 0)).2 = (p, 8) := cnt_cut hte (by rw [hsz]; omega) (by rw [← hf]; exact hp1) ha (by rw [hsz]; omega)
      rw [e]
      simp
theorem ts_cut {most each : Int} {l : List UInt8} {a : Nat} {ss : List ByteArray} (he : tsErr ss most each = 0) (hp : Pre l a (forms ss)) (ha : a ≤ l.length) (hs : l.length < a + (forms ss).length) :
    (tsM most each l (a, 0)).2 = (a, 8) := by
  unfold tsErr at he
  by_cases hb : bnd most 65535 < (ss.length : Int)
  · rw [if_pos hb] at he; cases he
  · rw [if_neg hb] at he
    have hg := good_of he
    have hb2 : ss.length ≤ 65535 := by unfold bnd at hb; omega
    unfold forms at hp hs
    rw [List.length_append, be_length] at hs
    unfold tsM
    by_cases h : a + 2 ≤ l.length
    · obtain ⟨h1, h2⟩ := hp.head (by rw [be_length]; exact h)
      rw [be_length] at h1 h2
      rw [take_back h1 h, Nat.mod_eq_of_lt (show ss.length < 256 ^ 2 by omega), if_neg hb]
      exact loop_cut a ss [] (a + 2) (by simpa using hg) h2 h (by omega)
    · rw [takeM_short (by omega)]
      have hb0 : ¬ bnd most 65535 < ((0 : Nat) : Int) := by unfold bnd; omega
      rw [if_neg hb0]
      rfl
theorem cut (o : OpD) (l : List UInt8) (a : Nat) (he : errD o = 0) (hp : Pre l a (newsD o)) (ha : a ≤ l.length) (hs : l.length < a + (newsD o).length)
    (hm : o.many = if o.k = 6 then (o.ds.length : Int) else (o.xs.length : Int)) (h32 : ∀ d ∈ o.ds, d.length = 32) :
    stepM o.k o.most o.each o.many l (a, 0) = (a, 8) := by
  obtain ⟨k, n, many, y, ds, xs, st, ss, most, each⟩ := o
  simp only at hm h32 ⊢
  by_cases hk : ∀ i : Int, 1 ≤ i → i ≤ 10 → k ≠ i
  · have a1 := hk 1 (by decide) (by decide)
    have a2 := hk 2 (by decide) (by decide)
    have a3 := hk 3 (by decide) (by decide)
    have a4 := hk 4 (by decide) (by decide)
    have a5 := hk 5 (by decide) (by decide)
    have a6 := hk 6 (by decide) (by decide)
    have a7 := hk 7 (by decide) (by decide)
    have a8 := hk 8 (by decide) (by decide)
    have a9 := hk 9 (by decide) (by decide)
    have a10 := hk 10 (by decide) (by decide)
    simp [newsD, a1, a2, a3, a4, a5, a6, a7, a8, a9, a10] at hs
    omega
  · have h : k = 1 ∨ k = 2 ∨ k = 3 ∨ k = 4 ∨ k = 5 ∨ k = 6 ∨ k = 7 ∨ k = 8 ∨ k = 9 ∨ k = 10 := by
      have h2 : ¬ (k < 1 ∨ 10 < k) := fun h => hk fun i h1 h2 e => by omega
      omega
    clear hk
    rcases h with rfl | rfl | rfl | rfl | rfl | rfl | rfl | rfl | rfl | rfl
    · have hs' : l.length < a + (be ((n % 256 : Nat) : Int) 1).length := hs
      rw [be_length] at hs'
      exact congrArg Prod.snd (takeM_short hs')
    · have hs' : l.length < a + (be ((n % 65536 : Nat) : Int) 2).length := hs
      rw [be_length] at hs'
      exact congrArg Prod.snd (takeM_short hs')
    · have hs' : l.length < a + (be ((n % 4294967296 : Nat) : Int) 4).length := hs
      rw [be_length] at hs'
      exact congrArg Prod.snd (takeM_short hs')
    · have hs' : l.length < a + (be (n : Int) 8).length := hs
      rw [be_length] at hs'
      exact congrArg Prod.snd (takeM_short hs')
    · have hs' : l.length < a + 1 := hs
      have e : (flagM l (a, 0)).2 = (a, 8) := by
        unfold flagM
        rw [takeM_short hs']
        rfl
      exact e
    · have hcl := cat_len32 ds h32
      have hs' : l.length < a + (cat ds).length := hs
      have hmany : many = (ds.length : Int) := hm
      subst hmany
      have e : (dgsM (ds.length : Int) l (a, 0)).2 = (a, 8) := by
        unfold dgsM
        rw [if_pos rfl, if_pos]
        simp
        omega
      exact e
    · have hmany : many = (xs.length : Int) := hm
      subst hmany
      have hs' : l.length < a + xs.length := hs
      have e : (nextM (xs.length : Int) l (a, 0)).2 = (a, 8) := by
        unfold nextM
        rw [if_pos rfl, if_pos]
        simp
        omega
      exact e
    · have he' : terr st.length most 65535 = 0 := he
      have ht : st.length ≤ 65535 := by
        by_cases hbn : bnd most 65535 < (st.length : Int)
        · unfold terr at he'; rw [if_pos hbn] at he'; cases he'
        · unfold bnd at hbn; omega
      have hs' : l.length < a + (be (st.length : Int) 2 ++ st).length := hs
      rw [List.length_append, be_length] at hs'
      exact (cnt_cut he' (by omega) (show Pre l a (be (st.length : Int) 2 ++ st) from hp) ha hs' : (txtM most l (a, 0)).2 = (a, 8))
    · have he' : terr xs.length most 2147483647 = 0 := he
      have ht : xs.length ≤ 2147483647 := by
        by_cases hbn : bnd most 2147483647 < (xs.length : Int)
        · unfold terr at he'; rw [if_pos hbn] at he'; cases he'
        · unfold bnd at hbn; omega
      have hs' : l.length < a + (be (xs.length : Int) 4 ++ xs).length := hs
      rw [List.length_append, be_length] at hs'
      exact (cnt_cut he' (by omega) (show Pre l a (be (xs.length : Int) 4 ++ xs) from hp) ha hs' : (bytM most l (a, 0)).2 = (a, 8))
    · exact ts_cut (show tsErr ss most each = 0 from he) hp ha hs
end Go.Proofs.Ytcdgimapkbaboaa.CutL
