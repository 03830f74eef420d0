/-
  What is laid is taken again as it is: each form of octet, on lists.
-/
import Derived.Test.YtcdgimapkbaboaaAgainB
namespace Go.Proofs.Ytcdgimapkbaboaa.BackL
open Go.RowKit Mem PutW TakeW FlagW ReadB ReadT ReadG StrW RawW TextsW ForthL LaysD AgainB
set_option linter.unusedVariables false
set_option linter.unusedSimpArgs false

theorem byteAt_nat (m k : Nat) : (byteAt (m : Int) k).toNat = m / 256 ^ k % 256 := by
  unfold byteAt
  rw [Int.toNat_natCast, UInt8.toNat_ofNat']
  omega
theorem val_be (m : Nat) : ∀ W, val (be (m : Int) W) = m % 256 ^ W
  | 0 => by simp [be, val, Nat.mod_one]
  | W + 1 => by
    show val (byteAt (m : Int) W :: be (m : Int) W) = _
    rw [val_cons, be_length, val_be m W, byteAt_nat, Nat.pow_succ, Nat.mod_mul, Nat.add_comm, Nat.mul_comm]
theorem seg_split {l : List UInt8} {a : Nat} {x y : List UInt8} (h : seg l a (x ++ y).length = x ++ y) (hl : a + (x ++ y).length ≤ l.length) : seg l a x.length = x ∧ seg l (a + x.length) y.length = y := by
  rw [List.length_append] at h hl
  rw [seg_add] at h
  exact List.append_inj h (seg_len l a x.length (by omega))
theorem take_back {W m : Nat} {l : List UInt8} {a : Nat} (h : seg l a W = be (m : Int) W) (hl : a + W ≤ l.length) : takeM W l (a, 0) = (m % 256 ^ W, (a + W, 0)) := by
  rw [takeM_ok hl]
  have e : (l.drop a).take W = be (m : Int) W := h
  rw [e, val_be]
theorem next_back {l : List UInt8} {a : Nat} {x : List UInt8} (h : seg l a x.length = x) (hl : a + x.length ≤ l.length) : nextM (x.length : Int) l (a, 0) = (x, (a + x.length, 0)) := by
  unfold nextM
  rw [if_pos rfl, if_neg (by simp; omega)]
  have e : (l.drop a).take (x.length : Int).toNat = x := by rw [Int.toNat_natCast]; exact h
  rw [e, Int.toNat_natCast]
theorem cnt_back {W : Nat} {top most : Int} {l : List UInt8} {a : Nat} {t : List UInt8} (he : terr t.length most top = 0) (ht : t.length < 256 ^ W) (h : seg l a (be (t.length : Int) W ++ t).length = be (t.length : Int) W ++ t) (hl : a + (be (t.length : Int) W ++ t).length ≤ l.length) :
    cntM a (takeM W l (a, 0)).1 (bnd most top) l (takeM W l (a, 0)).2 = (t, (a + W + t.length, 0)) := by
  obtain ⟨h1, h2⟩ := seg_split h hl
  rw [be_length] at h1 h2
  rw [List.length_append, be_length] at hl
  rw [take_back h1 (by omega), Nat.mod_eq_of_lt ht]
  have hb : ¬ bnd most top < (t.length : Int) := by
    intro hb
    unfold terr at he
    rw [if_pos hb] at he
    cases he
  unfold cntM
  rw [if_neg hb]
  have e := next_back h2 (by omega)
  rw [e, if_pos rfl]
theorem chunks_back {l : List UInt8} : ∀ (ds : List (List UInt8)) (a : Nat), (∀ d ∈ ds, d.length = 32) → seg l a (32 * ds.length) = cat ds → a + 32 * ds.length ≤ l.length → ∀ i (hi : i < ds.length), (l.drop (a + 32 * i)).take 32 = ds[i]
  | [], _, _, _, _, i, hi => absurd hi (Nat.not_lt_zero _)
  | d :: ds, a, h32, h, hl, i, hi => by
    have hd := h32 d (List.mem_cons_self ..)
    have hc := cat_len32 ds (fun x hx => h32 x (List.mem_cons_of_mem _ hx))
    have hlen : (d :: ds).length = ds.length + 1 := rfl
    have h' : seg l a (d ++ cat ds).length = d ++ cat ds := by
      rw [List.length_append, hd, hc, show 32 + 32 * ds.length = 32 * (d :: ds).length by rw [hlen]; omega]
      exact h
    obtain ⟨h1, h2⟩ := seg_split h' (by rw [List.length_append, hd, hc]; rw [hlen] at hl; omega)
    rw [hd] at h1 h2
    cases i with
    | zero => exact h1
    | succ i =>
      rw [hc] at h2
      have h3 := chunks_back ds (a + 32) (fun x hx => h32 x (List.mem_cons_of_mem _ hx)) h2 (by rw [hlen] at hl; omega) i (by simpa using hi)
      rw [show a + 32 * (i + 1) = a + 32 + 32 * i by omega]
      simpa using h3
theorem dgs_back {l : List UInt8} {a : Nat} {ds : List (List UInt8)} (h32 : ∀ d ∈ ds, d.length = 32) (h : seg l a (cat ds).length = cat ds) (hl : a + (cat ds).length ≤ l.length) : dgsM (ds.length : Int) l (a, 0) = (ds, (a + (cat ds).length, 0)) := by
  have hc := cat_len32 ds h32
  rw [hc] at h hl
  unfold dgsM
  rw [if_pos rfl, if_neg (by simp; omega)]
  have e : chunks l a ds.length = ds := by
    unfold chunks
    apply List.ext_getElem
    · simp
    · intro i h1 h2
      simp only [List.getElem_map, List.getElem_range]
      exact chunks_back ds a h32 h hl i h2
  show (chunks l a (ds.length : Int).toNat, (a + 32 * (ds.length : Int).toNat, (0 : Int))) = _
  rw [Int.toNat_natCast, e, hc]
theorem tx_data (s : ByteArray) : tx s.data.toList = s := by simp [tx]
theorem loop_back {l : List UInt8} {each : Int} (frm : Nat) : ∀ (ss acc : List ByteArray) (p : Nat), TextsW.Good (acc ++ ss) each (acc ++ ss).length → seg l p (cat (ss.map form)).length = cat (ss.map form) → p + (cat (ss.map form)).length ≤ l.length →
    tsLoop frm each l ss.length acc (p, 0) = (acc ++ ss, (p + (cat (ss.map form)).length, 0))
  | [], acc, p, _, _, _ => by simp [tsLoop, cat]
  | s :: ss, acc, p, hg, h, hl => by
    have hcat : cat ((s :: ss).map form) = form s ++ cat (ss.map form) := rfl
    rw [hcat] at h hl ⊢
    obtain ⟨h1, h2⟩ := seg_split h hl
    rw [List.length_append] at hl
    have hlt : acc.length < (acc ++ s :: ss).length := by simp
    obtain ⟨hlong, hlow⟩ := hg acc.length hlt
    have hat : (acc ++ s :: ss).getD acc.length ByteArray.empty = s := by simp [List.getD_eq_getElem?_getD]
    have hsz : s.data.toList.length = s.size := rfl
    have hb : ¬ bnd each 65535 < (s.size : Int) := by
      unfold longB at hlong
      rw [hat] at hlong
      simpa using hlong
    have hb2 : s.size ≤ 65535 := by unfold bnd at hb; omega
    have hf : form s = be (s.data.toList.length : Int) 2 ++ s.data.toList := rfl
    have hfl : (form s).length = 2 + s.size := by rw [hf, List.length_append, be_length, hsz]
    have e : txtM each l (p, 0) = (s.data.toList, (p + 2 + s.data.toList.length, 0)) := cnt_back (by unfold terr; rw [hsz, if_neg hb]) (by rw [hsz]; omega) (by rw [← hf]; exact h1) (by rw [← hf]; omega)
    show tsLoop frm each l (ss.length + 1) acc (p, 0) = _
    unfold tsLoop
    rw [e, if_pos rfl, tx_data]
    have hn : ¬ (acc ≠ [] ∧ leB s (acc.getD (acc.length - 1) ByteArray.empty) = true) := by
      rintro ⟨hne, hle⟩
      have h0 : 0 < acc.length := List.length_pos_iff.2 hne
      unfold lowB at hlow
      rw [hat, show (acc ++ s :: ss).getD (acc.length - 1) ByteArray.empty = acc.getD (acc.length - 1) ByteArray.empty by
        rw [List.getD_eq_getElem?_getD, List.getElem?_append_left (by omega), List.getD_eq_getElem?_getD], hle] at hlow
      simp [h0] at hlow
    rw [if_neg hn]
    have h3 : p + 2 + s.data.toList.length = p + (form s).length := by rw [hfl, hsz]; omega
    rw [h3]
    have ih := loop_back frm ss (acc ++ [s]) (p + (form s).length) (by simpa [List.append_assoc] using hg) h2 (by omega)
    rw [ih, List.length_append]
    simp [List.append_assoc, Nat.add_assoc]
theorem good_of {ss : List ByteArray} {each : Int} (h : rowErr ss each = 0) : TextsW.Good ss each ss.length := by
  unfold rowErr at h
  cases hf : (List.range ss.length).find? (fun i => longB ss each i || lowB ss i) with
  | some i =>
    rw [hf] at h
    simp only at h
    split at h <;> cases h
  | none =>
    rw [List.find?_range_eq_none] at hf
    intro j hj
    have h2 := hf j (by simpa using hj)
    simp only [Bool.not_eq_true', Bool.or_eq_false_iff] at h2
    exact h2
theorem ts_back {most each : Int} {l : List UInt8} {a : Nat} {ss : List ByteArray} (he : tsErr ss most each = 0) (h : seg l a (forms ss).length = forms ss) (hl : a + (forms ss).length ≤ l.length) :
    tsM most each l (a, 0) = (ss, (a + (forms ss).length, 0)) ∧ ss.length ≤ 65535 ∧ ∀ s ∈ ss, s.size ≤ 65535 := by
  unfold tsErr at he
  by_cases hb : bnd most 65535 < (ss.length : Int)
  · rw [if_pos hb] at he; cases he
  · rw [if_neg hb] at he
    have hg := good_of he
    have hb2 : ss.length ≤ 65535 := by unfold bnd at hb; omega
    unfold forms at h hl ⊢
    obtain ⟨h1, h2⟩ := seg_split h hl
    rw [be_length] at h1 h2
    rw [List.length_append, be_length] at hl
    refine ⟨?_, hb2, fun s hs => ?_⟩
    · unfold tsM
      rw [take_back h1 (by omega), Nat.mod_eq_of_lt (show ss.length < 256 ^ 2 by omega), if_neg hb]
      have e := loop_back (l := l) (each := each) ((a, (0 : Int)) : Nat × Int).1 ss [] (a + 2) (by simpa using hg) h2 (by omega)
      rw [e, List.nil_append, List.length_append, be_length, Nat.add_assoc]
    · obtain ⟨i, hi, rfl⟩ := List.getElem_of_mem hs
      have h3 := (hg i hi).1
      unfold longB at h3
      rw [List.getD_eq_getElem?_getD, List.getElem?_eq_getElem hi] at h3
      simp only [Option.getD_some, decide_eq_false_iff_not] at h3
      unfold bnd at h3
      omega
theorem back (o : OpD) (l : List UInt8) (a : Nat) (hn : o.n < 18446744073709551616) (he : errD o = 0) (hseg : seg l a (newsD o).length = newsD o) (hl : a + (newsD o).length ≤ l.length)
    (hm : o.many = if o.k = 6 then (o.ds.length : Int) else (o.xs.length : Int)) (h32 : ∀ d ∈ o.ds, d.length = 32) (hb : l.length ≤ 140737488355328) :
    stepM o.k o.most o.each o.many l (a, 0) = (a + (newsD o).length, 0) ∧ Vals o o.most o.each o.many l (a, 0) := by
  obtain ⟨k, n, many, y, ds, xs, st, ss, most, each⟩ := o
  simp only at hn hm h32 ⊢
  by_cases hk : ∀ i : Int, 1 ≤ i → i ≤ 10 → k ≠ i
  · have a1 := hk 1 (by decide) (by decide)
    have a2 := hk 2 (by decide) (by decide)
    have a3 := hk 3 (by decide) (by decide)
    have a4 := hk 4 (by decide) (by decide)
    have a5 := hk 5 (by decide) (by decide)
    have a6 := hk 6 (by decide) (by decide)
    have a7 := hk 7 (by decide) (by decide)
    have a8 := hk 8 (by decide) (by decide)
    have a9 := hk 9 (by decide) (by decide)
    have a10 := hk 10 (by decide) (by decide)
    refine ⟨by simp [stepM, newsD, a1, a2, a3, a4, a5, a6, a7, a8, a9, a10], ?_⟩
    constructor <;> intro h0 <;> first | exact absurd h0 a1 | exact absurd h0 a2 | exact absurd h0 a3 | exact absurd h0 a4 | exact absurd h0 a5 | exact absurd h0 a6 | exact absurd h0 a7 | exact absurd h0 a8 | exact absurd h0 a9 | exact absurd h0 a10
  · have h : k = 1 ∨ k = 2 ∨ k = 3 ∨ k = 4 ∨ k = 5 ∨ k = 6 ∨ k = 7 ∨ k = 8 ∨ k = 9 ∨ k = 10 := by
      have h2 : ¬ (k < 1 ∨ 10 < k) := fun h => hk fun i h1 h2 e => by omega
      omega
    clear hk
    rcases h with rfl | rfl | rfl | rfl | rfl | rfl | rfl | rfl | rfl | rfl
    · have hs : seg l a (be ((n % 256 : Nat) : Int) 1).length = be ((n % 256 : Nat) : Int) 1 := hseg
      have hl' : a + (be ((n % 256 : Nat) : Int) 1).length ≤ l.length := hl
      rw [be_length] at hs hl'
      have e := take_back hs hl'
      rw [Nat.mod_eq_of_lt (show n % 256 < 256 ^ 1 by omega)] at e
      have hlen : (newsD ⟨1, n, many, y, ds, xs, st, ss, most, each⟩).length = 1 := be_length _ _
      rw [hlen]
      exact ⟨congrArg Prod.snd e, by constructor <;> intro h0 <;> first | (simp at h0; done) | exact congrArg Prod.fst e⟩
    · have hs : seg l a (be ((n % 65536 : Nat) : Int) 2).length = be ((n % 65536 : Nat) : Int) 2 := hseg
      have hl' : a + (be ((n % 65536 : Nat) : Int) 2).length ≤ l.length := hl
      rw [be_length] at hs hl'
      have e := take_back hs hl'
      rw [Nat.mod_eq_of_lt (show n % 65536 < 256 ^ 2 by omega)] at e
      have hlen : (newsD ⟨2, n, many, y, ds, xs, st, ss, most, each⟩).length = 2 := be_length _ _
      rw [hlen]
      exact ⟨congrArg Prod.snd e, by constructor <;> intro h0 <;> first | (simp at h0; done) | exact congrArg Prod.fst e⟩
    · have hs : seg l a (be ((n % 4294967296 : Nat) : Int) 4).length = be ((n % 4294967296 : Nat) : Int) 4 := hseg
      have hl' : a + (be ((n % 4294967296 : Nat) : Int) 4).length ≤ l.length := hl
      rw [be_length] at hs hl'
      have e := take_back hs hl'
      rw [Nat.mod_eq_of_lt (show n % 4294967296 < 256 ^ 4 by omega)] at e
      have hlen : (newsD ⟨3, n, many, y, ds, xs, st, ss, most, each⟩).length = 4 := be_length _ _
      rw [hlen]
      exact ⟨congrArg Prod.snd e, by constructor <;> intro h0 <;> first | (simp at h0; done) | exact congrArg Prod.fst e⟩
    · have hs : seg l a (be ((n : Nat) : Int) 8).length = be ((n : Nat) : Int) 8 := hseg
      have hl' : a + (be ((n : Nat) : Int) 8).length ≤ l.length := hl
      rw [be_length] at hs hl'
      have e := take_back hs hl'
      rw [Nat.mod_eq_of_lt (show n < 256 ^ 8 by omega)] at e
      have hlen : (newsD ⟨4, n, many, y, ds, xs, st, ss, most, each⟩).length = 8 := be_length _ _
      rw [hlen]
      exact ⟨congrArg Prod.snd e, by constructor <;> intro h0 <;> first | (simp at h0; done) | exact congrArg Prod.fst e⟩
    · have hs : seg l a 1 = [if y = true then 1 else 0] := hseg
      have hl' : a + 1 ≤ l.length := hl
      have e : takeM 1 l (a, 0) = (if y = true then 1 else 0, (a + 1, 0)) := by
        rw [takeM_ok hl']
        have e2 : (l.drop a).take 1 = [if y = true then 1 else 0] := hs
        rw [e2]
        cases y <;> rfl
      have e3 : flagM l (a, 0) = (y, (a + 1, 0)) := by
        unfold flagM
        rw [e]
        cases y <;> rfl
      exact ⟨congrArg Prod.snd e3, by constructor <;> intro h0 <;> first | (simp at h0; done) | exact congrArg Prod.fst e3⟩
    · have hcl := cat_len32 ds h32
      have hl' : a + (cat ds).length ≤ l.length := hl
      have hmany : many = (ds.length : Int) := hm
      subst hmany
      have e := dgs_back (a := a) h32 (show seg l a (cat ds).length = cat ds from hseg) hl'
      exact ⟨congrArg Prod.snd e, by constructor <;> intro h0 <;> first | (simp at h0; done) | exact congrArg Prod.fst e | exact (show ds.length ≤ _ by omega)⟩
    · have hmany : many = (xs.length : Int) := hm
      subst hmany
      have e := next_back (a := a) (show seg l a xs.length = xs from hseg) hl
      exact ⟨congrArg Prod.snd e, by constructor <;> intro h0 <;> first | (simp at h0; done) | exact congrArg Prod.fst e⟩
    · have he' : terr st.length most 65535 = 0 := he
      have ht : st.length ≤ 65535 := by
        by_cases hbn : bnd most 65535 < (st.length : Int)
        · unfold terr at he'; rw [if_pos hbn] at he'; cases he'
        · unfold bnd at hbn; omega
      have e : txtM most l (a, 0) = (st, (a + 2 + st.length, 0)) := cnt_back he' (by omega) (show seg l a (be (st.length : Int) 2 ++ st).length = be (st.length : Int) 2 ++ st from hseg) hl
      have hlen : (newsD ⟨8, n, many, y, ds, xs, st, ss, most, each⟩).length = 2 + st.length := by
        show (be (st.length : Int) 2 ++ st).length = _
        rw [List.length_append, be_length]
      rw [hlen, ← Nat.add_assoc]
      exact ⟨congrArg Prod.snd e, by constructor <;> intro h0 <;> first | (simp at h0; done) | exact congrArg Prod.fst e⟩
    · have he' : terr xs.length most 2147483647 = 0 := he
      have ht : xs.length ≤ 2147483647 := by
        by_cases hbn : bnd most 2147483647 < (xs.length : Int)
        · unfold terr at he'; rw [if_pos hbn] at he'; cases he'
        · unfold bnd at hbn; omega
      have e : bytM most l (a, 0) = (xs, (a + 4 + xs.length, 0)) := cnt_back he' (by omega) (show seg l a (be (xs.length : Int) 4 ++ xs).length = be (xs.length : Int) 4 ++ xs from hseg) hl
      have hlen : (newsD ⟨9, n, many, y, ds, xs, st, ss, most, each⟩).length = 4 + xs.length := by
        show (be (xs.length : Int) 4 ++ xs).length = _
        rw [List.length_append, be_length]
      rw [hlen, ← Nat.add_assoc]
      exact ⟨congrArg Prod.snd e, by constructor <;> intro h0 <;> first | (simp at h0; done) | exact congrArg Prod.fst e⟩
    · obtain ⟨e, g1, g2⟩ := ts_back (most := most) (each := each) (a := a) (show tsErr ss most each = 0 from he) (show seg l a (forms ss).length = forms ss from hseg) hl
      exact ⟨congrArg Prod.snd e, by constructor <;> intro h0 <;> first | (simp at h0; done) | exact congrArg Prod.fst e | exact (show ss.length ≤ _ by omega) | exact g2⟩
end Go.Proofs.Ytcdgimapkbaboaa.BackL
