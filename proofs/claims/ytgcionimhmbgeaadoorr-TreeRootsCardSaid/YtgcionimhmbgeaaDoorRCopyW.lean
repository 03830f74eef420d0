/-
  The builtin copy into a block that is known whole: just that block turns.
-/
import Derived.Test.YtgcionimhmbgeaaDoorRRowW
namespace Go.Proofs.YtgcionimhmbgeaaDoorR.CopyW
open Go.RowKit Mem RowW
theorem wpList_copy_new {P : Program} {w : World} {ops : Array Oper} {rest : List Oper} {o : Oper} {a : Act} {Q : Exit → Act → World → Prop} (hgd : o.guard = none) (d s : Operand) (dT sT : TypeId)
    (ho : o.op = .call { callee := .builtin .copy, args := #[d, s], argTypes := #[dT, sT] }) (elem : TypeId) (hu : P.underlying dT = some (.slice elem)) (hsz : (P.info? elem).map (·.size) = some 1)
    (dp sp : Option Addr) (dLen dCap sLen sCap : Nat) (hd : a.eval d = .slice dp dLen dCap) (hs : a.eval s = .slice sp sLen sCap)
    (g off : Nat) (cur : List Value) (t : TypeId) (hg : Row w g t cur) (cs : List Value) (hn : cs.length = Nat.min sLen dLen)
    (hpos : 0 < cs.length → dp = some ⟨g, off, none⟩ ∧ ∃ ad, sp = some ad ∧ ∀ j v, cs[j]? = some v → w.cell? (ad.add j) = some v)
    (hfit : off + cs.length ≤ cur.length) (h1 : ∀ v ∈ cs, v.oneCell' = true)
    (h : ∀ w', Hid (Row w' g t (splice cur off cs)) → Hid (Upd (fun k => k = g) w w') → wpList P ops Q rest (a.put o.dst (goInt cs.length)) w') :
    wpList P ops Q (o :: rest) a w := by
  by_cases h0 : cs.length = 0
  · obtain rfl : cs = [] := List.eq_nil_of_length_eq_zero h0
    refine wpList_copy_nothing hgd d s dT sT ho elem hu hsz dp sp dLen dCap sLen sCap hd hs (by simpa using hn.symm) ?_
    exact h w (show Row _ _ _ _ by simpa [splice] using hg) (Upd.refl _ _)
  · obtain ⟨rfl, ad, rfl, hsrc⟩ := hpos (by omega)
    refine wpList_copy_own hgd d s dT sT ho elem hu hsz g off dLen dCap ad sLen sCap hd hs cur.toArray t hg cs hn hsrc (by simpa using hfit) h1 ?_
    refine h _ (show Row _ _ _ _ from ?_) (Upd.setRow (Upd.refl _ _) _ _ (.inl rfl))
    simpa [splice] using Row.setRow (show Row w g t cur from hg) (splice cur off cs)
/-- what copy takes out of a slice of bytes -/
theorem src_of {w : World} {ao : Option Addr} {n cap k : Nat} {l : List UInt8} (h : Sl w (.slice ao n cap) l) (hk : k ≤ l.length) :
    ((l.take k).map u8).length = k ∧ (0 < ((l.take k).map u8).length → ∃ ad, ao = some ad ∧ ∀ j v, ((l.take k).map u8)[j]? = some v → w.cell? (ad.add j) = some v) := by
  have hlen : ((l.take k).map u8).length = k := by simp; omega
  refine ⟨hlen, fun hp => ?_⟩
  rw [hlen] at hp
  obtain ⟨ao', cap', h1, h2, h3, h4, h5⟩ := h
  injection h1 with e1 e2 e3
  subst e1 e3
  cases ao with
  | none => have := h4 rfl; omega
  | some ad =>
    refine ⟨ad, rfl, fun j v hv => ?_⟩
    have hj : j < k := by
      have := (List.getElem?_eq_some_iff.1 hv).1
      omega
    rw [(h5 ad rfl).2 j (by omega), ← hv, List.getElem?_map, List.getElem?_take_of_lt hj, List.getD_eq_getElem?_getD, List.getElem?_eq_getElem (by omega)]
    rfl
theorem one_of (l : List UInt8) : ∀ v ∈ l.map u8, v.oneCell' = true := by
  intro v hv
  obtain ⟨c, _, rfl⟩ := List.mem_map.1 hv
  rfl
/-- a slice is cut: its rest -/
theorem Sl.drop {w : World} {c o n cap k : Nat} {l : List UInt8} (h : Sl w (.slice (some ⟨c, o, none⟩) n cap) l) (hk : k ≤ l.length) : Sl w (.slice (some ⟨c, o + k, none⟩) (l.length - k) (cap - k)) (l.drop k) := by
  obtain ⟨ao', cap', h1, h2, h3, h4, h5⟩ := h
  injection h1 with e1 e2 e3
  subst e1 e3
  refine ⟨_, _, by rw [List.length_drop], by rw [List.length_drop]; omega, by omega, by simp, fun a ha => ?_⟩
  injection ha with ha
  subst ha
  refine ⟨rfl, fun i hi => ?_⟩
  rw [List.length_drop] at hi
  have := (h5 _ rfl).2 (k + i) (by omega)
  rw [add_none] at this ⊢
  rw [← Nat.add_assoc] at this
  rw [this]
  congr 2
  simp [List.getD_eq_getElem?_getD, List.getElem?_drop]
theorem Sl.take {w : World} {c o n cap k : Nat} {l : List UInt8} (h : Sl w (.slice (some ⟨c, o, none⟩) n cap) l) (hk : k ≤ l.length) : Sl w (.slice (some ⟨c, o, none⟩) k cap) (l.take k) := by
  obtain ⟨ao', cap', h1, h2, h3, h4, h5⟩ := h
  injection h1 with e1 e2 e3
  subst e1 e3
  have hl : (l.take k).length = k := by simp; omega
  refine ⟨_, _, by rw [hl], by omega, h3, by simp, fun a ha => ?_⟩
  injection ha with ha
  subst ha
  refine ⟨rfl, fun i hi => ?_⟩
  rw [hl] at hi
  rw [(h5 _ rfl).2 i (by omega)]
  congr 2
  simp [List.getD_eq_getElem?_getD, List.getElem?_take_of_lt hi]
end Go.Proofs.YtgcionimhmbgeaaDoorR.CopyW
