/-
  octet.Reader.Digest, Digests.
-/
import Derived.Test.YtcdgimapkbaboaaDigW
namespace Go.Proofs.Ytcdgimapkbaboaa.ReadD
open Go.RowKit Mem Width PutW WriterW ReaderW TakeW FlagW NamesW StrW TextsW RawW ReadB ReadT StepB RowW CopyW DigW
set_option linter.unusedVariables false
set_option linter.unusedSimpArgs false

/-- 32 bytes out of what was lent -/
def pad (xs : List UInt8) : List UInt8 := xs ++ List.replicate (32 - xs.length) 0
theorem next32 (l : List UInt8) (s : Nat × Int) : (nextM 32 l s).1.length = 0 ∨ (nextM 32 l s).1.length = 32 := by
  unfold nextM
  split
  · split
    · exact .inl rfl
    · right; simp; omega
  · exact .inl rfl
theorem pad_len (l : List UInt8) (s : Nat × Int) : (pad (nextM 32 l s).1).length = 32 := by
  unfold pad
  rcases next32 l s with h | h <;> simp [h]
theorem i8s : (Try.prog.info? 5).map (·.size) = some 1 := by kernel_rfl
theorem pad_splice (xs : List UInt8) (h : xs.length ≤ 32) : splice ((List.replicate 32 (0 : UInt8)).map u8) 0 (xs.map u8) = (pad xs).map u8 := by
  unfold splice pad
  rw [List.take_zero, List.nil_append, Nat.zero_add, List.length_map, List.map_append, ← List.map_drop, List.drop_replicate]

set_option maxHeartbeats 2000000 in
set_option maxRecDepth 100000 in
theorem rdigest_any (b : Nat) (v : Value) (l : List UInt8) (s : Nat × Int) (w : World) (hr : Rd w b v l s) (hl : l.length ≤ 140737488355328) :
    Calls Try.prog 92 #[.pointer (some ⟨b, 0, none⟩)] w fun e w' => e = .returned (.agg ((pad (nextM 32 l s).1).map u8).toArray) ∧ Rd w' b v l (nextM 32 l s).2 ∧ Upd (fun k => k = b) w w' := by
  have hblt := lt_of_block hr.1
  have Hvl := Lib.hid hr.2.1.lt
  obtain ⟨w2, hw2⟩ : ∃ x, x = (w.alloc (.cells A32 73)).alloc (.cells A32 73) := ⟨_, rfl⟩
  have hu2 : Upd (fun _ => False) w w2 := by rw [hw2]; exact ((Upd.refl _ _).alloc _).alloc _
  have hs2 : w2.heap.size = w.heap.size + 2 := by rw [hw2]; simp
  have hd0 : w2.heap[w.heap.size]? = some (.cells A32 73 (0, 0)) := by rw [hw2, Below.heap_alloc _ _ _ (by simp)]; exact heap_alloc_new _ _
  have hd1 : w2.heap[w.heap.size + 1]? = some (.cells A32 73 (0, 0)) := by rw [hw2]; have := heap_alloc_new (w.alloc (.cells A32 73)) (.cells A32 73); simpa using this
  have hr2 : Rd w2.drew b v l s := (hr.upd hu2 id (fun _ _ => id)).drew
  have HN := Lib.hid (next_any 32 b v l s w2.drew hr2 hl)
  have h32 := next32 l s
  have hpl := pad_len l s
  obtain ⟨m, hm⟩ : ∃ x, x = nextM 32 l s := ⟨_, rfl⟩
  have HNx : Hid (NextAt 32 b v l s w2.drew = fun e w' => ∃ sv, e = .returned sv ∧ Sl w' sv m.1 ∧ Rd w' b v l m.2 ∧ Upd (fun k => k = b) w2.drew w' ∧ ∀ k, own sv k → own v k) := by
    show _ = _
    rw [hm]; rfl
  rw [HNx.out] at HN
  rw [← hm] at h32 hpl ⊢
  obtain ⟨xs, st⟩ := m
  simp only at HN h32 hpl ⊢
  obtain ⟨Y, hY⟩ : ∃ Y, Y = ((pad xs).map u8).toArray := ⟨_, rfl⟩
  have HY1 : Hid (Y.all (·.oneCell') = true) := by show _ = _; rw [hY]; simpa using one_of (pad xs)
  have HYs : Hid ((Try.prog.info? 73).map (·.size) = some Y.size) := by show _ = _; rw [size32, hY]; simp [hpl]
  have HYl : Hid (A32.size = Y.size) := by show _ = _; rw [hY]; simp [hpl, A32]
  have HY := Lib.hid hY
  have Hw2 := Lib.hid hw2
  have Hu2 := Lib.hid hu2
  have Hd0 := Lib.hid hd0
  have Hd1 := Lib.hid hd1
  have Hs2 := Lib.hid hs2
  have H32 := Lib.hid h32
  have hz := zero32
  clear hr hu2 hs2 hd0 hd1 hr2 h32 hpl hm hY HNx
  go_enter Try.func92, Try.ntmps92
  go_upto_region 2 with fail
  rw [← hw2]
  clear hw2
  go_region_law (first
    | (go_simp; go_at_call 46; refine HN.out.mono ?_; rintro e w3 ⟨sv, rfl, g1, g2, g3, g4⟩; obtain ⟨sao, scap, rfl, _⟩ := id g1; have HG1 := Lib.hid g1; have HG2 := Lib.hid g2; have HG3 := Lib.hid g3; have HD1 : Hid (w3.heap[w.heap.size + 1]? = some (.cells ((List.replicate 32 (0 : UInt8)).map Mem.u8).toArray 73 (0, 0))) := (g3.block (w.heap.size + 1) (by have := Hs2.out; simp; omega) (by omega)).trans Hd1.out; have HSrc := Lib.hid (src_of g1 (Nat.le_refl xs.length)); rw [List.take_length] at HSrc; clear g1 g2 g3 g4)
    | ((refine step_copy_splice (by rfl) _ _ 30 30 (by rfl) 5 Try.underlying30 i8s (some ⟨w.heap.size + 1, 0, none⟩) sao 32 32 xs.length scap (by rfl) (by rfl) (w.heap.size + 1) 0 ((List.replicate 32 (0 : UInt8)).map Mem.u8) 73 HD1.out (xs.map Mem.u8) (by rw [HSrc.out.1]; rcases H32.out with h | h <;> rw [h] <;> rfl) (fun hp => ⟨rfl, HSrc.out.2 hp⟩) (by rw [HSrc.out.1, List.length_map, List.length_replicate]; rcases H32.out with h | h <;> omega) (one_of xs) (w.heap.size + 1) w3 (Below.refl _ _) (Nat.le_refl _) ?_); intro w4 Hg4 Hb4))
  have hle32 : xs.length ≤ 32 := by rcases H32.out with h | h <;> omega
  rw [pad_splice xs hle32] at Hg4
  have HY4 : Hid (w4.heap[w.heap.size + 1]? = some (.cells Y 73 (0, 0))) := by show _ = _; rw [HY.out]; exact Hg4.out
  have hs3 : w.heap.size + 2 ≤ w3.heap.size := by have := HG3.out.size; have := Hs2.out; simp at *; omega
  have HY0 : Hid (w4.heap[w.heap.size]? = some (.cells A32 73 (0, 0))) := (Hb4.block _ (by omega)).trans ((HG3.out.block _ (by have := Hs2.out; simp; omega) (by omega)).trans Hd0.out)
  have hu4 : Upd (fun k => w.heap.size ≤ k) w3 w4 := ⟨Hb4.os, Hb4.tape, Hb4.output, Hb4.size, fun k _ hk => Hb4.block k (by omega)⟩
  have HU3 : Hid (Upd (fun k => k = b) w w3) := ((Hu2.out.mono (fun _ _ e => e.elim)).drew).trans (HG3.out.mono fun k _ e => .inl e)
  have HU4 : Hid (Upd (fun k => k = b) w w4) := HU3.out.trans (hu4.mono fun k _ e => .inr e)
  have HR4 : Hid (Rd w4 b v l st) := HG2.out.upd hu4 (by omega) (fun k hk e => by have := (Hvl.out k hk).2; omega)
  clear Hb4 Hg4 hu4 HG1 HG2 HG3 HD1 HSrc HN hle32 hs3
  go_wp2_with (first
    | ((with_reducible refine wpList_load_row (o := ⟨some 8, _, _, _, _, _⟩) ?_ _ (.tmp 3) ?_ (w.heap.size + 1) ?_ 73 Y (0, 0) _ HY4.out Try.underlying73 ?_ HYs.out ?_); rfl; rfl; rfl; rfl)
    | ((with_reducible refine wpList_store_new (o := ⟨none, .store 73 (.tmp 2) (.tmp 8), _, _, _, _⟩) ?_ _ (.tmp 2) (.tmp 8) ?_ w.heap.size Y ?_ ?_ 73 A32 HY0.out HYs.out HYl.out HY1.out ?_); rfl; rfl; rfl; rfl; intro w5 Hg5 Hu5))
  refine bodyPost_ret (results_cell_row rfl _ _ w.heap.size 73 Y (0, 0) _ rfl Hg5.out Try.underlying73 rfl HYs.out) rfl ?_
  exact ⟨by rw [← HY.out], HR4.out.upd Hu5.out (by omega) (fun k hk e => by have := (Hvl.out k hk).2; omega), HU4.out.trans (Hu5.out.mono fun k _ e => .inr (by omega))⟩
end Go.Proofs.Ytcdgimapkbaboaa.ReadD
