/- The walk over what must be in any case (chacha). -/
import Derived.Test.YtgfpoedgbhfkaaaChaC
import Derived.Test.YtgfpoedgbhfkaaaShown
import Derived.Deep.WholeRow
namespace Go.Proofs.Ytgfpoedgbhfkaaa
set_option linter.unusedVariables false
open Go.RowKit

theorem zero_block : at8 (blk (List.replicate 32 0) 0#32 (List.replicate 12 0)) 0 = 0x76 ∧ at8 (blk (List.replicate 32 0) 0#32 (List.replicate 12 0)) 1 = 0xb8 ∧ at8 (blk (List.replicate 32 0) 0#32 (List.replicate 12 0)) 2 = 0xe0 ∧
    at8 (blk (List.replicate 32 0) 0#32 (List.replicate 12 0)) 3 = 0xad ∧ at8 (blk (List.replicate 32 0) 0#32 (List.replicate 12 0)) 63 = 0x86 := by decide +kernel

theorem run_store_arr (w : World) (t : TypeId) (B : List UInt8) (n : Nat) (hn : B.length = n) (hi : (Try.prog.info? t).map (·.size) = some n) (c : Array Value) (hc : c.size = n) :
    (storeCells ⟨w.heap.size, 0, none⟩ (B.map bv)).run Try.prog (w.alloc (.cells c t)) = .ok () (w.alloc (.cells (B.map bv).toArray t)) := by
  have := run_storeCells_new (P := Try.prog) w t c (B.map bv).toArray (by rw [hi]; simp [hn]) (by simp [hc, hn]) (by
    rw [Array.all_eq_true_iff_forall_mem]
    intro u hu
    simp only [List.mem_toArray] at hu
    exact bv_oneCell B u hu)
  exact this

set_option maxHeartbeats 400000 in
set_option maxRecDepth 100000 in
theorem chaShown_any (w : World) : Calls Try.prog 9 #[] w fun e w' => e = .returned (.bool true) ∧ Below w.heap.size w w' := by
  go_enter Try.func9, Try.ntmps9
  go_wp2_with fail
  refine (block_any (List.replicate 32 0) (List.replicate 12 0) 0#32 _ rfl rfl).mono ?_
  rintro e w1 ⟨rfl, hb1⟩
  obtain ⟨z0, z1, z2, z3, z63⟩ := zero_block
  have hB := blk_length (List.replicate 32 0) 0#32 (List.replicate 12 0)
  generalize blk (List.replicate 32 0) 0#32 (List.replicate 12 0) = B at z0 z1 z2 z3 z63 hB ⊢
  have hst := run_store_arr w1 29 B 64 hB (by kernel_rfl)
  have e0 : bv (B[0]'(by omega)) = .int .u8 118 := by rw [← at8_get, z0]; rfl
  have e1 : bv (B[1]'(by omega)) = .int .u8 184 := by rw [← at8_get, z1]; rfl
  have e2 : bv (B[2]'(by omega)) = .int .u8 224 := by rw [← at8_get, z2]; rfl
  have e3 : bv (B[3]'(by omega)) = .int .u8 173 := by rw [← at8_get, z3]; rfl
  have e63 : bv (B[63]'(by omega)) = .int .u8 134 := by rw [← at8_get, z63]; rfl
  clear z0 z1 z2 z3 z63
  have kd : ∀ (w : World) (O : Obj) (C : Array Value) (n c : Nat), (convert 27 27 (.slice (some ⟨w.heap.size + 1, 0, none⟩) n c)).run Try.prog ((w.alloc O).alloc (.cells C 5)) = .ok (.slice (some ⟨w.heap.size + 1, 0, none⟩) n c) ((w.alloc O).alloc (.cells C 5 (C.size, C.size + 1))) := fun w O C n c => by
    have := Lib.run_convert_bytes_const (P := Try.prog) (w.alloc O) 27 5 C n c Try.underlying27 Try.underlying5
    simpa using this
  go_wp2_with fail
  refine (stream_any (List.replicate 32 0) (List.replicate 12 0) 0#32 _ 3 3 [97, 98, 99] _ rfl rfl ?_ (by omega) (by omega) (by unfold maxLen; omega)).mono ?_
  · exact byt_lit _ [97, 98, 99] _ _ _ (3, 4) (by
      have := heap_alloc_new (w1.alloc (.cells (B.map bv).toArray 29)) (.cells #[.int .u8 97, .int .u8 98, .int .u8 99] 5 (3, 4))
      rwa [World.size_alloc] at this) rfl
  rintro e w2 ⟨a2, c2, rfl, hb2, _, _, _⟩
  have HB2 : Hid (Below w.heap.size w w2) := by
    have h1 := hb1.size
    have h2 := (hb1.alloc hb1.size (.cells (B.map bv).toArray 29)).alloc (by simp; omega) (.cells #[.int .u8 97, .int .u8 98, .int .u8 99] 5 (3, 4))
    exact h2.trans (hb2.mono (by simp; omega))
  clear hb2
  go_wp2
  go_ret
  exact ⟨rfl, HB2.out⟩
/-! What the laws of the stream share. -/
theorem u32_word (a : Int) (h : (Lit.int .u32 a).wf = true) : ∃ X : BitVec 32, a = (X.toNat : Int) := by
  have hb : 0 ≤ a ∧ a ≤ 4294967295 := by simpa [Lit.wf, IntKind.min, IntKind.max, IntKind.signed, IntKind.bits] using h
  exact ⟨BitVec.ofNat 32 a.toNat, by rw [BitVec.toNat_ofNat]; omega⟩
theorem load_arr (W : World) (b : Nat) (t : TypeId) (B : List UInt8) (n : Nat) (hn : B.length = n) (h : W.heap[b]? = some (.cells (B.map bv).toArray t (0, 0))) :
    (loadCellsFrom ⟨b, 0, none⟩ 0 n #[]).run Try.prog W = .ok (B.map bv).toArray W := by
  subst hn
  have := run_loadCells_list (P := Try.prog) W ⟨b, 0, none⟩ (B.map bv) (fun j v hv => by
    have hadd : (⟨b, 0, none⟩ : Addr).add j = ⟨b, j, none⟩ := by unfold Addr.add; split <;> simp_all
    rw [hadd, cell_of_row _ _ j _ t (0, 0) h]
    simpa using hv)
  simpa [loadCells] using this
/-- The key and the nonce, in two blocks of the law's own. -/
structure KN (W : World) (kb nb : Nat) (key nonce : List UInt8) : Prop where
  k : W.heap[kb]? = some (.cells (key.map bv).toArray 23 (0, 0))
  n : W.heap[nb]? = some (.cells (nonce.map bv).toArray 26 (0, 0))
theorem KN.later {W W' : World} {kb nb : Nat} {key nonce : List UInt8} (h : KN W kb nb key nonce) (hb : Below W.heap.size W W') : KN W' kb nb key nonce :=
  ⟨by rw [hb.block _ (Array.getElem?_eq_some_iff.1 h.k).1]; exact h.k, by rw [hb.block _ (Array.getElem?_eq_some_iff.1 h.n).1]; exact h.n⟩
theorem KN.new (w : World) (key nonce : List UInt8) : KN ((w.alloc (.cells (key.map bv).toArray 23)).alloc (.cells (nonce.map bv).toArray 26)) w.heap.size (w.heap.size + 1) key nonce := by
  refine ⟨?_, ?_⟩
  · rw [Below.heap_alloc _ _ _ (by simp)]; exact heap_alloc_new w _
  · have := heap_alloc_new (w.alloc (.cells (key.map bv).toArray 23)) (.cells (nonce.map bv).toArray 26)
    rwa [World.size_alloc] at this
theorem KN.info {key nonce : List UInt8} (hk : key.length = 32) (hn : nonce.length = 12) :
    (Try.prog.info? 23).map (·.size) = some (key.map bv).toArray.size ∧ (Try.prog.info? 26).map (·.size) = some (nonce.map bv).toArray.size := by
  have e1 : (Try.prog.info? 23).map (·.size) = some 32 := by kernel_rfl
  have e2 : (Try.prog.info? 26).map (·.size) = some 12 := by kernel_rfl
  rw [e1, e2]
  simp [hk, hn]
theorem exec_load_row {P : Program} {o : Oper} {a : Act} {w : World} (ty : TypeId) (x : Operand) (ho : o.op = .load ty x) (g : Nat) (hx : a.eval x = .pointer (some ⟨g, 0, none⟩)) (t : TypeId) (cs : Array Value) (fr : Nat × Nat) (d : TypeDesc) (hg : w.heap[g]? = some (.cells cs t fr))
    (hu : P.underlying ty = some d) (hd : (match d with | .struct _ | .array _ _ => true | _ => false) = true) (hi : (P.info? ty).map (·.size) = some cs.size) : (execOp a.eval o).run P w = .ok (.value (.agg cs)) w := by
  unfold execOp
  simp only [ho, hx, Instr.loadAt, Instr.sureAddr, Sem.run_bind, Sem.run_pure, Result.andThen_ok, run_loadVar_row w g t ty cs fr d hg hu hd hi]
theorem KN.loads {W : World} {kb nb : Nat} {key nonce : List UInt8} (h : KN W kb nb key nonce) (hk : key.length = 32) (hn : nonce.length = 12) :
    (loadCellsFrom ⟨kb, 0, none⟩ 0 32 #[]).run Try.prog W = .ok (key.map bv).toArray W ∧ (loadCellsFrom ⟨nb, 0, none⟩ 0 12 #[]).run Try.prog W = .ok (nonce.map bv).toArray W :=
  ⟨load_arr W kb _ key 32 hk h.k, load_arr W nb _ nonce 12 hn h.n⟩
theorem Byt.cut {w : World} {a : Option Addr} {len q : Nat} {l : List UInt8} (h : Byt w a len l) (hq : q ≤ len) : Byt w a q (l.take q) := by
  have hl := h.1
  refine ⟨by simp; omega, ?_⟩
  rcases h.2 with h0 | ⟨b, off, e, hc⟩
  · exact .inl (by omega)
  · refine .inr ⟨b, off, e, fun i hi => ?_⟩
    rw [hc i (by omega)]
    simp [at8, hi]
theorem Byt.at_ {w : World} {a : Option Addr} {len : Nat} {l : List UInt8} (h : Byt w a len l) (k : Nat) (hk : k < len) : ∃ b off, a = some ⟨b, off, none⟩ ∧ w.cell? ⟨b, off + k, none⟩ = some (.int .u8 ((at8 l k).toNat : Int)) := by
  rcases h.2 with h0 | ⟨b, off, e, hc⟩
  · omega
  · exact ⟨b, off, e, hc k hk⟩
theorem and16 (x : Int) : bits .and .i64 x 65535 = x % 65536 := by
  have e : (BitVec.ofInt 64 x &&& BitVec.ofInt 64 65535).toNat = (x % 65536).toNat := by
    rw [BitVec.toNat_and, BitVec.toNat_ofInt]
    have h7 : (BitVec.ofInt 64 65535).toNat = 2 ^ 16 - 1 := by decide
    rw [h7, Nat.and_two_pow_sub_one_eq_mod]
    omega
  show IntKind.i64.wrap ((BitVec.ofInt 64 x &&& BitVec.ofInt 64 65535).toNat : Int) = _
  rw [e, IntKind.wrap_i64]
  omega
theorem cut16 (x : Int) (n : Nat) : ∃ q : Nat, (bits .and .i64 x 65535).tmod ((n : Int) + 1) = (q : Int) ∧ q ≤ n := by
  refine ⟨((x % 65536).toNat % (n + 1)), ?_, by have := Nat.mod_lt (x % 65536).toNat (show 0 < n + 1 by omega); omega⟩
  have h0 : (((x % 65536).toNat : Nat) : Int) = x % 65536 := by omega
  rw [and16, Int.tmod_eq_emod_of_nonneg (by omega), ← h0]
  simp
end Go.Proofs.Ytgfpoedgbhfkaaa
