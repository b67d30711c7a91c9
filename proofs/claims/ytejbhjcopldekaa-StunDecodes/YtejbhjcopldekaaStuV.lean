/- The laws' own helpers (stage 12): ref. -/
import Derived.Test.YtejbhjcopldekaaStuU
import Derived.Test.YtejbhjcopldekaaStuP
import Derived.Test.YtejbhjcopldekaaRefSb
namespace Go.Proofs.Ytejbhjcopldekaa
set_option linter.unusedVariables false
set_option maxRecDepth 100000
open Go.RowKit

theorem exec_store_row9 {P : Program} {o : Oper} {a : Act} {w : World} (ty : TypeId) (x y : Operand) (ho : o.op = .store ty x y) (g : Nat) (cells : Array Value) (hx : a.eval x = .pointer (some ⟨g, 0, none⟩)) (hy : a.eval y = .agg cells)
    (t : TypeId) (old : Array Value) (hg : w.heap[g]? = some (.cells old t (0, 0))) (hi : (P.info? ty).map (·.size) = some cells.size) (hold : old.size = cells.size) (h1 : cells.all (·.oneCell') = true) :
    (execOp a.eval o).run P w = .ok .skip (w.setRow g cells) := by
  unfold execOp
  simp only [ho, hx, hy, Instr.storeAt, Instr.sureAddr, Sem.run_bind, Sem.run_pure, Result.andThen_ok, run_storeVar_row w g t ty old cells hg hi hold h1]
theorem MBox.kp {w W : World} {b : Nat} {m : SM} {ua : Option Addr} {uc : Nat} (h : MBox w b m ua uc) (hk : Kp b w W) : MBox W b m ua uc := by
  obtain ⟨arr, e, hr⟩ := h.row
  exact ⟨⟨arr, e, (hk h.lt).2.trans hr⟩, (hk h.lt).1⟩
theorem Kp.below {b : Nat} {w W : World} (hb : Below w.heap.size w W) : Kp b w W := fun h => ⟨Nat.lt_of_lt_of_le h hb.size, hb.block b h⟩
theorem Kp.setRow {b g : Nat} (w : World) (cs : Array Value) (hne : b ≠ g) : Kp b w (w.setRow g cs) := fun h => ⟨by simpa [World.setRow] using h, setRow_other w g b cs hne⟩
theorem dMsg_one (m : SM) (ia : Option Addr) (ic : Nat) (ua : Option Addr) (uc : Nat) : (dMsg m ia ic ua uc).all (·.oneCell') = true := by
  rw [Array.all_eq_true_iff_forall_mem]
  intro u hu
  simp only [dMsg, List.mem_toArray, List.mem_cons, List.not_mem_nil, or_false] at hu
  rcases hu with rfl | rfl | rfl | rfl | rfl | rfl | rfl | rfl <;> rfl
theorem dMsg_inf (m : SM) (ia : Option Addr) (ic : Nat) (ua : Option Addr) (uc : Nat) : (Try.prog.info? 37).map (·.size) = some (dMsg m ia ic ua uc).size := by
  have e1 : (Try.prog.info? 37).map (·.size) = some 8 := by kernel_rfl
  rw [e1]
  rfl

set_option maxHeartbeats 2000000 in
theorem ref_any (m : SM) (ua : Option Addr) (uc : Nat) (w : World) (hid : m.id.length = 12) :
    Calls Try.prog 12 #[.agg (sMsg m ua uc)] w fun e w' => ∃ ia ic, e = .returned (.agg (dMsg m ia ic ua uc)) ∧ Below w.heap.size w w' ∧ Byt w' ia 12 m.id ∧ (ia = none → ic = 0) := by
  have hM := MBox.new w m ua uc
  have hb0 : Below w.heap.size w (w.alloc (.cells (sMsg m ua uc) 29)) := (Below.refl _ _).alloc (Nat.le_refl _) _
  have hs0 : (w.alloc (.cells (sMsg m ua uc) 29)).heap.size = w.heap.size + 1 := by rw [World.size_alloc]
  obtain ⟨arr, harr⟩ : ∃ arr, sMsg m ua uc = arr := ⟨_, rfl⟩
  rw [harr] at hM hb0 hs0 ⊢
  have hr := heap_alloc_new (w.alloc (.cells arr 29)) (.cells #[.int .i64 0, .slice none 0 0, .int .u32 0, .int .i64 0, .string ⟨#[]⟩, .int .i64 0, .string ⟨#[]⟩, .slice none 0 0] 37)
  have hb1 := hb0.alloc hb0.size (.cells #[.int .i64 0, .slice none 0 0, .int .u32 0, .int .i64 0, .string ⟨#[]⟩, .int .i64 0, .string ⟨#[]⟩, .slice none 0 0] 37)
  have hM1 := hM.later ((Below.refl _ _).alloc (Nat.le_refl _) (.cells #[.int .i64 0, .slice none 0 0, .int .u32 0, .int .i64 0, .string ⟨#[]⟩, .int .i64 0, .string ⟨#[]⟩, .slice none 0 0] 37)) hM.lt (Nat.le_refl _)
  rw [hs0] at hr
  have HM1 := uhid hM1
  have HR := uhid hr
  have HB1 := uhid hb1
  clear hM hb0 hr hb1 hM1 harr
  go_enter Try.func12, Try.ntmps12
  go_wp2_with fail
  obtain ⟨W, hW⟩ : ∃ W, ((w.alloc (.cells arr 29)).alloc (.cells #[.int .i64 0, .slice none 0 0, .int .u32 0, .int .i64 0, .string ⟨#[]⟩, .int .i64 0, .string ⟨#[]⟩, .slice none 0 0] 37)).drew = W := ⟨_, rfl⟩
  have hdr : Below ((w.alloc (.cells arr 29)).alloc (.cells #[.int .i64 0, .slice none 0 0, .int .u32 0, .int .i64 0, .string ⟨#[]⟩, .int .i64 0, .string ⟨#[]⟩, .slice none 0 0] 37)).heap.size ((w.alloc (.cells arr 29)).alloc (.cells #[.int .i64 0, .slice none 0 0, .int .u32 0, .int .i64 0, .string ⟨#[]⟩, .int .i64 0, .string ⟨#[]⟩, .slice none 0 0] 37)) W := by rw [← hW]; exact (Below.refl _ _).drew
  have hsW : w.heap.size + 1 < W.heap.size := by have := hdr.size; rw [World.size_alloc, hs0] at this; omega
  have HMW := uhid (HM1.out.later hdr HM1.out.lt (Nat.le_refl _))
  have HRW := uhid ((hdr.block (w.heap.size + 1) (by rw [World.size_alloc, hs0]; omega)).trans HR.out)
  have HBW := uhid (HB1.out.trans (hdr.mono HB1.out.size))
  refine wp_region_sched' (G := Kp w.heap.size) (by kernel_rfl) (Kp.refl _) (Kp.trans _) (by kernel_rfl) [(0, true), (1, true), (3, true), (4, true), (6, true), (7, true), (8, true), (9, true), (10, true), (11, true), (12, true), (13, true), (14, true), (15, true), (2, false), (5, false), (16, true), (17, false)] rfl (by kernel_rfl) ?_
  intro KK hKK
  rw [hW]
  clear hW hdr HM1 HR HB1 hs0
  iterate 5 (refine sched_take rfl (by rfl) (v := ?_) ?_ ?_; rotate_left; (intro w' hw'; have hb := HMW.out.kp hw'; have q0 := hb.cls; have q15 := hb.soft; have q16 := hb.code; have q17 := hb.reason; have q14 := hb.port; have q18 := hb.unk; clear hb hw'; go_simp; with_reducible rfl); go_simp)
  refine sched_take rfl (by rfl) (v := .agg #[.int .u32 (m.host : Int), .int .i64 m.port]) (fun w' hw' => exec_load_part 26 _ rfl w.heap.size 13 rfl _ _ (HMW.out.kp hw').addr Try.underlying26 rfl rfl) ?_
  go_simp
  iterate 8 (refine sched_take rfl (by rfl) (v := ?_) ?_ ?_; rotate_left; (intro w' hw'; have hb := HMW.out.kp hw'; have q0 := hb.cls; have q15 := hb.soft; have q16 := hb.code; have q17 := hb.reason; have q14 := hb.port; have q18 := hb.unk; clear hb hw'; go_simp; with_reducible rfl); go_simp)
  refine sched_val rfl (by rfl) (v := .slice (some ⟨W.heap.size, 0, none⟩) 0 0) (w' := W.alloc (.cells #[] 5)) (by go_simp; try rfl) (Kp.alloc _ W _) ?_
  have hN0 := NewB.lit (Below.refl W.heap.size W) [] #[] rfl (by simp)
  have hM9 := HMW.out.later (W := W.alloc (.cells #[] 5)) ((Below.refl _ _).alloc (Nat.le_refl _) _) HMW.out.lt (Nat.le_refl _)
  obtain ⟨a2, c2, w2, hap, hN2, hbA⟩ := hN0.many2 (some ⟨w.heap.size, 1, none⟩) 12 12 m.id (hM9.idB hid) (fun e => by cases e) (by simp)
  have hap' : (Builtin.append_ #[32, 32] 32 #[.slice (some ⟨W.heap.size, 0, none⟩) 0 0, .slice (some ⟨w.heap.size, 1, none⟩) 12 12]).run Try.prog (W.alloc (.cells #[] 5)) = .ok (.slice a2 12 c2) w2 := by simpa using hap
  have hN2' : NewB W w2 (.slice a2 12 c2) m.id := by simpa using hN2
  have HAP := uhid hap'
  have HN2 := uhid hN2'
  have hKp : Kp w.heap.size (W.alloc (.cells #[] 5)) w2 := fun h => ⟨Nat.lt_of_lt_of_le (by omega) hN2.1.size, by rw [hN2.1.block _ (by omega), Below.heap_alloc W _ _ (by omega)]⟩
  have HKP := uhid hKp
  have HR2 := uhid ((hN2.1.block (w.heap.size + 1) hsW).trans HRW.out)
  have HB2 := uhid (HBW.out.trans (hN2.1.mono HBW.out.size))
  clear hN0 hM9 hap hN2 hbA hap' hN2' hKp
  go_simp
  refine sched_append rfl (by rfl) rfl (by rfl) (by rfl) HAP.out HKP.out ?_
  clear HAP HKP
  go_simp
  refine sched_take rfl (by rfl) (v := ?_) ?_ ?_; rotate_left; (intro w' hw'; clear hw'; go_simp; with_reducible rfl); go_simp
  have hp2 := HN2.out.at_ hid
  have hrow := setRow_heap w2 (w.heap.size + 1) _ (dMsg m a2 c2 ua uc) _ _ HR2.out
  have hbE : Below w.heap.size w (w2.setRow (w.heap.size + 1) (dMsg m a2 c2 ua uc)) := srow_below HB2.out _ (by omega) _
  have hbyt : Byt (w2.setRow (w.heap.size + 1) (dMsg m a2 c2 ua uc)) a2 12 m.id := by
    refine ⟨hp2.1.1, ?_⟩
    rcases hp2.1.2 with h0 | ⟨b', off', e, hc⟩
    · exact .inl h0
    · refine .inr ⟨b', off', e, fun i hi => ?_⟩
      have hne : b' ≠ w.heap.size + 1 := by
        have := (own_base HN2.out.2 b' (by rw [e]; rfl)).1
        omega
      rw [World.cell?_of_block (setRow_other w2 (w.heap.size + 1) _ _ (by show b' ≠ _; exact hne))]
      exact hc i hi
  refine sched_put rfl (by rfl) (w' := w2.setRow (w.heap.size + 1) (dMsg m a2 c2 ua uc)) (exec_store_row9 37 (.tmp 2) (.tmp 19) rfl (w.heap.size + 1) (dMsg m a2 c2 ua uc) rfl (by rw [dMsg, hid]; rfl) 37 _ HR2.out (dMsg_inf _ _ _ _ _) rfl (dMsg_one _ _ _ _ _)) (Kp.setRow w2 _ (by omega)) ?_
  obtain ⟨E, hE⟩ : ∃ E, w2.setRow (w.heap.size + 1) (dMsg m a2 c2 ua uc) = E := ⟨_, rfl⟩
  rw [hE] at hrow hbE hbyt
  rw [hE]
  have HRow := uhid hrow
  have HBE := uhid hbE
  have HByt := uhid hbyt
  have Hn := uhid hp2.2.2.2
  clear hrow hbE hbyt hE hp2 HN2 HR2 HB2 HRW HBW HMW
  go_simp
  refine sched_done hKK ?_
  clear hKK
  (try go_wp2)
  (try simp only [Exit.inBlock, Exit.then])
  refine bodyPost_ret (results_cell_row rfl _ _ (w.heap.size + 1) 37 _ (0, 0) _ rfl HRow.out Try.underlying37 rfl (dMsg_inf _ _ _ _ _)) rfl ?_
  exact ⟨a2, c2, rfl, HBE.out, HByt.out, Hn.out⟩
end Go.Proofs.Ytejbhjcopldekaa
