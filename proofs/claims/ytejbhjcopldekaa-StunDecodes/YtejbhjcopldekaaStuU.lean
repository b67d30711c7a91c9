/- The laws' own helpers (stage 12): few. -/
import Derived.Test.YtejbhjcopldekaaStuT
namespace Go.Proofs.Ytejbhjcopldekaa
set_option linter.unusedVariables false
set_option maxRecDepth 100000
open Go.RowKit

def fewS (m : SM) : SM := { m with soft := m.soft.take 120, reason := m.reason.take 120, unk := m.unk.take 25 }
theorem S_extract (l : List UInt8) (n : Nat) : (S l).extract 0 n = S (l.take n) := by
  apply ByteArray.ext
  simp [S, ByteArray.data_extract]
theorem mok_few {w : World} {m : SM} {ua : Option Addr} {uc : Nat} {zs : List Int} (h : SmIn w m ua uc zs) : MOk w (fewS m) ua uc := by
  have hu := h.unk
  refine ⟨h.cls, ⟨rfl, fun i hi => ?_⟩, fun n hn => ?_, by show (m.unk.take 25).length ≤ 1000000; rw [List.length_take]; omega, by show (m.soft.take 120).length ≤ 1000000; rw [List.length_take]; omega, by show (m.reason.take 120).length ≤ 1000000; rw [List.length_take]; omega⟩
  · have hi' : i < (m.unk.take 25).length := hi
    have hi2 : i < m.unk.length := by rw [List.length_take] at hi'; omega
    have e : (fewS m).unk[i] = m.unk[i] := by show (m.unk.take 25)[i] = _; rw [List.getElem_take]
    rcases h.row with ⟨_, h0, _, _⟩ | ⟨x, rfl, hlc, hcm, hz, hcell, _⟩
    · omega
    · have hc0 := hcell 0 (by omega)
      obtain ⟨b, off, spot⟩ := x
      have hspot : spot = none := by simpa [Addr.add] using World.cell?_spot hc0
      subst hspot
      have hc := hcell i (by omega)
      rw [addr_add] at hc
      have hbl : b < w.heap.size := by
        rcases Nat.lt_or_ge b w.heap.size with h' | h'
        · exact h'
        · simp [World.cell?, Array.getElem?_eq_none h'] at hc
      refine ⟨b, off, rfl, hbl, ?_⟩
      have : m.unk[i] = zs.getD i 0 := by
        have e2 : m.unk[i]? = (zs.take m.unk.length)[i]? := by rw [← hu]
        rw [List.getElem?_eq_getElem hi2, List.getElem?_take, if_pos hi2] at e2
        simp [List.getD, ← e2]
      have h9 : (fewS m).unk[i]'hi = zs.getD i 0 := e.trans this
      rw [hc, h9]
  · have hn' : n ∈ m.unk := List.mem_of_mem_take hn
    rw [hu] at hn'
    have hnz := List.mem_of_mem_take hn'
    rcases h.row with ⟨_, _, _, rfl⟩ | ⟨x, _, _, _, _, _, hwf⟩
    · cases hnz
    · exact hwf n hnz

set_option maxHeartbeats 1000000 in
theorem few_any (m : SM) (ua : Option Addr) (uc : Nat) (zs : List Int) (w : World) (hI : SmIn w m ua uc zs) :
    Calls Try.prog 10 #[.agg (sMsg m ua uc)] w fun e w' => e = .returned (.agg (sMsg (fewS m) ua uc)) ∧ Below w.heap.size w w' := by
  have hs := hI.soft
  have hr := hI.reason
  have huc : m.unk.length ≤ uc ∧ uc ≤ maxLen := by
    rcases hI.row with ⟨_, h0, h1, _⟩ | ⟨x, _, hlc, hcm, _⟩
    · exact ⟨by omega, by omega⟩
    · exact ⟨hlc, hcm⟩
  unfold maxLen at hs hr huc
  have s1 := Ssize m.soft
  have s2 := Ssize m.reason
  obtain ⟨n1, hn1⟩ : ∃ n1, min 120 m.soft.length = n1 := ⟨_, rfl⟩
  obtain ⟨n2, hn2⟩ : ∃ n2, min 120 m.reason.length = n2 := ⟨_, rfl⟩
  obtain ⟨n3, hn3⟩ : ∃ n3, min 25 m.unk.length = n3 := ⟨_, rfl⟩
  have i1 : (if (120 : Int) < (m.soft.length : Int) then (120 : Int) else (m.soft.length : Int)) = (n1 : Int) := by split <;> omega
  have i2 : (if (120 : Int) < (m.reason.length : Int) then (120 : Int) else (m.reason.length : Int)) = (n2 : Int) := by split <;> omega
  have i3 : (if (25 : Int) < (m.unk.length : Int) then (25 : Int) else (m.unk.length : Int)) = (n3 : Int) := by split <;> omega
  have t1 : m.soft.take n1 = (fewS m).soft := by show _ = m.soft.take 120; rw [← hn1, ← List.take_take, List.take_length]
  have t2 : m.reason.take n2 = (fewS m).reason := by show _ = m.reason.take 120; rw [← hn2, ← List.take_take, List.take_length]
  have t3 : (fewS m).unk.length = n3 := by show (m.unk.take 25).length = n3; rw [List.length_take, hn3]
  have x1 : (S m.soft).extract 0 n1 = S (fewS m).soft := by rw [S_extract, t1]
  have x2 : (S m.reason).extract 0 n2 = S (fewS m).reason := by rw [S_extract, t2]
  obtain ⟨L, hL⟩ := msgL (fewS m) ua uc
  obtain ⟨f, hf⟩ : ∃ f, fewS m = f := ⟨_, rfl⟩
  have hset : (((sMsg m ua uc).setIfInBounds 15 (.string (S (fewS m).soft))).setIfInBounds 17 (.string (S (fewS m).reason))).setIfInBounds 18 (.slice ua n3 uc) = L.toArray := by
    rw [← hL.eq, ← t3]
    simp [sMsg, fewS]
  rw [hf] at t1 t2 t3 x1 x2 hL hset ⊢
  obtain ⟨arr, harr⟩ : ∃ arr, sMsg m ua uc = arr := ⟨_, rfl⟩
  have a15 : arr[15]? = some (.string (S m.soft)) := by rw [← harr]; rfl
  have a17 : arr[17]? = some (.string (S m.reason)) := by rw [← harr]; rfl
  have a18 : arr[18]? = some (.slice ua m.unk.length uc) := by rw [← harr]; rfl
  rw [harr] at hset ⊢
  have hsz0 : (w.alloc (.cells L.toArray 29)).heap.size = w.heap.size + 1 := by rw [World.size_alloc]
  have h1 := (Below.heap_alloc (w.alloc (.cells L.toArray 29)) (.cells #[.int .i64 0, .int .u8 0, .int .u8 0, .int .u8 0, .int .u8 0, .int .u8 0, .int .u8 0, .int .u8 0, .int .u8 0, .int .u8 0, .int .u8 0, .int .u8 0, .int .u8 0, .int .u32 0, .int .i64 0, .string ⟨#[]⟩, .int .i64 0, .string ⟨#[]⟩, .slice none 0 0] 29) w.heap.size (by omega)).trans (heap_alloc_new w (.cells L.toArray 29))
  have h2 := heap_alloc_new (w.alloc (.cells L.toArray 29)) (.cells #[.int .i64 0, .int .u8 0, .int .u8 0, .int .u8 0, .int .u8 0, .int .u8 0, .int .u8 0, .int .u8 0, .int .u8 0, .int .u8 0, .int .u8 0, .int .u8 0, .int .u8 0, .int .u32 0, .int .i64 0, .string ⟨#[]⟩, .int .i64 0, .string ⟨#[]⟩, .slice none 0 0] 29)
  have hb : Below w.heap.size w ((w.alloc (.cells L.toArray 29)).alloc (.cells #[.int .i64 0, .int .u8 0, .int .u8 0, .int .u8 0, .int .u8 0, .int .u8 0, .int .u8 0, .int .u8 0, .int .u8 0, .int .u8 0, .int .u8 0, .int .u8 0, .int .u8 0, .int .u32 0, .int .i64 0, .string ⟨#[]⟩, .int .i64 0, .string ⟨#[]⟩, .slice none 0 0] 29)) := ((Below.refl _ _).alloc (Nat.le_refl _) _).alloc (by rw [hsz0]; omega) _
  rw [hsz0] at h2
  have hE := setRow_heap ((w.alloc (.cells L.toArray 29)).alloc (.cells #[.int .i64 0, .int .u8 0, .int .u8 0, .int .u8 0, .int .u8 0, .int .u8 0, .int .u8 0, .int .u8 0, .int .u8 0, .int .u8 0, .int .u8 0, .int .u8 0, .int .u8 0, .int .u32 0, .int .i64 0, .string ⟨#[]⟩, .int .i64 0, .string ⟨#[]⟩, .slice none 0 0] 29)) (w.heap.size + 1) _ L.toArray _ _ h2
  have hbE : Below w.heap.size w (((w.alloc (.cells L.toArray 29)).alloc (.cells #[.int .i64 0, .int .u8 0, .int .u8 0, .int .u8 0, .int .u8 0, .int .u8 0, .int .u8 0, .int .u8 0, .int .u8 0, .int .u8 0, .int .u8 0, .int .u8 0, .int .u8 0, .int .u32 0, .int .i64 0, .string ⟨#[]⟩, .int .i64 0, .string ⟨#[]⟩, .slice none 0 0] 29)).setRow (w.heap.size + 1) L.toArray) := srow_below hb _ (by omega) _
  obtain ⟨E, hEE⟩ : ∃ E, ((w.alloc (.cells L.toArray 29)).alloc (.cells #[.int .i64 0, .int .u8 0, .int .u8 0, .int .u8 0, .int .u8 0, .int .u8 0, .int .u8 0, .int .u8 0, .int .u8 0, .int .u8 0, .int .u8 0, .int .u8 0, .int .u8 0, .int .u32 0, .int .i64 0, .string ⟨#[]⟩, .int .i64 0, .string ⟨#[]⟩, .slice none 0 0] 29)).setRow (w.heap.size + 1) L.toArray = E := ⟨_, rfl⟩
  rw [hEE] at hE hbE
  have H1 := uhid h1
  have H2 := uhid h2
  have HE := uhid hE
  have HBE := uhid hbE
  have HEE := uhid hEE
  have HL := uhid hL
  clear harr h1 h2 hb hE hbE hEE hL hI hs hr hn1 hn2 hn3 t1 t2 t3 hf
  go_enter Try.func10, Try.ntmps10
  go_wp2_with (first
    | refine wpList_load_row rfl 29 (.tmp 1) rfl w.heap.size rfl 29 _ (0, 0) _ H1.out Try.underlying29 rfl HL.out.inf ?_
    | (refine wpList_store_row rfl 29 (.tmp 2) (.tmp 27) rfl (w.heap.size + 1) L.toArray rfl rfl 29 _ H2.out HL.out.inf HL.out.sz HL.out.one ?_; rw [HEE.out]))
  refine bodyPost_ret (results_cell_row rfl _ _ (w.heap.size + 1) 29 _ (0, 0) _ rfl HE.out Try.underlying29 rfl HL.out.inf) rfl ?_
  exact ⟨by rw [HL.out.eq], HBE.out⟩
end Go.Proofs.Ytejbhjcopldekaa
