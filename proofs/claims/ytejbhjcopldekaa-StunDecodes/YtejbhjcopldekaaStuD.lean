/- The program's Right (stage 12). -/
import Derived.Test.YtejbhjcopldekaaStuB
import Derived.Test.YtejbhjcopldekaaStuC
import Derived.Test.YtejbhjcopldekaaPartW
namespace Go.Proofs.Ytejbhjcopldekaa
set_option linter.unusedVariables false
set_option maxRecDepth 100000
open Go.RowKit
open Go.Maps (Keyed IsMap Tidy)

/-- A message in a block. -/
structure MBox (w : World) (b : Nat) (m : SM) (ua : Option Addr) (uc : Nat) : Prop where
  row : ∃ arr : Array Value, arr = sMsg m ua uc ∧ w.heap[b]? = some (.cells arr 29 (0, 0))
  lt : b < w.heap.size
section
variable {w W : World} {b : Nat} {m : SM} {ua : Option Addr} {uc : Nat}
theorem MBox.new (w : World) (m : SM) (ua : Option Addr) (uc : Nat) : MBox (w.alloc (.cells (sMsg m ua uc) 29)) w.heap.size m ua uc :=
  ⟨⟨_, rfl, heap_alloc_new w _⟩, by rw [World.size_alloc]; omega⟩
theorem MBox.later (h : MBox w b m ua uc) {B : Nat} (hb : Below B w W) (hB : b < B) (hS : B ≤ w.heap.size) : MBox W b m ua uc := by
  obtain ⟨arr, e, hr⟩ := h.row
  exact ⟨⟨arr, e, (hb.block b hB).trans hr⟩, Nat.lt_of_lt_of_le h.lt hb.size⟩
theorem MBox.cell (h : MBox w b m ua uc) (i : Nat) (v : Value) (hv : (sMsg m ua uc)[i]? = some v) : w.cell? ⟨b, i, none⟩ = some v := by
  obtain ⟨arr, e, hr⟩ := h.row
  rw [cell_of_row w b i _ _ (0, 0) hr, e]
  exact hv
theorem MBox.cls (h : MBox w b m ua uc) : w.cell? ⟨b, 0, none⟩ = some (.int .i64 m.cls) := h.cell 0 _ rfl
theorem MBox.host (h : MBox w b m ua uc) : w.cell? ⟨b, 13, none⟩ = some (.int .u32 (m.host : Int)) := h.cell 13 _ rfl
theorem MBox.port (h : MBox w b m ua uc) : w.cell? ⟨b, 14, none⟩ = some (.int .i64 m.port) := h.cell 14 _ rfl
theorem MBox.soft (h : MBox w b m ua uc) : w.cell? ⟨b, 15, none⟩ = some (.string (S m.soft)) := h.cell 15 _ rfl
theorem MBox.code (h : MBox w b m ua uc) : w.cell? ⟨b, 16, none⟩ = some (.int .i64 m.code) := h.cell 16 _ rfl
theorem MBox.reason (h : MBox w b m ua uc) : w.cell? ⟨b, 17, none⟩ = some (.string (S m.reason)) := h.cell 17 _ rfl
theorem MBox.unk (h : MBox w b m ua uc) : w.cell? ⟨b, 18, none⟩ = some (.slice ua m.unk.length uc) := h.cell 18 _ rfl
theorem MBox.addr (h : MBox w b m ua uc) : ∀ j v, ([.int .u32 (m.host : Int), .int .i64 m.port] : List Value)[j]? = some v → w.cell? ⟨b, 13 + j, none⟩ = some v := by
  intro j v hj
  match j, hj with
  | 0, hj => cases hj; exact h.host
  | 1, hj => cases hj; exact h.port
end
theorem Ssize (l : List UInt8) : (S l).size = l.length := by simp [S, ByteArray.size]
theorem Snone (l : List UInt8) : (S l).toList.isEmpty = decide (l = []) := by
  have h : (S l).toList = l := ByteArray.toList_mk l
  rw [h]
  cases l with
  | nil => rfl
  | cons a t => rw [decide_eq_false (by simp)]; rfl
def mapR (m : SM) : Bool := if m.cls = 2 then decide (0 ≤ m.port ∧ m.port ≤ 65535) else decide (m.host = 0 ∧ m.port = 0)
def codR (m : SM) : Bool := if m.cls = 3 then decide (300 ≤ m.code ∧ m.code ≤ 699 ∧ m.reason.length ≤ 100) else decide (m.code = 0 ∧ m.reason = [])
def unkR (m : SM) : Bool := if m.cls = 3 ∧ m.code ≠ 420 then decide (m.unk = []) else decide (m.unk.length ≤ 20) && m.unk.all (sNum m.cls)
theorem rightS_parts (m : SM) : rightS m = (decide (m.cls = 0 ∨ m.cls = 2 ∨ m.cls = 3) && mapR m && decide (m.soft.length ≤ 100) && codR m && unkR m) := by
  rw [Bool.eq_iff_iff, rightS_iff]
  simp only [Bool.and_eq_true, decide_eq_true_eq]
  constructor
  · intro h
    refine ⟨⟨⟨⟨h.cls, ?_⟩, h.soft⟩, ?_⟩, ?_⟩
    · unfold mapR
      split
      · exact decide_eq_true ⟨h.p0, h.p1⟩
      · rename_i h2; exact decide_eq_true (h.mapped h2)
    · unfold codR
      split
      · rename_i h3; exact decide_eq_true ⟨(h.code h3).1, (h.code h3).2, h.reason⟩
      · rename_i h3; exact decide_eq_true (h.none h3)
    · unfold unkR
      split
      · rename_i h3; exact decide_eq_true (h.only h3.1 h3.2)
      · rw [Bool.and_eq_true]
        refine ⟨decide_eq_true h.unk, ?_⟩
        rw [List.all_eq_true]
        exact fun n hn => decide_eq_true (h.nums n hn)
  · rintro ⟨⟨⟨⟨h1, h2⟩, h3⟩, h4⟩, h5⟩
    unfold mapR at h2
    unfold codR at h4
    unfold unkR at h5
    refine ⟨h1, ?_, ?_, ?_, ?_, ?_, h3, ?_, ?_, ?_, ?_⟩
    · intro hc; rw [if_neg hc] at h2; exact of_decide_eq_true h2
    · split at h2
      · exact (of_decide_eq_true h2).1
      · have := (of_decide_eq_true h2).2; omega
    · split at h2
      · exact (of_decide_eq_true h2).2
      · have := (of_decide_eq_true h2).2; omega
    · intro hc; rw [if_neg hc] at h4; exact of_decide_eq_true h4
    · intro hc; rw [if_pos hc] at h4; exact ⟨(of_decide_eq_true h4).1, (of_decide_eq_true h4).2.1⟩
    · split at h4
      · exact (of_decide_eq_true h4).2.2
      · have := (of_decide_eq_true h4).2; rw [this]; decide
    · split at h5
      · have := of_decide_eq_true h5; rw [this]; decide
      · rw [Bool.and_eq_true] at h5; exact of_decide_eq_true h5.1
    · intro hc hd; rw [if_pos ⟨hc, hd⟩] at h5; exact of_decide_eq_true h5
    · split at h5
      · have := of_decide_eq_true h5; rw [this]; simp
      · rw [Bool.and_eq_true, List.all_eq_true] at h5
        exact fun n hn => of_decide_eq_true (h5.2 n hn)

theorem mappedRight_any (m : SM) (ua : Option Addr) (uc : Nat) (w : World) :
    Calls Try.prog 26 #[.agg (sMsg m ua uc)] w fun e w' => e = .returned (.bool (mapR m)) ∧ Below w.heap.size w w' := by
  have hM := MBox.new w m ua uc
  have hb0 : Below w.heap.size w (w.alloc (.cells (sMsg m ua uc) 29)) := (Below.refl _ _).alloc (Nat.le_refl _) _
  obtain ⟨arr, harr⟩ : ∃ arr, sMsg m ua uc = arr := ⟨_, rfl⟩
  have a0 : arr[0]? = some (.int .i64 m.cls) := by rw [← harr]; rfl
  have a14 : arr[14]? = some (.int .i64 m.port) := by rw [← harr]; rfl
  have HA := uhid hM.addr
  rw [harr] at HA hb0 ⊢
  clear harr hM
  by_cases hc : m.cls = 2
  · rw [mapR, if_pos hc]
    go_enter Try.func26, Try.ntmps26
    go_wp2_with fail
    refine (isNumber_any m.port _).mono ?_
    rintro e w' ⟨rfl, rfl⟩
    go_wp2_with fail
    go_ret
    exact ⟨by rw [Bool.decide_and]; rfl, hb0⟩
  · rw [mapR, if_neg hc]
    go_enter Try.func26, Try.ntmps26
    go_wp2_with (refine wpList_load_part rfl 26 (.tmp 10) rfl w.heap.size 13 rfl _ _ HA.out Try.underlying26 rfl rfl ?_)
    go_ret
    · rename_i e1 e2 e3
      rw [decide_eq_true (p := m.host = 0 ∧ m.port = 0) ⟨by assumption, by assumption⟩]
      exact ⟨rfl, hb0⟩
    · rename_i e1 e2 e3
      rw [decide_eq_false (p := m.host = 0 ∧ m.port = 0) (fun h => e3 h.2)]
      go_ret
      exact ⟨rfl, hb0⟩
    · rename_i e1 e2
      rw [decide_eq_false (p := m.host = 0 ∧ m.port = 0) (fun h => e2 h.1)]
      go_ret
      exact ⟨rfl, hb0⟩

theorem codeRight_any (m : SM) (ua : Option Addr) (uc : Nat) (hr : m.reason.length ≤ 1000000) (w : World) :
    Calls Try.prog 27 #[.agg (sMsg m ua uc)] w fun e w' => e = .returned (.bool (codR m)) ∧ Below w.heap.size w w' := by
  have hM := MBox.new w m ua uc
  have hb0 : Below w.heap.size w (w.alloc (.cells (sMsg m ua uc) 29)) := (Below.refl _ _).alloc (Nat.le_refl _) _
  obtain ⟨arr, harr⟩ : ∃ arr, sMsg m ua uc = arr := ⟨_, rfl⟩
  have a0 : arr[0]? = some (.int .i64 m.cls) := by rw [← harr]; rfl
  have a16 : arr[16]? = some (.int .i64 m.code) := by rw [← harr]; rfl
  have a17 : arr[17]? = some (.string (S m.reason)) := by rw [← harr]; rfl
  rw [harr] at hb0 ⊢
  clear harr hM
  by_cases hc : m.cls = 3
  · rw [codR, if_pos hc]
    by_cases h3 : 300 ≤ m.code
    · by_cases h6 : m.code ≤ 699
      · go_enter Try.func27, Try.ntmps27
        go_wp2_with fail
        go_ret
        refine ⟨?_, hb0⟩
        rw [decide_eq_decide.2 (show (300 ≤ m.code ∧ m.code ≤ 699 ∧ m.reason.length ≤ 100) ↔ (((S m.reason).size : Int) ≤ 100) by rw [Ssize]; omega)]
        rfl
      · have hd : decide (300 ≤ m.code ∧ m.code ≤ 699 ∧ m.reason.length ≤ 100) = false := decide_eq_false (fun h => h6 h.2.1)
        rw [hd]
        clear hd
        go_enter Try.func27, Try.ntmps27
        go_wp2_with fail
        go_ret
        exact ⟨rfl, hb0⟩
    · have hd : decide (300 ≤ m.code ∧ m.code ≤ 699 ∧ m.reason.length ≤ 100) = false := decide_eq_false (fun h => h3 h.1)
      rw [hd]
      clear hd
      go_enter Try.func27, Try.ntmps27
      go_wp2_with fail
      go_ret
      exact ⟨rfl, hb0⟩
  · rw [codR, if_neg hc]
    by_cases h0 : m.code = 0
    · go_enter Try.func27, Try.ntmps27
      go_wp2_with fail
      go_ret
      refine ⟨?_, hb0⟩
      rw [show decide (m.code = 0 ∧ m.reason = []) = (S m.reason).toList.isEmpty by rw [Snone]; exact decide_eq_decide.2 ⟨fun h => h.2, fun h => ⟨h0, h⟩⟩]
      rfl
    · have hd : decide (m.code = 0 ∧ m.reason = []) = false := decide_eq_false (fun h => h0 h.1)
      rw [hd]
      clear hd
      go_enter Try.func27, Try.ntmps27
      go_wp2_with fail
      go_ret
      exact ⟨rfl, hb0⟩

theorem allB_take (f : Int → Bool) (l : List Int) (k : Nat) (h : k < l.length) : (l.take (k + 1)).all f = ((l.take k).all f && f l[k]) := by
  rw [List.take_succ_eq_append_getElem h, List.all_append]
  simp
theorem own_map_later {w w' : World} {b n : Nat} {D : DataW Unit} {R : Value → Option (DataW Unit × List MemPlace)} {k : TypeId} (h : w.ownsMap Try.prog k R b n D) (hb : Below w.heap.size w w') : w'.ownsMap Try.prog k R b n D := by
  obtain ⟨es, clock, hg, F, hn, he⟩ := h
  exact ⟨es, clock, (hb.block b (Array.getElem?_eq_some_iff.1 hg).1).trans hg, F, hn, he⟩
set_option maxHeartbeats 1000000 in
theorem unknownRight_any (m : SM) (ua : Option Addr) (uc : Nat) (hl : m.unk.length ≤ 1000000) (w : World) (hU : NumsAt w ua m.unk.length m.unk) (hi : ∀ n ∈ m.unk, (Lit.int .i64 n).wf = true) :
    Calls Try.prog 28 #[.agg (sMsg m ua uc)] w fun e w' => e = .returned (.bool (unkR m)) ∧ Below w.heap.size w w' := by
  have hM := MBox.new w m ua uc
  have hb0 : Below w.heap.size w (w.alloc (.cells (sMsg m ua uc) 29)) := (Below.refl _ _).alloc (Nat.le_refl _) _
  obtain ⟨arr, harr⟩ : ∃ arr, sMsg m ua uc = arr := ⟨_, rfl⟩
  have a0 : arr[0]? = some (.int .i64 m.cls) := by rw [← harr]; rfl
  have a16 : arr[16]? = some (.int .i64 m.code) := by rw [← harr]; rfl
  have a18 : arr[18]? = some (.slice ua m.unk.length uc) := by rw [← harr]; rfl
  rw [harr] at hM hb0 ⊢
  clear harr
  by_cases hc : m.cls = 3 ∧ m.code ≠ 420
  · obtain ⟨c1, c2⟩ := hc
    rw [unkR, if_pos ⟨c1, c2⟩]
    go_enter Try.func28, Try.ntmps28
    go_wp2_with fail
    go_ret
    refine ⟨?_, hb0⟩
    rw [show decide (m.unk = []) = ((m.unk.length : Int) == 0) by
      cases m.unk with
      | nil => rfl
      | cons a t => rw [decide_eq_false (by simp)]; exact (beq_eq_false_iff_ne.2 (by simp only [List.length_cons]; omega)).symm]
    rfl
  · rw [unkR, if_neg hc]
    by_cases hl2 : m.unk.length ≤ 20
    · have g7 : ¬ (20 : Int) < (m.unk.length : Int) := by omega
      rw [decide_eq_true hl2, Bool.true_and]
      have hc' : ¬ m.cls = 3 ∨ m.code = 420 := by
        by_cases h3 : m.cls = 3
        · right
          by_cases h4 : m.code = 420
          · exact h4
          · exact absurd ⟨h3, h4⟩ hc
        · exact .inl h3
      clear hc
      have HU := uhid hU
      have HI := uhid hi
      obtain ⟨F, hF⟩ : ∃ F, m.unk.all (sNum m.cls) = F := ⟨_, rfl⟩
      rw [hF]
      have HF := uhid hF
      clear hU hi hF
      by_cases c3 : m.cls = 3
      · have c4 : m.code = 420 := hc'.resolve_left (fun h => h c3)
        clear hc'
        go_enter Try.func28, Try.ntmps28
        go_wp2_with fail
        obtain ⟨W, hW⟩ : ∃ W, w.alloc (.cells arr 29) = W := ⟨_, rfl⟩
        rw [hW] at hM hb0
        rw [hW]
        clear hW
        refine (sknown_any W).mono ?_
        rintro e w1 ⟨rfl, hb1, hown⟩
        obtain ⟨g, hg⟩ : ∃ g, W.heap.size = g := ⟨_, rfl⟩
        rw [hg] at hb1 hown
        rw [hg]
        have hM1 := hM.later hb1 (by rw [← hg]; exact hM.lt) (by omega)
        have q0 := hM1.cls
        have q18 := hM1.unk
        have hb2 : Below w.heap.size w w1 := hb0.trans (hb1.mono (by rw [← hg]; exact hb0.size))
        have HB := uhid hb2
        have HO := uhid hown
        have HM := uhid hM1
        have hwlt : Hid (w.heap.size < w1.heap.size) := hM1.lt
        clear hb0 hb1 hb2 hown hM hM1 hg
        go_wp2_with fail
        clear q0 q18
        go_loopw [28] (fun i wr => ∃ k : Nat, k ≤ m.unk.length ∧ i = .int .i64 k ∧ Hid (((m.unk.take k).all (sNum m.cls)) = true) ∧ Hid (Below w1.heap.size w1 wr)) (fun i _ => m.unk.length - (intOf i).toNat)
        case atStart => exact ⟨0, Nat.zero_le _, rfl, uhid (by simp), uhid (Below.refl _ _)⟩
        case round =>
          obtain ⟨k, hk, rfl, hall, hbr⟩ := hrel
          by_cases hlt : k < m.unk.length
          · have i1 : (k : Int) < (m.unk.length : Int) := by omega
            obtain ⟨b, off, eU, hbw, hc0⟩ := HU.out.at_ k hlt
            have hc := hc0
            have HBr : Hid (Below w.heap.size w wr) := uhid (HB.out.trans (hbr.out.mono HB.out.size))
            rw [← HBr.out.cell (p := ⟨b, off + k, none⟩) hbw] at hc
            clear hc0
            have hmem : m.unk[k] ∈ m.unk := List.getElem_mem hlt
            have hbad : Hid (sNum m.cls m.unk[k] = false → F = false) := uhid (fun e => by
              cases hFF : F with
              | false => rfl
              | true =>
                have h2 := List.all_eq_true.1 (HF.out.trans hFF) _ hmem
                rw [e] at h2
                cases h2)
            have hnext : Hid (sNum m.cls m.unk[k] = true → ((m.unk.take (k + 1)).all (sNum m.cls)) = true) := uhid (fun e => by
              rw [List.take_succ_eq_append_getElem hlt, List.all_append, hall.out]
              simp [e])
            have hkey : keyOf Try.prog 3 (.int .i64 m.unk[k]) = some (.int .i64 m.unk[k]) := Maps.keyOf_int_mk Try.underlying3 (HI.out _ hmem)
            have hhas := knD_has m.unk[k]
            have HOr : Hid (wr.ownsMap (H := Unit) Try.prog 3 unitElem g 8 KnD) := uhid (own_map_later HO.out hbr.out)
            have q0 := (HM.out.later (hbr.out.alloc hbr.out.size (.cells #[] 75)) hwlt.out (Nat.le_refl _)).cls
            have r0 : Hid ((wr.alloc (.cells #[] 75)).cell? ⟨w.heap.size, 0, none⟩ = some (.int .i64 m.cls)) := uhid q0
            have hbr2 : Hid (Below w.heap.size w (wr.alloc (.cells #[] 75))) := uhid (HBr.out.alloc HBr.out.size _)
            have hbr3 : Hid (Below w1.heap.size w1 (wr.alloc (.cells #[] 75))) := uhid (hbr.out.alloc hbr.out.size _)
            generalize m.unk[k] = n at hc hbad hnext hkey hhas
            rw [eU]
            clear hmem eU q0
            by_cases hn : 0 ≤ n ∧ n ≤ 65535
            · have HG := uhid (hnext.out (decide_eq_true ⟨hn.1, hn.2, fun h => absurd c3 h⟩))
              have hd : decide (0 ≤ n ∧ n ≤ 65535) = true := decide_eq_true hn
              clear hbad hnext hhas
              go_wp2_with (refine wpList_lookup_own_unit _ rfl _ _ 73 rfl 3 75 keyedI Try.underlying73 (zeroN _) g 8 KnD rfl HOr.out _ _ rfl hkey ?_)
              refine (isNumber_any n _).mono ?_
              rintro e w' ⟨rfl, rfl⟩
              rw [hd]
              have q0 := r0.out
              go_wp2_with fail
              exact ⟨⟨k + 1, by omega, by go_num, uhid HG.out, hbr3⟩, by simp [intOf]; omega⟩
            · have hd : decide (0 ≤ n ∧ n ≤ 65535) = false := decide_eq_false hn
              have hv : F = false := hbad.out (decide_eq_false (fun h => hn ⟨h.1, h.2.1⟩))
              subst hv
              clear hbad hnext
              go_wp2_with (refine wpList_lookup_own_unit _ rfl _ _ 73 rfl 3 75 keyedI Try.underlying73 (zeroN _) g 8 KnD rfl HOr.out _ _ rfl hkey ?_)
              refine (isNumber_any n _).mono ?_
              rintro e w' ⟨rfl, rfl⟩
              rw [hd]
              have q0 := r0.out
              go_wp2_with fail
              go_ret
              exact ⟨rfl, hbr2.out⟩
          · have i1 : ¬ (k : Int) < (m.unk.length : Int) := by omega
            have hv : F = true := by
              rw [← HF.out]
              have := hall.out
              rwa [List.take_of_length_le (by omega)] at this
            subst hv
            have HBr : Hid (Below w.heap.size w wr) := uhid (HB.out.trans (hbr.out.mono HB.out.size))
            clear hall hbr
            go_wp2_with fail
            go_ret
            exact ⟨rfl, HBr.out⟩
      · clear hc'
        go_enter Try.func28, Try.ntmps28
        go_wp2_with fail
        obtain ⟨W, hW⟩ : ∃ W, w.alloc (.cells arr 29) = W := ⟨_, rfl⟩
        rw [hW] at hM hb0
        rw [hW]
        clear hW
        refine (sknown_any W).mono ?_
        rintro e w1 ⟨rfl, hb1, hown⟩
        obtain ⟨g, hg⟩ : ∃ g, W.heap.size = g := ⟨_, rfl⟩
        rw [hg] at hb1 hown
        rw [hg]
        have hM1 := hM.later hb1 (by rw [← hg]; exact hM.lt) (by omega)
        have q0 := hM1.cls
        have q18 := hM1.unk
        have hb2 : Below w.heap.size w w1 := hb0.trans (hb1.mono (by rw [← hg]; exact hb0.size))
        have HB := uhid hb2
        have HO := uhid hown
        have HM := uhid hM1
        have hwlt : Hid (w.heap.size < w1.heap.size) := hM1.lt
        clear hb0 hb1 hb2 hown hM hM1 hg
        go_wp2_with fail
        clear q0 q18
        go_loopw [28] (fun i wr => ∃ k : Nat, k ≤ m.unk.length ∧ i = .int .i64 k ∧ Hid (((m.unk.take k).all (sNum m.cls)) = true) ∧ Hid (Below w1.heap.size w1 wr)) (fun i _ => m.unk.length - (intOf i).toNat)
        case atStart => exact ⟨0, Nat.zero_le _, rfl, uhid (by simp), uhid (Below.refl _ _)⟩
        case round =>
          obtain ⟨k, hk, rfl, hall, hbr⟩ := hrel
          by_cases hlt : k < m.unk.length
          · have i1 : (k : Int) < (m.unk.length : Int) := by omega
            obtain ⟨b, off, eU, hbw, hc0⟩ := HU.out.at_ k hlt
            have hc := hc0
            have HBr : Hid (Below w.heap.size w wr) := uhid (HB.out.trans (hbr.out.mono HB.out.size))
            rw [← HBr.out.cell (p := ⟨b, off + k, none⟩) hbw] at hc
            clear hc0
            have hmem : m.unk[k] ∈ m.unk := List.getElem_mem hlt
            have hbad : Hid (sNum m.cls m.unk[k] = false → F = false) := uhid (fun e => by
              cases hFF : F with
              | false => rfl
              | true =>
                have h2 := List.all_eq_true.1 (HF.out.trans hFF) _ hmem
                rw [e] at h2
                cases h2)
            have hnext : Hid (sNum m.cls m.unk[k] = true → ((m.unk.take (k + 1)).all (sNum m.cls)) = true) := uhid (fun e => by
              rw [List.take_succ_eq_append_getElem hlt, List.all_append, hall.out]
              simp [e])
            have hkey : keyOf Try.prog 3 (.int .i64 m.unk[k]) = some (.int .i64 m.unk[k]) := Maps.keyOf_int_mk Try.underlying3 (HI.out _ hmem)
            have hhas := knD_has m.unk[k]
            have HOr : Hid (wr.ownsMap (H := Unit) Try.prog 3 unitElem g 8 KnD) := uhid (own_map_later HO.out hbr.out)
            have q0 := (HM.out.later (hbr.out.alloc hbr.out.size (.cells #[] 75)) hwlt.out (Nat.le_refl _)).cls
            have r0 : Hid ((wr.alloc (.cells #[] 75)).cell? ⟨w.heap.size, 0, none⟩ = some (.int .i64 m.cls)) := uhid q0
            have hbr2 : Hid (Below w.heap.size w (wr.alloc (.cells #[] 75))) := uhid (HBr.out.alloc HBr.out.size _)
            have hbr3 : Hid (Below w1.heap.size w1 (wr.alloc (.cells #[] 75))) := uhid (hbr.out.alloc hbr.out.size _)
            generalize m.unk[k] = n at hc hbad hnext hkey hhas
            rw [eU]
            clear hmem eU q0
            by_cases hn : 0 ≤ n ∧ n ≤ 65535
            · have hd : decide (0 ≤ n ∧ n ≤ 65535) = true := decide_eq_true hn
              cases hkn : sKnown n with
              | true =>
                have hv : F = false := hbad.out (decide_eq_false (fun h => by have := (h.2.2 c3).2; rw [hkn] at this; cases this))
                rw [hkn] at hhas
                subst hv
                clear hbad hnext
                go_wp2_with (refine wpList_lookup_own_unit _ rfl _ _ 73 rfl 3 75 keyedI Try.underlying73 (zeroN _) g 8 KnD rfl HOr.out _ _ rfl hkey ?_)
                refine (isNumber_any n _).mono ?_
                rintro e w' ⟨rfl, rfl⟩
                rw [hd]
                have q0 := r0.out
                go_wp2_with fail
                go_ret
                exact ⟨rfl, hbr2.out⟩
              | false =>
                rw [hkn] at hhas
                by_cases hn3 : n ≤ 32767
                · have HG := uhid (hnext.out (decide_eq_true ⟨hn.1, hn.2, fun h => ⟨hn3, hkn⟩⟩))
                  have g8 : ¬ (32768 : Int) ≤ n := by omega
                  clear hbad hnext
                  go_wp2_with (refine wpList_lookup_own_unit _ rfl _ _ 73 rfl 3 75 keyedI Try.underlying73 (zeroN _) g 8 KnD rfl HOr.out _ _ rfl hkey ?_)
                  refine (isNumber_any n _).mono ?_
                  rintro e w' ⟨rfl, rfl⟩
                  rw [hd]
                  have q0 := r0.out
                  go_wp2_with fail
                  exact ⟨⟨k + 1, by omega, by go_num, uhid HG.out, hbr3⟩, by simp [intOf]; omega⟩
                · have g8 : (32768 : Int) ≤ n := by omega
                  have hv : F = false := hbad.out (decide_eq_false (fun h => by have := (h.2.2 c3).1; omega))
                  subst hv
                  clear hbad hnext
                  go_wp2_with (refine wpList_lookup_own_unit _ rfl _ _ 73 rfl 3 75 keyedI Try.underlying73 (zeroN _) g 8 KnD rfl HOr.out _ _ rfl hkey ?_)
                  refine (isNumber_any n _).mono ?_
                  rintro e w' ⟨rfl, rfl⟩
                  rw [hd]
                  have q0 := r0.out
                  go_wp2_with fail
                  go_ret
                  exact ⟨rfl, hbr2.out⟩
            · have hd : decide (0 ≤ n ∧ n ≤ 65535) = false := decide_eq_false hn
              have hv : F = false := hbad.out (decide_eq_false (fun h => hn ⟨h.1, h.2.1⟩))
              subst hv
              clear hbad hnext
              go_wp2_with (refine wpList_lookup_own_unit _ rfl _ _ 73 rfl 3 75 keyedI Try.underlying73 (zeroN _) g 8 KnD rfl HOr.out _ _ rfl hkey ?_)
              refine (isNumber_any n _).mono ?_
              rintro e w' ⟨rfl, rfl⟩
              rw [hd]
              have q0 := r0.out
              go_wp2_with fail
              go_ret
              exact ⟨rfl, hbr2.out⟩
          · have i1 : ¬ (k : Int) < (m.unk.length : Int) := by omega
            have hv : F = true := by
              rw [← HF.out]
              have := hall.out
              rwa [List.take_of_length_le (by omega)] at this
            subst hv
            have HBr : Hid (Below w.heap.size w wr) := uhid (HB.out.trans (hbr.out.mono HB.out.size))
            clear hall hbr
            go_wp2_with fail
            go_ret
            exact ⟨rfl, HBr.out⟩
    · have g7 : (20 : Int) < (m.unk.length : Int) := by omega
      rw [decide_eq_false hl2, Bool.false_and]
      have hc' : ¬ m.cls = 3 ∨ m.code = 420 := by
        by_cases h3 : m.cls = 3
        · right
          by_cases h4 : m.code = 420
          · exact h4
          · exact absurd ⟨h3, h4⟩ hc
        · exact .inl h3
      clear hc
      rcases hc' with c1 | c1
      · go_enter Try.func28, Try.ntmps28
        go_wp2_with fail
        go_ret
        exact ⟨rfl, hb0⟩
      · go_enter Try.func28, Try.ntmps28
        go_wp2_with fail
        all_goals go_ret
        all_goals exact ⟨rfl, hb0⟩
end Go.Proofs.Ytejbhjcopldekaa
