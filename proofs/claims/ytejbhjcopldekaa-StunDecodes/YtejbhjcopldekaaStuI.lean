/- The program's Encode (stage 12). -/
import Derived.Test.YtejbhjcopldekaaStuH
namespace Go.Proofs.Ytejbhjcopldekaa
set_option linter.unusedVariables false
set_option maxRecDepth 100000
open Go.RowKit

theorem scell_same {w : World} {p : Addr} {v u : Value} (h : w.cell? p = some v) : (w.setCell p u).cell? p = some u := by
  go_simp
set_option maxHeartbeats 1000000 in
theorem enc1_yes (b : Nat) (m : SM) (ua : Option Addr) (uc : Nat) (w : World) (hM : MBox w b m ua uc) (hm : MOk w m ua uc) (h : rightS m = true) (hh : m.host < 4294967296) (hid : m.id.length = 12) :
    Calls Try.prog 21 #[.pointer (some ⟨b, 0, none⟩)] w fun e w' => ∃ a n c, e = .returned (.slice a n c) ∧ n = (encS m).length ∧ NewB w w' (.slice a n c) (encS m) := by
  have HM := uhid hM
  have HOk := uhid hm
  have HR := uhid ((rightS_iff m).1 h)
  obtain ⟨arr, harr⟩ : ∃ arr, sMsg m ua uc = arr := ⟨_, rfl⟩
  have hsz : arr.size = 19 := by rw [← harr]; rfl
  have I29 : (Try.prog.info? 29).map (·.size) = some arr.size := by rw [hsz]; rfl
  have HI := uhid I29
  have HA := uhid harr
  have hblk := hM.blk
  rw [harr] at hblk
  have HBLK := uhid hblk
  have hlt := hM.lt
  clear hM hm I29 hsz hblk harr
  go_enter Try.func21, Try.ntmps21
  go_wp2_with (refine wpList_load_row rfl 29 _ rfl b rfl 29 _ (0, 0) _ HBLK.out Try.underlying29 rfl HI.out ?_)
  rw [← HA.out]
  refine (right_any m ua uc w HOk.out).mono ?_
  rintro e w1 ⟨rfl, hb1⟩
  rw [h]
  have HB1 := uhid hb1
  have hblk1 := (hb1.block b hlt).trans HBLK.out
  have HBLK1 := uhid hblk1
  clear hb1 hblk1
  go_wp2_with fail
  refine (smust_ok 1 w1).mono ?_
  rintro e w2 ⟨⟨v, rfl⟩, rfl⟩
  go_wp2_with (refine wpList_load_row rfl 29 _ rfl b rfl 29 _ (0, 0) _ HBLK1.out Try.underlying29 rfl HI.out ?_)
  rw [← HA.out]
  refine (tell_new m ua uc w2 (HOk.out.later HB1.out) HR.out hh hid).mono ?_
  rintro e w3 ⟨a, n, c, rfl, hn, hN⟩
  have HN := uhid (NewB.trans HB1.out hN)
  have HL := uhid hn
  clear hN hn
  go_wp2_with fail
  go_ret
  exact ⟨a, n, c, rfl, HL.out, HN.out⟩
theorem enc1_no (b : Nat) (m : SM) (ua : Option Addr) (uc : Nat) (w : World) (hM : MBox w b m ua uc) (hm : MOk w m ua uc) (h : rightS m = false) :
    Calls Try.prog 21 #[.pointer (some ⟨b, 0, none⟩)] w fun e w' => e = span 1 ∧ Below w.heap.size w w' := by
  have HOk := uhid hm
  obtain ⟨arr, harr⟩ : ∃ arr, sMsg m ua uc = arr := ⟨_, rfl⟩
  have hsz : arr.size = 19 := by rw [← harr]; rfl
  have I29 : (Try.prog.info? 29).map (·.size) = some arr.size := by rw [hsz]; rfl
  have HI := uhid I29
  have HA := uhid harr
  have hblk := hM.blk
  rw [harr] at hblk
  have HBLK := uhid hblk
  clear hM hm I29 hsz hblk harr
  go_enter Try.func21, Try.ntmps21
  go_wp2_with (refine wpList_load_row rfl 29 _ rfl b rfl 29 _ (0, 0) _ HBLK.out Try.underlying29 rfl HI.out ?_)
  rw [← HA.out]
  refine (right_any m ua uc w HOk.out).mono ?_
  rintro e w1 ⟨rfl, hb1⟩
  rw [h]
  have HB1 := uhid hb1
  clear hb1
  go_wp2_with fail
  refine (smust_no 1 w1).mono ?_
  rintro e w2 ⟨rfl, rfl⟩
  go_wp2_with fail
  exact ⟨rfl, rfl, HB1.out⟩

set_option maxHeartbeats 1000000 in
theorem caughtB_ok (cap : Array Value) (w : World) (R : Value → World → Prop)
    (hdo : Calls Try.prog 21 cap (w.alloc (.cells #[.int .i64 0] 33)) fun e w' => ∃ v, e = .returned v ∧ w'.heap[w.heap.size]? = some (.cells #[.int .i64 0] 33 (0, 0)) ∧ R v (w'.setCell ⟨w.heap.size, 0, none⟩ (.int .i64 0))) :
    Calls Try.prog 20 #[.func (.func 21) #[] cap] w fun e w' => ∃ v, e = .returned (.tuple #[v, .int .i64 0]) ∧ R v w' := by
  have hmf : ∀ (fn : Fn) (first cap : Array Value) (w : World), (Instr.makeFunc fn first cap).run Try.prog w = .ok (.func fn first cap) w := fun _ _ _ _ => rfl
  have HDO := uhid hdo
  clear hdo
  go_enter_defers Try.func20, Try.ntmps20
  go_wp2_with fail
  refine (HDO.out).mono ?_
  rintro e w2 ⟨v, rfl, hrow, hR⟩
  have q0 : w2.cell? ⟨w.heap.size, 0, none⟩ = some (.int .i64 0) := by rw [cell_of_row w2 _ 0 _ _ (0, 0) hrow]; rfl
  have f0 : w2.frozen? ⟨w.heap.size, 0, none⟩ = false := frozen_of_row w2 _ 0 _ _ hrow
  have hc3 : (w2.setCell ⟨w.heap.size, 0, none⟩ (.int .i64 0)).cell? ⟨w.heap.size, 0, none⟩ = some (.int .i64 0) := scell_same q0
  have HR := uhid hR
  clear hR HDO
  go_wp2_with fail
  obtain ⟨U, hU⟩ : ∃ U, w2.setCell ⟨w.heap.size, 0, none⟩ (.int .i64 0) = U := ⟨_, rfl⟩
  rw [hU] at hc3 HR
  rw [hU]
  clear hU q0 f0 hrow
  refine leaves_cons (f := 39) (args := #[.pointer (some ⟨w.heap.size, 0, none⟩)]) (by simp) (by simp [go_sem]) ?_
  refine (bcatch_ok w.heap.size U).mono ?_
  rintro e u' w'' ⟨rfl, rfl, rfl⟩
  simp only [settle, Leaves]
  refine ⟨.tuple #[v, .int .i64 0], ?_, ?_⟩
  · simp [results, Try.results20, go_sem, hc3]
  · exact ⟨v, rfl, HR.out⟩

set_option maxHeartbeats 1000000 in
theorem caughtB_no (cap : Array Value) (w : World) (er : Nat)
    (hdo : Calls Try.prog 21 cap (w.alloc (.cells #[.int .i64 0] 33)) fun e w' => e = span er ∧ Below (w.heap.size + 1) (w.alloc (.cells #[.int .i64 0] 33)) w') :
    Calls Try.prog 20 #[.func (.func 21) #[] cap] w fun e w' => e = .returned (.tuple #[.slice none 0 0, .int .i64 (er : Int)]) ∧ Below w.heap.size w w' := by
  have hmf : ∀ (fn : Fn) (first cap : Array Value) (w : World), (Instr.makeFunc fn first cap).run Try.prog w = .ok (.func fn first cap) w := fun _ _ _ _ => rfl
  have HDO := uhid hdo
  clear hdo
  have hrow0 := heap_alloc_new w (.cells #[.int .i64 0] 33)
  have hb0 : Below w.heap.size w (w.alloc (.cells #[.int .i64 0] 33)) := (Below.refl _ _).alloc (Nat.le_refl _) _
  have HROW := uhid hrow0
  have HB0 := uhid hb0
  clear hrow0 hb0
  go_enter_defers Try.func20, Try.ntmps20
  go_wp2_with fail
  refine (HDO.out).mono ?_
  rintro e w2 ⟨rfl, hb⟩
  have hrow := (hb.block w.heap.size (by omega)).trans HROW.out
  have q0 : w2.cell? ⟨w.heap.size, 0, none⟩ = some (.int .i64 0) := by rw [cell_of_row w2 _ 0 _ _ (0, 0) hrow]; rfl
  have f0 : w2.frozen? ⟨w.heap.size, 0, none⟩ = false := frozen_of_row w2 _ 0 _ _ hrow
  have hc3 : (w2.setCell ⟨w.heap.size, 0, none⟩ (.int .i64 (er : Int))).cell? ⟨w.heap.size, 0, none⟩ = some (.int .i64 (er : Int)) := scell_same q0
  have HB2 : Hid (Below w.heap.size w (w2.setCell ⟨w.heap.size, 0, none⟩ (.int .i64 (er : Int)))) := uhid ((HB0.out.trans (hb.mono (by omega))).setCell (Nat.le_refl _) _)
  clear HDO hb hrow HROW HB0
  go_wp2_with fail
  refine leaves_cons (f := 39) (args := #[.pointer (some ⟨w.heap.size, 0, none⟩)]) (by simp) (by simp [go_sem]) ?_
  refine (bcatch_no w.heap.size er [] w2 q0 f0).mono ?_
  rintro e u' w'' ⟨rfl, rfl, rfl⟩
  obtain ⟨Z, hZ⟩ : ∃ Z, w2.setCell ⟨w.heap.size, 0, none⟩ (.int .i64 (er : Int)) = Z := ⟨_, rfl⟩
  rw [hZ] at hc3 HB2
  rw [hZ]
  clear hZ q0 f0
  simp only [settle, Leaves, List.dropWhile_nil]
  refine ⟨.tuple #[.slice none 0 0, .int .i64 (er : Int)], ?_, ?_⟩
  · simp [results, Try.results20, go_sem, hc3]
  · exact ⟨rfl, HB2.out⟩

/-- What is one's own stays, where another block is written to. -/
theorem NewB.setAway {w W : World} {v : Value} {l : List UInt8} {g : Nat} (h : NewB w W v l) (hg : g < w.heap.size) (u : Value) : W.setCell ⟨g, 0, none⟩ u |>.ownsRow w.heap.size 5 1 v l.length (l.map bv) :=
  own_but h.2 (But.setCell W g 0 u) (fun b' hb' e => by have := (own_base h.2 b' hb').1; cases e; omega)
theorem sencode_yes (m : SM) (ua : Option Addr) (uc : Nat) (w : World) (hm : MOk w m ua uc) (h : rightS m = true) (hh : m.host < 4294967296) (hid : m.id.length = 12) :
    Calls Try.prog 11 #[.agg (sMsg m ua uc)] w fun e w' => ∃ a n c, e = .returned (.tuple #[.slice a n c, .int .i64 0]) ∧ n = (encS m).length ∧ NewB w w' (.slice a n c) (encS m) := by
  have hmf : ∀ (fn : Fn) (first cap : Array Value) (w : World), (Instr.makeFunc fn first cap).run Try.prog w = .ok (.func fn first cap) w := fun _ _ _ _ => rfl
  have hM := MBox.new w m ua uc
  have hb0 : Below w.heap.size w (w.alloc (.cells (sMsg m ua uc) 29)) := (Below.refl _ _).alloc (Nat.le_refl _) _
  have HM := uhid hM
  have HB0 := uhid hb0
  have HOK := uhid (hm.later hb0)
  obtain ⟨arr, harr⟩ : ∃ arr, sMsg m ua uc = arr := ⟨_, rfl⟩
  rw [harr] at HM HB0 HOK ⊢
  clear hm hM hb0 harr
  go_enter Try.func11, Try.ntmps11
  go_wp2_with fail
  obtain ⟨W, hW⟩ : ∃ W, w.alloc (.cells arr 29) = W := ⟨_, rfl⟩
  rw [hW] at HM HB0 HOK
  rw [hW]
  clear hW hmf
  have hbE : Below W.heap.size W (W.alloc (.cells #[.int .i64 0] 33)) := (Below.refl _ _).alloc (Nat.le_refl _) _
  have hME := HM.out.later hbE HM.out.lt (Nat.le_refl _)
  refine (caughtB_ok #[.pointer (some ⟨w.heap.size, 0, none⟩)] W (fun v w' => ∃ a n c, v = .slice a n c ∧ n = (encS m).length ∧ NewB W w' (.slice a n c) (encS m)) ?_).mono ?_
  · refine (enc1_yes w.heap.size m ua uc _ hME (HOK.out.later hbE) h hh hid).mono ?_
    rintro e w1 ⟨a, n, c, rfl, hn, hN⟩
    have hszE : (W.alloc (.cells #[.int .i64 0] 33)).heap.size = W.heap.size + 1 := by rw [World.size_alloc]
    refine ⟨_, rfl, (hN.1.block W.heap.size (by omega)).trans (heap_alloc_new W _), a, n, c, rfl, hn, ?_⟩
    exact ⟨(hbE.trans (hN.1.mono (by omega))).setCell (Nat.le_refl _) _, own_lower (hN.setAway (by omega) _) (by omega)⟩
  · rintro e w1 ⟨v, rfl, a, n, c, rfl, hn, hN⟩
    have HN := uhid (NewB.trans HB0.out hN)
    have HL := uhid hn
    clear hN hn hME hbE
    go_wp2_with fail
    go_ret2
    exact ⟨a, n, c, rfl, HL.out, HN.out⟩
theorem sencode_no (m : SM) (ua : Option Addr) (uc : Nat) (w : World) (hm : MOk w m ua uc) (h : rightS m = false) :
    Calls Try.prog 11 #[.agg (sMsg m ua uc)] w fun e w' => e = .returned (.tuple #[.slice none 0 0, .int .i64 1]) ∧ Below w.heap.size w w' := by
  have hmf : ∀ (fn : Fn) (first cap : Array Value) (w : World), (Instr.makeFunc fn first cap).run Try.prog w = .ok (.func fn first cap) w := fun _ _ _ _ => rfl
  have hM := MBox.new w m ua uc
  have hb0 : Below w.heap.size w (w.alloc (.cells (sMsg m ua uc) 29)) := (Below.refl _ _).alloc (Nat.le_refl _) _
  have HM := uhid hM
  have HB0 := uhid hb0
  have HOK := uhid (hm.later hb0)
  obtain ⟨arr, harr⟩ : ∃ arr, sMsg m ua uc = arr := ⟨_, rfl⟩
  rw [harr] at HM HB0 HOK ⊢
  clear hm hM hb0 harr
  go_enter Try.func11, Try.ntmps11
  go_wp2_with fail
  obtain ⟨W, hW⟩ : ∃ W, w.alloc (.cells arr 29) = W := ⟨_, rfl⟩
  rw [hW] at HM HB0 HOK
  rw [hW]
  clear hW hmf
  have hbE : Below W.heap.size W (W.alloc (.cells #[.int .i64 0] 33)) := (Below.refl _ _).alloc (Nat.le_refl _) _
  have hME := HM.out.later hbE HM.out.lt (Nat.le_refl _)
  refine (caughtB_no #[.pointer (some ⟨w.heap.size, 0, none⟩)] W 1 ?_).mono ?_
  · refine (enc1_no w.heap.size m ua uc _ hME (HOK.out.later hbE) h).mono ?_
    rintro e w1 ⟨rfl, hb⟩
    rw [World.size_alloc] at hb
    exact ⟨rfl, hb⟩
  · rintro e w1 ⟨rfl, hb⟩
    have HB := uhid (HB0.out.trans (hb.mono HB0.out.size))
    clear hb hME hbE
    go_wp2_with fail
    go_ret2
    exact ⟨rfl, HB.out⟩
end Go.Proofs.Ytejbhjcopldekaa
