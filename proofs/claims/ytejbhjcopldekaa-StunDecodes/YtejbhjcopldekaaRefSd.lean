/- The document's Decode (stage 12). -/
import Derived.Test.YtejbhjcopldekaaRefSc
import Derived.Test.YtejbhjcopldekaaStuP
import Derived.Laws.ResultCell
import Derived.Deep.DeepCutAuto
import Derived.Deep.CutBlock
namespace Go.Proofs.Ytejbhjcopldekaa
set_option linter.unusedVariables false
set_option maxRecDepth 100000
open Go.RowKit

theorem make_zero12 (w : World) (n : Nat) (h : n ≤ 2000000) :
    (Instr.makeSlice 32 (.int .i64 (n : Int)) (.int .i64 (n : Int))).run Try.prog w = .ok (.slice (some ⟨w.heap.size, 0, none⟩) n n) (w.alloc (.cells ((List.replicate n (0 : UInt8)).map bv).toArray 5)) := by
  obtain ⟨i0, hi, hz0, hz1, hz2⟩ := info_parts Try.infoU8
  have hr := run_make (P := Try.prog) w 32 5 i0 (.int .u8 0) Try.underlying32 hi hz0 .i64 .i64 (n : Int) (n : Int) (by omega) (by omega) (by rw [hz2]; omega) (by omega)
  have e1 : ((n : Int)).toNat = n := by omega
  rw [e1, hz1, Nat.mul_one] at hr
  have e : (madeCells (Value.int .u8 0).cells n).toList = List.replicate n (.int .u8 0) := toList_madeCells_one _ _
  have e2 : madeCells (Value.int .u8 0).cells n = ((List.replicate n (0 : UInt8)).map bv).toArray := by
    rw [← Array.toList_inj, e]
    simp [bv]
  rw [e2] at hr
  exact hr
theorem sTwo_lt (b : List UInt8) (at_ : Nat) : sTwo b at_ < 65536 := getV_lt b at_ 2
set_option maxHeartbeats 1000000 in
theorem two_any (bb off len cap at_ : Nat) (l : List UInt8) (w : World) (hm : cap ≤ maxLen) (hlc : len ≤ cap) (hB : Byt w (some ⟨bb, off, none⟩) len l) (h : at_ + 2 ≤ len) :
    Calls Try.prog 36 #[.slice (some ⟨bb, off, none⟩) len cap, .int .i64 (at_ : Int)] w fun e w' => e = .returned (.int .i64 (sTwo l at_ : Int)) ∧ w' = w := by
  have ht := sTwo_lt l at_
  go_enter Try.func36, Try.ntmps36
  go_wp2_with fail
  refine (refGet_yes bb off len cap at_ 2 true l w hm hlc hB (by decide) (by decide) h).mono ?_
  rintro e w1 ⟨rfl, rfl⟩
  have hw : IntKind.i64.wrap ((sTwo l at_ : Nat) : Int) = (sTwo l at_ : Int) := by rw [IntKind.wrap_i64]; omega
  have e : getV l true at_ 2 = sTwo l at_ := rfl
  rw [e]
  go_wp2_with fail
  go_ret
  exact ⟨rfl, rfl⟩

/-- What Decode answers. -/
def DecEnd (w : World) (b : List UInt8) (e : Ending) (w' : World) : Prop :=
  ∃ (m : SM) (ok : Bool) (ia : Option Addr) (ic : Nat) (ua : Option Addr) (uc : Nat), e = .returned (.tuple #[.agg (dMsg m ia ic ua uc), .bool ok]) ∧ Below w.heap.size w w' ∧ Byt w' ia m.id.length m.id ∧ IntsAt w' ua m.unk.length m.unk ∧
    ((ok = false ∧ decS b = none ∧ m = sZero 0 (List.replicate 12 0)) ∨ (ok = true ∧ decS b = some m))
def zRow : Array Value := #[.int .i64 0, .slice none 0 0, .int .u32 0, .int .i64 0, .string ⟨#[]⟩, .int .i64 0, .string ⟨#[]⟩, .slice none 0 0]
def nRow (s : Nat) : Array Value := #[.int .i64 0, .slice (some ⟨s + 1, 0, none⟩) 12 12, .int .u32 0, .int .i64 0, .string ⟨#[]⟩, .int .i64 0, .string ⟨#[]⟩, .slice none 0 0]
/-- What stands when it is told that the bytes are none. -/
structure DnW (w W : World) : Prop where
  res : W.heap[w.heap.size]? = some (.cells zRow 37 (0, 0))
  non : W.heap[w.heap.size + 1 + 1]? = some (.cells (nRow w.heap.size) 37 (0, 0))
  ids : Byt W (some ⟨w.heap.size + 1, 0, none⟩) 12 (List.replicate 12 0)
  bel : Below w.heap.size w W
theorem DnW.grow {w W W' : World} {g : Nat} (h : DnW w W) (hG : W.grownBy W' (some g)) (hg : w.heap.size + 1 + 1 < g) : DnW w W' := by
  have l1 : w.heap.size + 1 + 1 < W.heap.size := (Array.getElem?_eq_some_iff.1 h.non).1
  exact ⟨by rw [hG.block _ (by omega) (fun e => by cases e; omega)]; exact h.res, by rw [hG.block _ l1 (fun e => by cases e; omega)]; exact h.non, h.ids.but hG (by omega), h.bel.grown hG h.bel.size (fun k e => by cases e; omega)⟩

theorem results_ct {P : Program} {fn : Func} {p u : Tmp} {ty : TypeId} (h : fn.results = #[.cell p ty, .tmp u]) (tmps : Array Value) (w : World) (g : Nat) (t : TypeId) (cs : Array Value) (v : Value) (d : TypeDesc)
    (hp : tmps.getD p undef = .pointer (some ⟨g, 0, none⟩)) (hv : tmps.getD u undef = v) (hg : w.heap[g]? = some (.cells cs t (0, 0)))
    (hu : P.underlying ty = some d) (hd : (match d with | .struct _ | .array _ _ => true | _ => false) = true) (hi : (P.info? ty).map (·.size) = some cs.size) : (results fn tmps).run P w = .ok (.tuple #[.agg cs, v]) w := by
  have hp' : tmps[p]?.getD undef = .pointer (some ⟨g, 0, none⟩) := by simpa using hp
  have hv' : tmps[u]?.getD undef = v := by simpa using hv
  simp [results, h, hp', hv', asAddr, run_loadVar_row w g t ty cs (0, 0) d hg hu hd hi]
theorem dm_info (cs : Array Value) (h : cs.size = 8) : (Try.prog.info? 37).map (·.size) = some cs.size := by
  have e1 : (Try.prog.info? 37).map (·.size) = some 8 := by kernel_rfl
  rw [e1, h]
theorem row_set {B : Nat} {w W : World} (hb : Below B w W) (g : Nat) (hg : B ≤ g) (cs : Array Value) : Below B w (W.setRow g cs) :=
  ⟨hb.os, hb.tape, hb.output, by have := hb.size; simpa [World.setRow] using this, fun k hk => by rw [setRow_other W g k cs (by omega)]; exact hb.block k hk⟩
theorem dec_none {w W : World} {b : List UInt8} (h : DnW w W) (hb : decS b = none) : DecEnd w b (.returned (.tuple #[.agg (nRow w.heap.size), .bool false])) (W.setRow w.heap.size (nRow w.heap.size)) :=
  ⟨sZero 0 (List.replicate 12 0), false, some ⟨w.heap.size + 1, 0, none⟩, 12, none, 0, rfl, row_set h.bel _ (Nat.le_refl _) _,
    (by
      have hk := h.ids
      refine ⟨hk.1, ?_⟩
      rcases hk.2 with h0 | ⟨b', off', e, hc⟩
      · exact .inl h0
      · cases e
        exact .inr ⟨_, _, rfl, fun i hi => by rw [World.cell?_of_block (setRow_other W w.heap.size _ _ (by show w.heap.size + 1 ≠ w.heap.size; omega))]; exact hc i hi⟩),
    ⟨rfl, fun i hi => by simp [sZero] at hi⟩, .inl ⟨rfl, hb, rfl⟩⟩
theorem DmIs.fs {W : World} {g ic uc : Nat} {ia ua : Option Addr} {m : SM} (h : DmIs W g m ia ic ua uc) :
    W.cell? ⟨g, 0, none⟩ = some (.int .i64 m.cls) ∧ W.cell? ⟨g, 2, none⟩ = some (.int .u32 (m.host : Int)) ∧ W.cell? ⟨g, 3, none⟩ = some (.int .i64 m.port) ∧ W.cell? ⟨g, 4, none⟩ = some (.string (S m.soft)) ∧ W.cell? ⟨g, 5, none⟩ = some (.int .i64 m.code) ∧ W.cell? ⟨g, 6, none⟩ = some (.string (S m.reason)) ∧ W.cell? ⟨g, 7, none⟩ = some (.slice ua m.unk.length uc) :=
  ⟨h.c 0 _ rfl, h.c 2 _ rfl, h.c 3 _ rfl, h.c 4 _ rfl, h.c 5 _ rfl, h.c 6 _ rfl, h.c 7 _ rfl⟩
def iq (n : Int) : Value := .int .i64 n
/-- Decode's message on the way. -/
structure DcW (w : World) (g : Nat) (m : SM) (ia : Option Addr) (ic : Nat) (ua : Option Addr) (uc : Nat) (W : World) : Prop where
  msg : DmIs W g m ia ic ua uc
  seg : Seg W 3 ua m.unk.length uc (m.unk.map iq)
  hi : ∀ j, blockOf ua = some j → g < j
  ids : Byt W ia m.id.length m.id
  lo : ∀ j, blockOf ia = some j → j < g
  dn : DnW w W
  gw : w.heap.size + 1 + 1 < g
section
variable {w W W' : World} {g ic uc : Nat} {ia ua : Option Addr} {m : SM}
theorem Byt.keptB {W W' : World} {a : Option Addr} {n : Nat} {l : List UInt8} (h : Byt W a n l) (hk : ∀ j, blockOf a = some j → W'.heap[j]? = W.heap[j]?) : Byt W' a n l := by
  refine ⟨h.1, ?_⟩
  rcases h.2 with h0 | ⟨b', off', rfl, hc⟩
  · exact .inl h0
  · exact .inr ⟨b', off', rfl, fun i hi => by rw [World.cell?_of_block (hk b' rfl)]; exact hc i hi⟩
theorem DcW.drew (h : DcW w g m ia ic ua uc W) : DcW w g m ia ic ua uc W.drew :=
  ⟨h.msg.kept rfl, h.seg.drew, h.hi, h.ids.keptB fun _ _ => rfl, h.lo, ⟨h.dn.res, h.dn.non, h.dn.ids.keptB fun _ _ => rfl, h.dn.bel.drew⟩, h.gw⟩
theorem DcW.upd (h : DcW w g m ia ic ua uc W) (i : Nat) (v : Value) (m' : SM) (hrow : (dMsg m ia ic ua uc).setIfInBounds i v = dMsg m' ia ic ua uc) (hu : m'.unk = m.unk) (hi : m'.id = m.id) :
    DcW w g m' ia ic ua uc (W.setCell ⟨g, i, none⟩ v) := by
  have hset : ∀ j, j ≠ g → (W.setCell ⟨g, i, none⟩ v).heap[j]? = W.heap[j]? := fun j hj => heap_setCell_other W ⟨g, i, none⟩ j v hj
  refine ⟨⟨by rw [heap_setCell_same W g i _ _ _ h.msg.row, hrow]⟩, ?_, h.hi, ?_, h.lo, ?_, h.gw⟩
  · rw [hu]; exact h.seg.kept fun j hj => hset j (by have := h.hi j hj; omega)
  · rw [hi]; exact h.ids.keptB fun j hj => hset j (by have := h.lo j hj; omega)
  · exact h.dn.grow ⟨rfl, rfl, rfl, by simp, fun k _ hne => hset k (fun e => hne (by rw [e]))⟩ h.gw
theorem DcW.app (h : DcW w g m ia ic ua uc W) (x : Int) (hl : m.unk.length ≤ 100000) :
    ∃ a2 c2 W2, (Builtin.append_ #[27, 27] 27 #[.slice ua m.unk.length uc, .slice (some ⟨W.heap.size, 0, none⟩) 1 1]).run Try.prog (W.alloc (.cells #[.int .i64 x] 3)) = .ok (.slice a2 (m.unk.length + 1) c2) W2 ∧
      (∃ v, W2.cell? ⟨g, 7, none⟩ = some v) ∧ W2.frozen? ⟨g, 7, none⟩ = false ∧ DcW w g { m with unk := m.unk ++ [x] } ia ic a2 c2 (W2.setCell ⟨g, 7, none⟩ (.slice a2 (m.unk.length + 1) c2)) ∧ W2.heap[g]? = W.heap[g]? := by
  obtain ⟨i0, hi, hz0, hz1, hz2⟩ := info_parts (show (Try.prog.info? 3).map (fun i => (i.zero, i.size, i.bytes)) = some (some (.int .i64 0), 1, 8) by kernel_rfl)
  obtain ⟨a2, c2, W2, hap, hs2, hgr, hfr, hsz⟩ := append_seg (P := Try.prog) 27 27 3 i0 (.int .i64 0) 8 Try.underlying27 hi hz0 hz1 hz2 rfl W ua m.unk.length uc (m.unk.map iq) h.seg (.int .i64 x) rfl (by unfold maxLen; omega) (by omega)
  have hgl := h.msg.lt
  have hne : ∀ j, j ≤ g → blockOf ua ≠ some j := fun j hj e => by have := h.hi j e; omega
  have hold : ∀ j, j ≤ g → W2.heap[j]? = W.heap[j]? := fun j hj => hgr.block j (by omega) (fun e => hne j hj e.symm)
  have hmsg : DmIs W2 g m ia ic ua uc := h.msg.kept (hold g (Nat.le_refl _))
  have hhi : ∀ j, blockOf a2 = some j → g < j := fun j hj => by
    rcases hfr with e | e
    · exact h.hi j (by rw [← e]; exact hj)
    · have := e j hj; omega
  have hset : ∀ j, j ≠ g → (W2.setCell ⟨g, 7, none⟩ (.slice a2 (m.unk.length + 1) c2)).heap[j]? = W2.heap[j]? := fun j hj => heap_setCell_other W2 ⟨g, 7, none⟩ j _ hj
  refine ⟨a2, c2, W2, hap, ⟨_, hmsg.c 7 _ rfl⟩, frozen_of_row W2 g 7 _ _ hmsg.row, ⟨⟨?_⟩, ?_, hhi, ?_, h.lo, ?_, h.gw⟩, hold g (Nat.le_refl _)⟩
  · rw [heap_setCell_same W2 g 7 _ _ _ hmsg.row]
    simp [dMsg]
  · have : Seg W2 3 a2 (m.unk.length + 1) c2 ((m.unk ++ [x]).map iq) := by simpa [iq] using hs2
    have h2 := this.kept (w' := W2.setCell ⟨g, 7, none⟩ (.slice a2 (m.unk.length + 1) c2)) fun j hj => hset j (by have := hhi j hj; omega)
    simpa using h2
  · exact h.ids.keptB fun j hj => by have := h.lo j hj; rw [hset j (by omega), hold j (by omega)]
  · have l1 : w.heap.size + 1 + 1 < W.heap.size := (Array.getElem?_eq_some_iff.1 h.dn.non).1
    have k := h.gw
    have keep : ∀ j, j < g → (W2.setCell ⟨g, 7, none⟩ (.slice a2 (m.unk.length + 1) c2)).heap[j]? = W.heap[j]? := fun j hj => by rw [hset j (by omega), hold j (by omega)]
    refine ⟨by rw [keep _ (by omega)]; exact h.dn.res, by rw [keep _ (by omega)]; exact h.dn.non, h.dn.ids.keptB fun j hj => keep j (by have e : w.heap.size + 1 = j := (by simpa [blockOf] using hj); omega), ?_⟩
    exact (h.dn.bel.grown hgr h.dn.bel.size (fun j hj => by have := h.hi j hj; omega)).setCell (p := ⟨g, 7, none⟩) (by show w.heap.size ≤ g; omega) _
theorem ints_seg {l : List Int} (h : Seg W 3 ua l.length uc (l.map iq)) : IntsAt W ua l.length l :=
  ⟨rfl, fun i hi => by
    obtain ⟨b', off', e, hc, _⟩ := h.cell i hi
    have hlt := h.lt b' (by rw [e]; rfl)
    exact ⟨b', off', e, hlt, by rw [hc, List.getElem?_map, List.getElem?_eq_getElem hi]; rfl⟩⟩
theorem DcW.ints (h : DcW w g m ia ic ua uc W) : IntsAt W ua m.unk.length m.unk := ints_seg h.seg
theorem DcW.later (h : DcW w g m ia ic ua uc W) (hb : Below W.heap.size W W') : DcW w g m ia ic ua uc W' := by
  have hgl := h.msg.lt
  have hgw := h.gw
  have l1 : w.heap.size + 1 + 1 < W.heap.size := (Array.getElem?_eq_some_iff.1 h.dn.non).1
  refine ⟨h.msg.kept (hb.block g hgl), h.seg.kept fun j hj => hb.block j (h.seg.lt j hj), h.hi, h.ids.keptB fun j hj => hb.block j (by have := h.lo j hj; omega), h.lo, ⟨by rw [hb.block _ (by omega)]; exact h.dn.res, by rw [hb.block _ l1]; exact h.dn.non, h.dn.ids.keptB fun j hj => hb.block j (by have e : w.heap.size + 1 = j := (by simpa [blockOf] using hj); omega), h.dn.bel.trans (hb.mono h.dn.bel.size)⟩, h.gw⟩
/-- What is told of the bytes that are one. -/
theorem DcW.fin {b : List UInt8} (h : DcW w g m ia ic ua uc W) (hlo : ∀ j, blockOf ia = some j → w.heap.size < j) (hd : decS b = some m) :
    DecEnd w b (.returned (.tuple #[.agg (dMsg m ia ic ua uc), .bool true])) (W.setRow w.heap.size (dMsg m ia ic ua uc)) := by
  have hset : ∀ j, j ≠ w.heap.size → (W.setRow w.heap.size (dMsg m ia ic ua uc)).heap[j]? = W.heap[j]? := fun j hj => setRow_other W w.heap.size j _ hj
  have hgw := h.gw
  refine ⟨m, true, ia, ic, ua, uc, rfl, row_set h.dn.bel _ (Nat.le_refl _) _, h.ids.keptB fun j hj => hset j (by have := hlo j hj; omega), ints_seg (uc := uc) (h.seg.kept fun j hj => hset j (by have := h.hi j hj; omega)), .inr ⟨rfl, hd⟩⟩
end

set_option maxHeartbeats 1000000 in
theorem refDecode_any (bb off len cap : Nat) (b : List UInt8) (w : World) (hm : cap ≤ maxLen) (hlc : len ≤ cap) (hB : Byt w (some ⟨bb, off, none⟩) len b) (hlm : len ≤ 600) (h28 : 28 ≤ len) :
    Calls Try.prog 17 #[.slice (some ⟨bb, off, none⟩) len cap] w fun e w' => DecEnd w b e w' := by
  have hm' : cap ≤ 9223372036854775807 := by unfold maxLen at hm; omega
  have i1 : ¬ (len : Int) < 28 := by omega
  have i2 : ¬ (len < 28) := by omega
  have hbb : bb < w.heap.size := hB.lt (by omega)
  have hmk := make_zero12 (w.alloc (.cells #[.int .i64 0, .slice none 0 0, .int .u32 0, .int .i64 0, .string ⟨#[]⟩, .int .i64 0, .string ⟨#[]⟩, .slice none 0 0] 37)) 12 (by omega)
  obtain ⟨Z12, hZ12⟩ : ∃ Z, ((List.replicate 12 (0 : UInt8)).map bv).toArray = Z := ⟨_, rfl⟩
  rw [hZ12, World.size_alloc] at hmk
  have hmk2 : (Instr.makeSlice 32 (.int .i64 12) (.int .i64 12)).run Try.prog (w.alloc (.cells #[.int .i64 0, .slice none 0 0, .int .u32 0, .int .i64 0, .string ⟨#[]⟩, .int .i64 0, .string ⟨#[]⟩, .slice none 0 0] 37)) = .ok (.slice (some ⟨w.heap.size + 1, 0, none⟩) 12 12) ((w.alloc (.cells #[.int .i64 0, .slice none 0 0, .int .u32 0, .int .i64 0, .string ⟨#[]⟩, .int .i64 0, .string ⟨#[]⟩, .slice none 0 0] 37)).alloc (.cells Z12 5)) := hmk
  have hsz : (((w.alloc (.cells #[.int .i64 0, .slice none 0 0, .int .u32 0, .int .i64 0, .string ⟨#[]⟩, .int .i64 0, .string ⟨#[]⟩, .slice none 0 0] 37)).alloc (.cells Z12 5)).alloc (.cells #[.int .i64 0, .slice (some ⟨w.heap.size + 1, 0, none⟩) 12 12, .int .u32 0, .int .i64 0, .string ⟨#[]⟩, .int .i64 0, .string ⟨#[]⟩, .slice none 0 0] 37)).heap.size = w.heap.size + 1 + 1 + 1 := by simp only [World.size_alloc]
  have hD0 : DnW w (((w.alloc (.cells #[.int .i64 0, .slice none 0 0, .int .u32 0, .int .i64 0, .string ⟨#[]⟩, .int .i64 0, .string ⟨#[]⟩, .slice none 0 0] 37)).alloc (.cells Z12 5)).alloc (.cells #[.int .i64 0, .slice (some ⟨w.heap.size + 1, 0, none⟩) 12 12, .int .u32 0, .int .i64 0, .string ⟨#[]⟩, .int .i64 0, .string ⟨#[]⟩, .slice none 0 0] 37)) := by
    have b1 : Below (w.heap.size + 1) (w.alloc (.cells #[.int .i64 0, .slice none 0 0, .int .u32 0, .int .i64 0, .string ⟨#[]⟩, .int .i64 0, .string ⟨#[]⟩, .slice none 0 0] 37)) (((w.alloc (.cells #[.int .i64 0, .slice none 0 0, .int .u32 0, .int .i64 0, .string ⟨#[]⟩, .int .i64 0, .string ⟨#[]⟩, .slice none 0 0] 37)).alloc (.cells Z12 5)).alloc (.cells #[.int .i64 0, .slice (some ⟨w.heap.size + 1, 0, none⟩) 12 12, .int .u32 0, .int .i64 0, .string ⟨#[]⟩, .int .i64 0, .string ⟨#[]⟩, .slice none 0 0] 37)) := ((Below.refl _ _).alloc (by simp) _).alloc (by simp only [World.size_alloc]; omega) _
    have b2 : Below (w.heap.size + 1 + 1) ((w.alloc (.cells #[.int .i64 0, .slice none 0 0, .int .u32 0, .int .i64 0, .string ⟨#[]⟩, .int .i64 0, .string ⟨#[]⟩, .slice none 0 0] 37)).alloc (.cells Z12 5)) (((w.alloc (.cells #[.int .i64 0, .slice none 0 0, .int .u32 0, .int .i64 0, .string ⟨#[]⟩, .int .i64 0, .string ⟨#[]⟩, .slice none 0 0] 37)).alloc (.cells Z12 5)).alloc (.cells #[.int .i64 0, .slice (some ⟨w.heap.size + 1, 0, none⟩) 12 12, .int .u32 0, .int .i64 0, .string ⟨#[]⟩, .int .i64 0, .string ⟨#[]⟩, .slice none 0 0] 37)) := (Below.refl _ _).alloc (by simp only [World.size_alloc]; omega) _
    refine ⟨by rw [b1.block _ (by omega)]; exact heap_alloc_new w _, ?_, ?_, ((((Below.refl _ _).alloc (Nat.le_refl _) _).alloc (by simp) _).alloc (by simp only [World.size_alloc]; omega) _)⟩
    · have := heap_alloc_new ((w.alloc (.cells #[.int .i64 0, .slice none 0 0, .int .u32 0, .int .i64 0, .string ⟨#[]⟩, .int .i64 0, .string ⟨#[]⟩, .slice none 0 0] 37)).alloc (.cells Z12 5)) (.cells #[.int .i64 0, .slice (some ⟨w.heap.size + 1, 0, none⟩) 12 12, .int .u32 0, .int .i64 0, .string ⟨#[]⟩, .int .i64 0, .string ⟨#[]⟩, .slice none 0 0] 37)
      simp only [World.size_alloc] at this
      exact this
    · have := byt_lit ((w.alloc (.cells #[.int .i64 0, .slice none 0 0, .int .u32 0, .int .i64 0, .string ⟨#[]⟩, .int .i64 0, .string ⟨#[]⟩, .slice none 0 0] 37)).alloc (.cells Z12 5)) (List.replicate 12 0) (w.heap.size + 1) _ _ _ (by have := heap_alloc_new (w.alloc (.cells #[.int .i64 0, .slice none 0 0, .int .u32 0, .int .i64 0, .string ⟨#[]⟩, .int .i64 0, .string ⟨#[]⟩, .slice none 0 0] 37)) (.cells Z12 5); rw [World.size_alloc] at this; exact this) hZ12.symm
      exact this.later (b2.mono (by simp only [World.size_alloc]; omega))
  have HD0 := shid hD0
  have hB0 : Byt (((w.alloc (.cells #[.int .i64 0, .slice none 0 0, .int .u32 0, .int .i64 0, .string ⟨#[]⟩, .int .i64 0, .string ⟨#[]⟩, .slice none 0 0] 37)).alloc (.cells Z12 5)).alloc (.cells #[.int .i64 0, .slice (some ⟨w.heap.size + 1, 0, none⟩) 12 12, .int .u32 0, .int .i64 0, .string ⟨#[]⟩, .int .i64 0, .string ⟨#[]⟩, .slice none 0 0] 37)) (some ⟨bb, off, none⟩) len b := hB.later hD0.bel
  have hcut : Byt ((((w.alloc (.cells #[.int .i64 0, .slice none 0 0, .int .u32 0, .int .i64 0, .string ⟨#[]⟩, .int .i64 0, .string ⟨#[]⟩, .slice none 0 0] 37)).alloc (.cells Z12 5)).alloc (.cells #[.int .i64 0, .slice (some ⟨w.heap.size + 1, 0, none⟩) 12 12, .int .u32 0, .int .i64 0, .string ⟨#[]⟩, .int .i64 0, .string ⟨#[]⟩, .slice none 0 0] 37)).alloc (.cells #[] 5)) (some ⟨bb, off + 8, none⟩) 12 (cutB b 8 12) := by
    have := (hB0.sub (n := 8) (q := 20) (by omega) (by omega)).later ((Below.refl _ _).alloc (Nat.le_refl _) (.cells #[] 5))
    exact this
  obtain ⟨a1, c1, W1, hap1, hN1⟩ := (NewB.lit (Below.refl _ (((w.alloc (.cells #[.int .i64 0, .slice none 0 0, .int .u32 0, .int .i64 0, .string ⟨#[]⟩, .int .i64 0, .string ⟨#[]⟩, .slice none 0 0] 37)).alloc (.cells Z12 5)).alloc (.cells #[.int .i64 0, .slice (some ⟨w.heap.size + 1, 0, none⟩) 12 12, .int .u32 0, .int .i64 0, .string ⟨#[]⟩, .int .i64 0, .string ⟨#[]⟩, .slice none 0 0] 37))) [] #[] rfl (by simp)).many (some ⟨bb, off + 8, none⟩) 12 (cap - 8) (cutB b 8 12) hcut (fun e => by cases e) (by simp)
  rw [hsz] at hap1
  have HAP1 : Hid ((Builtin.append_ #[32, 32] 32 #[.slice (some ⟨w.heap.size + 1 + 1 + 1, 0, none⟩) 0 0, .slice (some ⟨bb, off + 8, none⟩) 12 (cap - 8)]).run Try.prog ((((w.alloc (.cells #[.int .i64 0, .slice none 0 0, .int .u32 0, .int .i64 0, .string ⟨#[]⟩, .int .i64 0, .string ⟨#[]⟩, .slice none 0 0] 37)).alloc (.cells Z12 5)).alloc (.cells #[.int .i64 0, .slice (some ⟨w.heap.size + 1, 0, none⟩) 12 12, .int .u32 0, .int .i64 0, .string ⟨#[]⟩, .int .i64 0, .string ⟨#[]⟩, .slice none 0 0] 37)).alloc (.cells #[] 5)) = .ok (.slice a1 12 c1) W1) := shid (by simpa using hap1)
  obtain ⟨id, hid⟩ : ∃ id, cutB b 8 12 = id := ⟨_, rfl⟩
  have hidl : id.length = 12 := by rw [← hid]; exact cutB_length b 8 12 (by have := hB.1; omega)
  have HN1 : Hid (NewB (((w.alloc (.cells #[.int .i64 0, .slice none 0 0, .int .u32 0, .int .i64 0, .string ⟨#[]⟩, .int .i64 0, .string ⟨#[]⟩, .slice none 0 0] 37)).alloc (.cells Z12 5)).alloc (.cells #[.int .i64 0, .slice (some ⟨w.heap.size + 1, 0, none⟩) 12 12, .int .u32 0, .int .i64 0, .string ⟨#[]⟩, .int .i64 0, .string ⟨#[]⟩, .slice none 0 0] 37)) W1 (.slice a1 12 c1) id) := shid (by rw [hid] at hN1; simpa using hN1)
  have HID := shid (And.intro hid hidl)
  clear hmk hsz hD0 hB0 hcut hap1 hN1 hZ12 hid hidl
  go_enter Try.func17, Try.ntmps17
  go_wp2_with (at_builtin; refine wpList_append_run rfl (.tmp 20) (.tmp 22) 32 rfl _ _ _ _ rfl rfl HAP1.out ?_)
  have ht0 := sTwo_lt b 0
  refine (two_any bb off len cap 0 b _ hm hlc ?_ (by omega)).mono ?_
  · exact (hB.later HD0.out.bel).later (HN1.out.1.trans (((Below.refl _ _).alloc (Nat.le_refl _) _).mono HN1.out.1.size))
  rintro e V0 ⟨rfl, rfl⟩
  obtain ⟨K0, hK0⟩ : ∃ K, sTwo b 0 = K := ⟨_, rfl⟩
  rw [hK0] at ht0 ⊢
  have HK0 := shid hK0
  have hg : w.heap.size + 1 + 1 < W1.heap.size := by have := HN1.out.1.size; simp only [World.size_alloc] at this; omega
  have hDn : DnW w (W1.alloc (.cells #[.int .i64 0, .slice a1 12 c1, .int .u32 0, .int .i64 0, .string ⟨#[]⟩, .int .i64 0, .string ⟨#[]⟩, .slice none 0 0] 37)) := by
    have d1 := HD0.out
    have l1 : w.heap.size + 1 + 1 < (((w.alloc (.cells #[.int .i64 0, .slice none 0 0, .int .u32 0, .int .i64 0, .string ⟨#[]⟩, .int .i64 0, .string ⟨#[]⟩, .slice none 0 0] 37)).alloc (.cells Z12 5)).alloc (.cells #[.int .i64 0, .slice (some ⟨w.heap.size + 1, 0, none⟩) 12 12, .int .u32 0, .int .i64 0, .string ⟨#[]⟩, .int .i64 0, .string ⟨#[]⟩, .slice none 0 0] 37)).heap.size := by simp only [World.size_alloc]; omega
    have b1 := HN1.out.1.trans (((Below.refl _ W1).alloc (Nat.le_refl _) (.cells #[.int .i64 0, .slice a1 12 c1, .int .u32 0, .int .i64 0, .string ⟨#[]⟩, .int .i64 0, .string ⟨#[]⟩, .slice none 0 0] 37)).mono HN1.out.1.size)
    exact ⟨by rw [b1.block _ (by omega)]; exact d1.res, by rw [b1.block _ l1]; exact d1.non, d1.ids.later b1, d1.bel.trans (b1.mono d1.bel.size)⟩
  have HC : Hid (DcW w W1.heap.size (sZero 0 id) a1 c1 none 0 (W1.alloc (.cells #[.int .i64 0, .slice a1 12 c1, .int .u32 0, .int .i64 0, .string ⟨#[]⟩, .int .i64 0, .string ⟨#[]⟩, .slice none 0 0] 37))) := shid
    ⟨⟨by rw [heap_alloc_new W1 _]; simp [dMsg, sZero, HID.out.2, S]⟩, Seg.nil _ _, (by intro j hj; simp [blockOf] at hj), (by
      have := (HN1.out.at_ HID.out.2).1.later ((Below.refl _ W1).alloc (Nat.le_refl _) (.cells #[.int .i64 0, .slice a1 12 c1, .int .u32 0, .int .i64 0, .string ⟨#[]⟩, .int .i64 0, .string ⟨#[]⟩, .slice none 0 0] 37))
      show Byt _ a1 id.length id
      rw [HID.out.2]; exact this), (by
      intro j hj
      cases a1 with
      | none => cases hj
      | some x =>
        have := (HN1.out.2.lt x.block rfl).2
        have e : x.block = j := by simpa [blockOf] using hj
        omega), hDn, hg⟩
  have HA1 : Hid (∀ j, blockOf a1 = some j → w.heap.size < j) := shid (by
    intro j hj
    cases a1 with
    | none => cases hj
    | some x =>
      have := (HN1.out.2.lt x.block rfl).1
      simp only [World.size_alloc] at this
      have e : x.block = j := by simpa [blockOf] using hj
      omega)
  clear hDn
  generalize World.alloc W1 _ = V at HC ⊢
  generalize W1.heap.size = g at HC hg ⊢
  go_upto_block 0 with fail
  go_cut [3] (fun s3 wx => s3 = .bool false ∧ ∃ c : Int, sClass K0 = some c ∧ Hid (DcW w g (sZero c id) a1 c1 none 0 wx))
  case first =>
    have f0 := HC.out.msg.c 0 _ rfl
    have ff := frozen_of_row V g 0 _ _ HC.out.msg.row
    by_cases k1 : K0 = 1
    · subst k1
      have HE := shid (HC.out.upd 0 (.int .i64 0) (sZero 0 id) (by simp [dMsg, sZero]) rfl rfl)
      go_wp2_with fail
      go_meet
      exact ⟨rfl, 0, rfl, HE⟩
    by_cases k2 : K0 = 257
    · subst k2
      have HE := shid (HC.out.upd 0 (.int .i64 2) (sZero 2 id) (by simp [dMsg, sZero]) rfl rfl)
      go_wp2_with fail
      go_meet
      exact ⟨rfl, 2, rfl, HE⟩
    by_cases k3 : K0 = 273
    · subst k3
      have HE := shid (HC.out.upd 0 (.int .i64 3) (sZero 3 id) (by simp [dMsg, sZero]) rfl rfl)
      go_wp2_with fail
      go_meet
      exact ⟨rfl, 3, rfl, HE⟩
    · have j1 : ((K0 : Int) == 1) = false := by rw [beq_eq_false_iff_ne]; omega
      have j2 : ((K0 : Int) == 257) = false := by rw [beq_eq_false_iff_ne]; omega
      have j3 : ((K0 : Int) == 273) = false := by rw [beq_eq_false_iff_ne]; omega
      have hdn : decS b = none := by
        unfold decS
        have := hB.1
        rw [if_neg (by omega), HK0.out]
        have e : sClass K0 = none := by unfold sClass; rw [if_neg k1, if_neg k2, if_neg k3]
        rw [e]; rfl
      have HX := shid HC.out.dn
      clear f0 ff HC k1 k2 k3
      have HRz := shid HX.out.res
      have HNz := shid HX.out.non
      have hiN := dm_info (nRow w.heap.size) rfl
      obtain ⟨NR, hNR⟩ : ∃ NR, nRow w.heap.size = NR := ⟨_, rfl⟩
      have HE := shid (dec_none HX.out hdn)
      rw [hNR] at HNz hiN HE
      have hNs : Hid (zRow.size = NR.size ∧ NR.all (·.oneCell') = true) := shid ⟨by rw [← hNR]; rfl, by rw [← hNR]; simp [nRow, Value.oneCell']⟩
      clear hNR
      go_wp2_with (first | (refine wpList_store_row rfl 37 _ _ rfl w.heap.size NR rfl rfl 37 _ HRz.out hiN hNs.out.1 hNs.out.2 ?_) | (refine wpList_load_row rfl 37 _ rfl (w.heap.size + 1 + 1) rfl 37 NR (0, 0) _ HNz.out Try.underlying37 rfl hiN ?_) | fail)
      try simp only [Exit.inBlock, Exit.then]
      refine bodyPost_ret (results_ct rfl _ _ w.heap.size 37 NR _ _ rfl rfl (setRow_heap _ _ _ _ _ _ HRz.out) Try.underlying37 rfl hiN) rfl ?_
      exact HE.out
  case rest =>
    obtain ⟨rfl, c, hc, HC⟩ := hcut
    have hbl := hB.1
    have hsp : decS b = (sParse b len 20 (sZero c id)).bind fun m => if rightS m = true ∧ encS m = b then some m else none := by
      unfold decS
      rw [if_neg (by omega), HK0.out, hc, HID.out.1, hbl]
      rfl
    obtain ⟨R, hR⟩ : ∃ R, sParse b len 20 (sZero c id) = R := ⟨_, rfl⟩
    rw [hR] at hsp
    have HSP := shid hsp
    have HR0 := shid hR
    have hc3 : c = 0 ∨ c = 2 ∨ c = 3 := by
      unfold sClass at hc
      split at hc
      · cases hc; exact .inl rfl
      · split at hc
        · cases hc; exact .inr (.inl rfl)
        · split at hc
          · cases hc; exact .inr (.inr rfl)
          · cases hc
    clear hc hsp hR HK0 ht0 HD0 HN1 HAP1 hmk2
    go_wp2_with fail
    go_loopw [6] (fun v wr => ∃ (f at_ : Nat) (m : SM) (ua : Option Addr) (uc : Nat), v = .int .i64 at_ ∧ at_ ≤ len + 3 ∧ len + 4 ≤ at_ + 4 * f ∧ 20 ≤ at_ ∧ Hid (sParse b f at_ m = R) ∧ Hid (m.cls = c ∧ m.id = id ∧ m.unk.length ≤ at_ ∧ m.soft.length ≤ 600 ∧ m.reason.length ≤ 600) ∧ Hid (DcW w g m a1 c1 ua uc wr)) (fun v _ => len + 4 - (intOf v).toNat)
    case atStart => exact ⟨len, 20, _, none, 0, rfl, by omega, by omega, by omega, HR0, shid ⟨rfl, rfl, by simp [sZero], by simp [sZero], by simp [sZero]⟩, HC⟩
    case round =>
      clear HC
      obtain ⟨f, at_, m, ua, uc, rfl, ha1, ha2, ha3, HP, HM, HC⟩ := hrel
      obtain ⟨f, rfl⟩ : ∃ f', f = f' + 1 := ⟨f - 1, by omega⟩
      have hBw : Byt wr (some ⟨bb, off, none⟩) len b := hB.later HC.out.dn.bel
      by_cases hlt : at_ + 12 ≤ len
      · have j1 : (at_ : Int) + 4 ≤ (len : Int) - 8 := by omega
        go_wp2_with fail
        refine (two_any bb off len cap at_ b wr hm hlc hBw (by omega)).mono ?_
        rintro e w4 ⟨rfl, rfl⟩
        have hKb := sTwo_lt b at_
        obtain ⟨K, hK⟩ : ∃ K, sTwo b at_ = K := ⟨_, rfl⟩
        rw [hK] at hKb ⊢
        go_wp2_with fail
        rw [show (at_ : Int) + 2 = ((at_ + 2 : Nat) : Int) by omega]
        refine (two_any bb off len cap (at_ + 2) b _ hm hlc hBw (by omega)).mono ?_
        rintro e w5 ⟨rfl, rfl⟩
        have hZb := sTwo_lt b (at_ + 2)
        obtain ⟨Z, hZ⟩ : ∃ Z, sTwo b (at_ + 2) = Z := ⟨_, rfl⟩
        rw [hZ] at hZb ⊢
        have HPS := shid (show sParse b (f + 1) at_ m = _ by rw [sParse, if_pos (by omega), hK, hZ])
        clear hK hZ
        by_cases hz : len < at_ + 4 + Z
        · have hdn : decS b = none := by
            have h1 := HP.out
            rw [HPS.out, if_pos (by omega)] at h1
            rw [HSP.out, ← h1]; rfl
          have HX := shid HC.out.dn
          have j2 : (len : Int) < (at_ : Int) + 4 + (Z : Int) := by omega
          clear HC HP HPS HM
          have HRz := shid HX.out.res
          have HNz := shid HX.out.non
          have hiN := dm_info (nRow w.heap.size) rfl
          obtain ⟨NR, hNR⟩ : ∃ NR, nRow w.heap.size = NR := ⟨_, rfl⟩
          have HE := shid (dec_none HX.out hdn)
          rw [hNR] at HNz hiN HE
          have hNs : Hid (zRow.size = NR.size ∧ NR.all (·.oneCell') = true) := shid ⟨by rw [← hNR]; rfl, by rw [← hNR]; simp [nRow, Value.oneCell']⟩
          clear hNR
          go_wp2_with (first | (refine wpList_store_row rfl 37 _ _ rfl w.heap.size NR rfl rfl 37 _ HRz.out hiN hNs.out.1 hNs.out.2 ?_) | (refine wpList_load_row rfl 37 _ rfl (w.heap.size + 1 + 1) rfl 37 NR (0, 0) _ HNz.out Try.underlying37 rfl hiN ?_) | fail)
          try simp only [Exit.inBlock, Exit.then]
          refine bodyPost_ret (results_ct rfl _ _ w.heap.size 37 NR _ _ rfl rfl (setRow_heap _ _ _ _ _ _ HRz.out) Try.underlying37 rfl hiN) rfl ?_
          exact HE.out
        · have j2 : ¬ (len : Int) < (at_ : Int) + 4 + (Z : Int) := by omega
          obtain ⟨q, hq⟩ : ∃ q, (Z + 3) / 4 = q := ⟨_, rfl⟩
          have e3 : ((Z : Int) + 3).tdiv 4 = (q : Int) := by rw [Int.tdiv_eq_ediv_of_nonneg (by omega)]; omega
          obtain ⟨D, hD⟩ : ∃ D, cutB b (at_ + 4) Z = D := ⟨_, rfl⟩
          have hDl : D.length = Z := by rw [← hD]; exact cutB_length b (at_ + 4) Z (by omega)
          have HPN : Hid (sParse b f (at_ + 4 + q * 4) (m.step (K, D)) = R) := shid (by rw [← hq, ← hD, ← HP.out, HPS.out, if_neg (by omega)])
          have hBD : Byt w5 (some ⟨bb, off + (at_ + 4), none⟩) Z D := by
            have := hBw.sub (n := at_ + 4) (q := at_ + 4 + Z) (by omega) (by omega)
            rw [Nat.add_sub_cancel_left] at this
            rw [← hD]; exact this
          have hq1 : Z ≤ q * 4 := by omega
          have hq2 : q * 4 ≤ Z + 3 := by omega
          have HDD : Hid (∀ W', Below w.heap.size w W' → Byt W' (some ⟨bb, off + (at_ + 4), none⟩) Z D) := shid (fun W' hb => by
            have := (hB.later hb).sub (n := at_ + 4) (q := at_ + 4 + Z) (by omega) (by omega)
            rw [Nat.add_sub_cancel_left] at this
            rw [← hD]; exact this)
          clear HP HPS hq hD
          obtain ⟨F0, F2, F3, F4, F5, F6, F7⟩ := HC.out.msg.fs
          have G2 := frozen_of_row w5 g 2 _ _ HC.out.msg.row
          have G3 := frozen_of_row w5 g 3 _ _ HC.out.msg.row
          have G4 := frozen_of_row w5 g 4 _ _ HC.out.msg.row
          have G5 := frozen_of_row w5 g 5 _ _ HC.out.msg.row
          have G6 := frozen_of_row w5 g 6 _ _ HC.out.msg.row
          rw [HM.out.1] at F0
          have hul := HM.out.2.2.1
          by_cases kA : K = 32 ∧ c = 2 ∧ Z = 8
          · obtain ⟨rfl, rfl, rfl⟩ := kA
            have hst : m.step (32, D) = { m with host := getV D true 4 4 ^^^ 554869826, port := ((sTwo D 2 ^^^ 8466 : Nat) : Int) } := by
              unfold SM.step
              rw [if_pos ⟨rfl, HM.out.1, hDl⟩]
            obtain ⟨Hh, hHh⟩ : ∃ Hh, getV D true 4 4 = Hh := ⟨_, rfl⟩
            obtain ⟨Pp, hPp⟩ : ∃ Pp, sTwo D 2 = Pp := ⟨_, rfl⟩
            have hH9 : Hh < 4294967296 := by rw [← hHh]; exact getV_lt D 4 4
            have hP9 : Pp < 65536 := by rw [← hPp]; exact sTwo_lt D 2
            have hwu : IntKind.u32.wrap (Hh : Int) = (Hh : Int) := by rw [IntKind.wrap_u32]; omega
            have x1 : bits .xor .i64 (Pp : Int) 8466 = ((Pp ^^^ 8466 : Nat) : Int) := xorI Pp 8466 (by omega) (by decide)
            have x2 : bits .xor .u32 (Hh : Int) 554869826 = ((Hh ^^^ 554869826 : Nat) : Int) := xorU Hh 554869826 hH9 (by decide)
            rw [hHh, hPp] at hst
            obtain ⟨X, hX⟩ : ∃ X, Pp ^^^ 8466 = X := ⟨_, rfl⟩
            obtain ⟨Y, hY⟩ : ∃ Y, Hh ^^^ 554869826 = Y := ⟨_, rfl⟩
            rw [hX] at x1 hst
            rw [hY] at x2 hst
            have HE := shid ((HC.out.upd 2 (.int .u32 (Y : Int)) { m with host := Y } (by simp [dMsg]) rfl rfl).upd 3 (.int .i64 (X : Int)) { m with host := Y, port := (X : Int) } (by simp [dMsg]) rfl rfl)
            have HQ : Hid (sParse b f (at_ + 4 + q * 4) { m with host := Y, port := (X : Int) } = R) := shid (by rw [← hst]; exact HPN.out)
            have HM2 : Hid (m.cls = 2 ∧ m.id = id ∧ m.unk.length ≤ at_ + 4 + q * 4 ∧ m.soft.length ≤ 600 ∧ m.reason.length ≤ 600) := shid ⟨HM.out.1, HM.out.2.1, by omega, HM.out.2.2.2.1, HM.out.2.2.2.2⟩
            have HBD := shid hBD
            have hg1 := refGet_yes bb (off + (at_ + 4)) 8 (cap - (at_ + 4)) 4 4 true D w5 (by omega) (by omega) hBD (by decide) (by decide) (by omega)
            have hg2 := two_any bb (off + (at_ + 4)) 8 (cap - (at_ + 4)) 2 D w5 (by omega) (by omega) hBD (by omega)
            rw [hHh] at hg1
            rw [hPp] at hg2
            have Hg1 := shid hg1
            have Hg2 := shid hg2
            clear hst HC HPN HM hX hY hHh hPp hBD hDl hg1 hg2
            go_wp2_with fail
            refine Hg1.out.mono ?_
            rintro e w6 ⟨rfl, rfl⟩
            go_wp2_with fail
            refine Hg2.out.mono ?_
            rintro e w7 ⟨rfl, rfl⟩
            go_wp2_with fail
            exact ⟨⟨f, at_ + 4 + q * 4, { m with host := Y, port := (X : Int) }, ua, uc, by go_num, by omega, by omega, by omega, HQ, HM2, HE⟩, by simp [intOf]; omega⟩
          by_cases kB : K = 9 ∧ c = 3 ∧ 4 ≤ Z
          · obtain ⟨rfl, rfl, hZ4⟩ := kB
            have hst : m.step (9, D) = { m with code := ((at8 D 2).toNat : Int) * 100 + ((at8 D 3).toNat : Int), reason := D.drop 4 } := by
              unfold SM.step
              rw [if_neg (by simp), if_pos ⟨rfl, HM.out.1, by show 4 ≤ D.length; omega⟩]
            obtain ⟨_, _, e2, q2⟩ := hBD.at_ 2 (by omega)
            cases e2
            obtain ⟨_, _, e3', q3⟩ := hBD.at_ 3 (by omega)
            cases e3'
            obtain ⟨d2, hd2⟩ : ∃ d2, (at8 D 2).toNat = d2 := ⟨_, rfl⟩
            obtain ⟨d3, hd3⟩ : ∃ d3, (at8 D 3).toNat = d3 := ⟨_, rfl⟩
            have h2 : d2 < 256 := by rw [← hd2]; exact (at8 D 2).toNat_lt
            have h3 : d3 < 256 := by rw [← hd3]; exact (at8 D 3).toNat_lt
            rw [hd2] at q2
            rw [hd3] at q3
            rw [hd2, hd3] at hst
            have v2 : IntKind.i64.wrap (d2 : Int) = (d2 : Int) := by rw [IntKind.wrap_i64]; omega
            have v3 : IntKind.i64.wrap (d3 : Int) = (d3 : Int) := by rw [IntKind.wrap_i64]; omega
            obtain ⟨E2, hE2⟩ : ∃ E2, (d2 : Int) * 100 = E2 := ⟨_, rfl⟩
            have v4 : IntKind.i64.wrap ((d2 : Int) * 100) = E2 := by rw [IntKind.wrap_i64]; omega
            rw [hE2] at hst
            obtain ⟨C, hC⟩ : ∃ C, E2 + (d3 : Int) = C := ⟨_, rfl⟩
            have v5 : IntKind.i64.wrap (E2 + (d3 : Int)) = C := by rw [IntKind.wrap_i64]; omega
            rw [hC] at hst
            have z2 : (2 : Int) < (Z : Int) := by omega
            have z3 : (3 : Int) < (Z : Int) := by omega
            have HE2 := shid hE2
            have HCC := shid hC
            have HST := shid hst
            have HBD := shid hBD
            have HdL := shid hDl
            have hzz : (4 : Int) ≤ (Z : Int) := by omega
            clear hst hBD hd2 hd3 hE2 hC hDl
            clear F2 F3 F4 F6 F7 G2 G3 G4 G6
            go_wp2_with fail
            obtain ⟨V, hVw⟩ : ∃ V, w5.drew = V := ⟨_, rfl⟩
            have HC1 := shid (show DcW w g m a1 c1 ua uc V from hVw ▸ HC.out.drew)
            have HBV := shid (show Byt V (some ⟨bb, off + (at_ + 4), none⟩) Z D from hVw ▸ HBD.out)
            have q2' : V.cell? ⟨bb, off + (at_ + 4) + 2, none⟩ = some (.int .u8 (d2 : Int)) := by rw [← hVw]; exact q2
            have q3' : V.cell? ⟨bb, off + (at_ + 4) + 3, none⟩ = some (.int .u8 (d3 : Int)) := by rw [← hVw]; exact q3
            have F5' : V.cell? ⟨g, 5, none⟩ = some (.int .i64 m.code) := by rw [← hVw]; exact F5
            have G5' : V.frozen? ⟨g, 5, none⟩ = false := by rw [← hVw]; exact G5
            clear q2 q3 F5 G5 HC HBD F0
            refine wp_region_last (G := fun a b => b = a) (by kernel_rfl) (fun _ => rfl) (fun a b c h k => by rw [k, h]) (by kernel_rfl) [(0, true), (1, true), (2, true), (3, true), (4, true), (5, true), (6, true), (7, true), (8, true), (9, true), (10, true)] 11 _ rfl ((Array.replicate 12 false).mapIdx fun i _ => i < 11) rfl (by kernel_rfl) (by kernel_rfl) (by kernel_rfl) (by kernel_rfl) ?_
            intro KK hKK
            rw [hVw]
            clear hVw
            iterate 11 (refine sched_take rfl (by rfl) (v := ?_) ?_ ?_; rotate_left; (intro w' hw'; rw [show w' = V from hw']; clear hw'; go_simp; with_reducible rfl); go_simp)
            obtain ⟨V2, hV2⟩ : ∃ V2, V.setCell ⟨g, 5, none⟩ (.int .i64 C) = V2 := ⟨_, rfl⟩
            have HC2 := shid (show DcW w g { m with code := C } a1 c1 ua uc V2 from hV2 ▸ HC1.out.upd 5 (.int .i64 C) { m with code := C } (by simp [dMsg]) rfl rfl)
            have HB2 := shid (show Byt V2 (some ⟨bb, off + (at_ + 4), none⟩) Z D from by rw [← hV2]; exact HBV.out.keptB fun j hj => heap_setCell_other V ⟨g, 5, none⟩ j _ (fun e => by have h1 : bb = j := (by simpa [blockOf] using hj); have h2 : j = g := e; have := HC1.out.gw; omega))
            refine hKK.out _ _ V2 (by rfl) (by rw [← hV2]; go_simp; try rfl) ?_
            clear hV2 hKK q2' q3' F5' G5' v2 v3 v4 v5 HC1 HBV
            have F6 : V2.cell? ⟨g, 6, none⟩ = some (.string (S m.reason)) := HC2.out.msg.c 6 _ rfl
            have G6 := frozen_of_row V2 g 6 _ _ HC2.out.msg.row
            have HR4 : (D.drop 4).take (Z - 4) = D.drop 4 := List.take_of_length_le (by rw [List.length_drop]; have := HdL.out; omega)
            have hB4 := HB2.out.sub (n := 4) (q := Z) hZ4 (Nat.le_refl _)
            rw [HR4] at hB4
            have hcv := conv_bytes V2 (some ⟨bb, off + (at_ + 4) + 4, none⟩) (Z - 4) (cap - (at_ + 4) - 4) (D.drop 4) hB4
            have HE := shid (HC2.out.upd 6 (.string (S (D.drop 4))) { m with code := C, reason := D.drop 4 } (by simp [dMsg]) rfl rfl)
            have HQ : Hid (sParse b f (at_ + 4 + q * 4) { m with code := C, reason := D.drop 4 } = R) := shid (by rw [← HST.out]; exact HPN.out)
            have HM2 : Hid (m.cls = 3 ∧ m.id = id ∧ m.unk.length ≤ at_ + 4 + q * 4 ∧ m.soft.length ≤ 600 ∧ (D.drop 4).length ≤ 600) := shid ⟨HM.out.1, HM.out.2.1, by omega, HM.out.2.2.2.1, by rw [List.length_drop]; have := HdL.out; omega⟩
            obtain ⟨D4, hD4⟩ : ∃ D4, D.drop 4 = D4 := ⟨_, rfl⟩
            rw [hD4] at hcv HE HQ HM2
            obtain ⟨Z4, rfl⟩ : ∃ Z4, Z = Z4 + 4 := ⟨Z - 4, by omega⟩
            rw [Nat.add_sub_cancel] at hcv
            clear HR4 hB4 HC2 HB2 HST HPN HM hD4
            go_wp2_with fail
            exact ⟨⟨f, at_ + 4 + q * 4, { m with code := C, reason := D4 }, ua, uc, by go_num, by omega, by omega, by omega, HQ, HM2, HE⟩, by simp [intOf]; omega⟩
          by_cases kC : K = 10 ∧ c = 3
          · obtain ⟨rfl, rfl⟩ := kC
            have hst : m.step (10, D) = { m with unk := m.unk ++ sTwos D (Z / 2) } := by
              unfold SM.step
              rw [if_neg (by simp), if_neg (by simp), if_pos ⟨rfl, HM.out.1⟩, hDl]
            have HQ : Hid (sParse b f (at_ + 4 + q * 4) { m with unk := m.unk ++ sTwos D (Z / 2) } = R) := shid (by rw [← hst]; exact HPN.out)
            clear hst HPN hBD hDl
            clear F2 F3 F4 F5 F6 F7 G2 G3 G4 G5 G6
            go_wp2_with fail
            rw [show at_ + 4 + Z - (at_ + 4) = Z by omega]
            go_loopw [12] (fun v wr => ∃ (k p : Nat) (ua1 : Option Addr) (uc1 : Nat), v = .int .i64 (p : Int) ∧ p ≤ Z ∧ Hid (p = 2 * k) ∧ Hid (DcW w g { m with unk := m.unk ++ sTwos D k } a1 c1 ua1 uc1 wr)) (fun v _ => Z + 2 - (intOf v).toNat)
            case atStart => exact ⟨0, 0, ua, uc, rfl, by omega, shid rfl, by simpa [sTwos] using HC⟩
            case round =>
              obtain ⟨k, p, ua1, uc1, rfl, hk, HK, HC1⟩ := hrel
              clear HC F0
              by_cases h2 : p + 2 ≤ Z
              · have i1' : (p : Int) + 2 ≤ (Z : Int) := by omega
                go_wp2_with fail
                obtain ⟨V, hVw⟩ : ∃ V, wr.drew = V := ⟨_, rfl⟩
                have HC2 := shid (show DcW w g { m with unk := m.unk ++ sTwos D k } a1 c1 ua1 uc1 V from hVw ▸ HC1.out.drew)
                obtain ⟨kk, hkk⟩ : ∃ kk, (m.unk ++ sTwos D k).length = kk := ⟨_, rfl⟩
                have hkk9 : kk ≤ 5000 := by
                  rw [← hkk]
                  simp only [List.length_append]
                  unfold sTwos
                  rw [List.length_map, List.length_range]
                  have := HK.out
                  omega
                have q7 : V.cell? ⟨g, 7, none⟩ = some (.slice ua1 kk uc1) := by rw [← hkk]; exact HC2.out.msg.c 7 _ rfl
                have hgl := HC2.out.msg.lt
                clear HC1
                refine wp_region_last (G := Kp g) (by kernel_rfl) (Kp.refl g) (Kp.trans g) (by kernel_rfl) [(0, true), (1, true), (2, true), (3, true), (4, false), (5, false), (6, false), (7, true)] 8 _ rfl ((Array.replicate 9 false).mapIdx fun i _ => i < 8) rfl (by kernel_rfl) (by kernel_rfl) (by kernel_rfl) (by kernel_rfl) ?_
                intro KK hKK
                rw [hVw]
                clear hVw
                iterate 1 (refine sched_take rfl (by rfl) (v := ?_) ?_ ?_; rotate_left; (intro w' hw'; clear hw'; go_simp; with_reducible rfl); go_simp)
                refine sched_take rfl (by rfl) (v := .slice ua1 kk uc1) (fun w' hw' => by
                  have q1 : w'.cell? ⟨g, 7, none⟩ = some (.slice ua1 kk uc1) := by rw [World.cell?_of_block (hw' hgl).2]; exact q7
                  clear hw'
                  go_simp) ?_
                go_simp
                iterate 2 (refine sched_take rfl (by rfl) (v := ?_) ?_ ?_; rotate_left; (intro w' hw'; clear hw'; go_simp; with_reducible rfl); go_simp)
                refine sched_call (f := 36) (args := #[.slice (some ⟨bb, off + (at_ + 4), none⟩) Z (cap - (at_ + 4)), .int .i64 (p : Int)]) rfl (by rfl) (by go_simp) ?_
                refine (two_any bb (off + (at_ + 4)) Z (cap - (at_ + 4)) p D V (by omega) (by omega) (HDD.out V HC2.out.dn.bel) (by omega)).mono ?_
                rintro e w8 ⟨rfl, rfl⟩
                refine ⟨_, rfl, Kp.refl g _, ?_⟩
                obtain ⟨N, hN⟩ : ∃ N, sTwo D p = N := ⟨_, rfl⟩
                rw [hN]
                obtain ⟨a2, c2, W2, hap, ⟨v7, q7'⟩, f7, hL9, hrow2⟩ := HC2.out.app (N : Int) (by rw [hkk]; omega)
                have hKp : Kp g (w8.alloc (.cells #[.int .i64 (N : Int)] 3)) W2 := fun hg => ⟨(Array.getElem?_eq_some_iff.1 (hrow2.trans HC2.out.msg.row)).1, by rw [hrow2, Below.heap_alloc w8 _ g HC2.out.msg.lt]⟩
                rw [hkk] at hap hL9
                have hm9 : { m with unk := m.unk ++ sTwos D k ++ [(N : Int)] } = { m with unk := m.unk ++ sTwos D (k + 1) } := by
                  rw [sTwos_succ, ← HK.out, hN]
                  simp
                have hL9' : DcW w g { m with unk := m.unk ++ sTwos D (k + 1) } a1 c1 a2 c2 (W2.setCell ⟨g, 7, none⟩ (.slice a2 (kk + 1) c2)) := by rw [← hm9]; exact hL9
                have HAP := shid hap
                have HKp := shid hKp
                have HL9 := shid hL9'
                clear hap hKp hL9 hL9' hm9 hrow2 HC2 q7 hN hkk
                go_simp
                refine sched_val (v := .slice (some ⟨w8.heap.size, 0, none⟩) 1 1) (w' := w8.alloc (.cells #[.int .i64 (N : Int)] 3)) rfl (by rfl) (by go_simp; try rfl) (Kp.alloc g w8 _) ?_
                go_simp
                refine sched_append rfl (by rfl) rfl (by rfl) (by rfl) HAP.out HKp.out ?_
                clear HAP HKp
                go_simp
                iterate 1 (refine sched_take rfl (by rfl) (v := ?_) ?_ ?_; rotate_left; (intro w' hw'; clear hw'; go_simp; with_reducible rfl); go_simp)
                obtain ⟨Zw, hZ⟩ : ∃ Zw, W2.setCell ⟨g, 7, none⟩ (.slice a2 (kk + 1) c2) = Zw := ⟨_, rfl⟩
                rw [hZ] at HL9
                refine hKK.out _ _ Zw (by rfl) (by rw [← hZ]; go_simp; try rfl) ?_
                clear hZ q7' f7 hKK
                go_simp
                go_wp2_with fail
                exact ⟨⟨k + 1, p + 2, a2, c2, by go_num, by omega, shid (by have := HK.out; omega), HL9⟩, by simp [intOf]; omega⟩
              · have i1' : (Z : Int) < (p : Int) + 2 := by omega
                have hk2 : Z / 2 = k := by have := HK.out; omega
                rw [hk2] at HQ
                have hul2 : (sTwos D k).length ≤ q * 4 := by
                  unfold sTwos
                  rw [List.length_map, List.length_range]
                  have := HK.out
                  omega
                have HM2 : Hid (m.cls = 3 ∧ m.id = id ∧ (m.unk ++ sTwos D k).length ≤ at_ + 4 + q * 4 ∧ m.soft.length ≤ 600 ∧ m.reason.length ≤ 600) := shid ⟨HM.out.1, HM.out.2.1, by rw [List.length_append]; omega, HM.out.2.2.2.1, HM.out.2.2.2.2⟩
                go_wp2_with fail
                exact ⟨⟨f, at_ + 4 + q * 4, { m with unk := m.unk ++ sTwos D k }, ua1, uc1, by go_num, by omega, by omega, by omega, HQ, HM2, HC1⟩, by simp [intOf]; omega⟩
          by_cases k4 : K = 32802
          · subst k4
            have hcv := conv_bytes w5 (some ⟨bb, off + (at_ + 4), none⟩) Z (cap - (at_ + 4)) D hBD
            have HE := shid (HC.out.upd 4 (.string (S D)) { m with soft := D } (by simp [dMsg]) rfl rfl)
            have HQ : Hid (sParse b f (at_ + 4 + q * 4) { m with soft := D } = R) := shid (by rw [← step_soft]; exact HPN.out)
            have HM2 : Hid (m.cls = c ∧ m.id = id ∧ m.unk.length ≤ at_ + 4 + q * 4 ∧ D.length ≤ 600 ∧ m.reason.length ≤ 600) := shid ⟨HM.out.1, HM.out.2.1, by omega, by omega, HM.out.2.2.2.2⟩
            clear HC HPN HM hBD hDl
            go_wp2_with fail
            exact ⟨⟨f, at_ + 4 + q * 4, { m with soft := D }, ua, uc, by go_num, by omega, by omega, by omega, HQ, HM2, HE⟩, by simp [intOf]; omega⟩
          · have hst : m.step (K, D) = { m with unk := m.unk ++ [(K : Int)] } := by
              unfold SM.step
              rw [if_neg (by rw [HM.out.1, hDl]; exact kA), if_neg (by rw [HM.out.1, hDl]; exact kB), if_neg (by rw [HM.out.1]; exact kC), if_neg k4]
            obtain ⟨a2, c2, W2, hap, ⟨v7, F77⟩, G77, hE, _⟩ := HC.out.app (K : Int) (by omega)
            have HAP := shid hap
            have HE := shid hE
            have HQ : Hid (sParse b f (at_ + 4 + q * 4) { m with unk := m.unk ++ [(K : Int)] } = R) := shid (by rw [← hst]; exact HPN.out)
            have HM2 : Hid (m.cls = c ∧ m.id = id ∧ (m.unk ++ [(K : Int)]).length ≤ at_ + 4 + q * 4 ∧ m.soft.length ≤ 600 ∧ m.reason.length ≤ 600) := shid ⟨HM.out.1, HM.out.2.1, by simp; omega, HM.out.2.2.2.1, HM.out.2.2.2.2⟩
            have hways : (K = 32 ∧ (c == 2) = false) ∨ (K = 32 ∧ c = 2 ∧ ((Z : Int) == 8) = false) ∨ (K = 9 ∧ (c == 3) = false) ∨ (K = 9 ∧ c = 3 ∧ ¬ (4 : Int) ≤ (Z : Int)) ∨ (K = 10 ∧ (c == 3) = false) ∨
                (((K : Int) == 32) = false ∧ ((K : Int) == 9) = false ∧ ((K : Int) == 10) = false ∧ ((K : Int) == 32802) = false) := by
              simp only [beq_eq_false_iff_ne]
              omega
            clear HC HPN HM hBD hDl hap hE hst kA kB kC
            rcases hways with ⟨rfl, z1⟩ | ⟨rfl, rfl, z1⟩ | ⟨rfl, z1⟩ | ⟨rfl, rfl, z1⟩ | ⟨rfl, z1⟩ | ⟨z1, z2, z3, z4⟩
            all_goals
              go_wp2_with (at_builtin; refine wpList_append_run rfl (.tmp 74) (.tmp 76) 27 rfl _ _ _ _ rfl rfl HAP.out ?_)
              exact ⟨⟨f, at_ + 4 + q * 4, { m with unk := m.unk ++ [_] }, a2, c2, by go_num, by omega, by omega, by omega, HQ, HM2, HE⟩, by simp [intOf]; omega⟩
      · have j1 : (len : Int) - 8 < (at_ : Int) + 4 := by omega
        have hRm : R = some m := by rw [← HP.out, sParse, if_neg (by omega)]
        subst hRm
        have HS2 : Hid (decS b = if rightS m = true ∧ encS m = b then some m else none) := shid HSP.out
        have hh : m.host < 4294967296 := (parse_keeps b len 20 (sZero c id) m HR0.out).2.2 (by show (0 : Nat) < _; decide)
        have hul := HM.out.2.2.1
        have hs6 := HM.out.2.2.2.1
        have hr6 := HM.out.2.2.2.2
        have hmi : m.id.length = 12 := by rw [HM.out.2.1]; exact HID.out.2
        have hiD := dm_info (dMsg m a1 c1 ua uc) rfl
        clear HSP HP HR0 HM
        go_wp2_with (first | (refine wpList_load_row rfl 37 _ rfl g rfl 37 (dMsg m a1 c1 ua uc) (0, 0) _ HC.out.msg.row Try.underlying37 rfl hiD ?_) | fail)
        refine (refRight_any m a1 c1 ua uc _ HC.out.ints (by omega) (by omega) (by omega)).mono ?_
        rintro e w6 ⟨rfl, hb6⟩
        have HC6 := shid (HC.out.later hb6)
        obtain ⟨F, hF⟩ : ∃ F, rightS m = F := ⟨_, rfl⟩
        rw [hF]
        have HF := shid hF
        clear hF HC hb6 hBw
        cases F
        · have hdn : decS b = none := by rw [HS2.out, HF.out, if_neg (by simp)]
          go_wp2_with fail
          obtain ⟨V, hVw⟩ : ∃ V, w6.drew = V := ⟨_, rfl⟩
          have HX : Hid (DnW w V) := shid (hVw ▸ HC6.out.drew.dn)
          clear HC6 HS2
          refine wp_region_sched' (G := Grows) (by kernel_rfl) Grows.refl Grows.trans (by kernel_rfl) [(0, true), (1, true), (2, true), (3, true), (6, true), (7, true), (4, false), (5, true), (8, true), (9, true)] rfl (by kernel_rfl) ?_
          intro KK hKK
          rw [hVw]
          clear hVw
          iterate 3 (refine sched_take rfl (by rfl) (v := ?_) ?_ ?_; rotate_left; (intro w' hw'; clear hw'; go_simp; with_reducible rfl); go_simp)
          iterate 6 (refine sched_skip rfl (by rfl) ?_; go_simp)
          iterate 1 (refine sched_take rfl (by rfl) (v := ?_) ?_ ?_; rotate_left; (intro w' hw'; clear hw'; go_simp; with_reducible rfl); go_simp)
          refine sched_done hKK ?_
          clear hKK
          have HRz := shid HX.out.res
          have HNz := shid HX.out.non
          have hiN := dm_info (nRow w.heap.size) rfl
          obtain ⟨NR, hNR⟩ : ∃ NR, nRow w.heap.size = NR := ⟨_, rfl⟩
          have HE := shid (dec_none HX.out hdn)
          rw [hNR] at HNz hiN HE
          have hNs : Hid (zRow.size = NR.size ∧ NR.all (·.oneCell') = true) := shid ⟨by rw [← hNR]; rfl, by rw [← hNR]; simp [nRow, Value.oneCell']⟩
          clear hNR
          go_wp2_with (first | (refine wpList_store_row rfl 37 _ _ rfl w.heap.size NR rfl rfl 37 _ HRz.out hiN hNs.out.1 hNs.out.2 ?_) | (refine wpList_load_row rfl 37 _ rfl (w.heap.size + 1 + 1) rfl 37 NR (0, 0) _ HNz.out Try.underlying37 rfl hiN ?_) | fail)
          try simp only [Exit.inBlock, Exit.then]
          refine bodyPost_ret (results_ct rfl _ _ w.heap.size 37 NR _ _ rfl rfl (setRow_heap _ _ _ _ _ _ HRz.out) Try.underlying37 rfl hiN) rfl ?_
          exact HE.out
        · have hmr : m.Right := (rightS_iff m).1 HF.out
          go_wp2_with fail
          obtain ⟨V, hVw⟩ : ∃ V, w6.drew = V := ⟨_, rfl⟩
          have HCV : Hid (DcW w g m a1 c1 ua uc V) := shid (hVw ▸ HC6.out.drew)
          have HBV : Hid (Byt V (some ⟨bb, off, none⟩) len b) := shid (hB.later HCV.out.dn.bel)
          have hI : Byt V a1 12 m.id := by have := HCV.out.ids; rwa [hmi] at this
          have hin : a1 = none → c1 = 0 := fun e => by
            rcases hI.2 with h0 | ⟨b', off', e', _⟩
            · cases h0
            · rw [e] at e'; cases e'
          have HEN := shid (refEncode_any m a1 c1 ua uc V hmr hh hmi hI hin HCV.out.ints)
          clear HC6 hI hin hmr
          refine wp_region_sched' (G := Grows) (by kernel_rfl) Grows.refl Grows.trans (by kernel_rfl) [(0, true), (1, true), (2, true), (3, true), (6, true), (7, true), (4, false), (5, true), (8, true), (9, true)] rfl (by kernel_rfl) ?_
          intro KK hKK
          rw [hVw]
          clear hVw
          iterate 3 (refine sched_take rfl (by rfl) (v := ?_) ?_ ?_; rotate_left; (intro w' hw'; clear hw'; go_simp; with_reducible rfl); go_simp)
          refine sched_take rfl (by rfl) (v := .agg (dMsg m a1 c1 ua uc)) (fun w' hw' => exec_load_row 37 (.tmp 5) rfl g rfl 37 (dMsg m a1 c1 ua uc) (0, 0) _ (by rw [hw'.block g HCV.out.msg.lt]; exact HCV.out.msg.row) Try.underlying37 rfl hiD) ?_
          go_simp
          iterate 1 (refine sched_take rfl (by rfl) (v := ?_) ?_ ?_; rotate_left; (intro w' hw'; clear hw'; go_simp; with_reducible rfl); go_simp)
          refine sched_take rfl (by rfl) (v := .string (S b)) (fun w' hw' => by
            have hcv := conv_bytes w' (some ⟨bb, off, none⟩) len cap b (HBV.out.on hw')
            clear hw'
            go_simp) ?_
          go_simp
          refine sched_call (f := 15) (args := #[.agg (dMsg m a1 c1 ua uc)]) rfl (by rfl) (by go_simp) ?_
          refine HEN.out.mono ?_
          rintro e w8 ⟨a8, n8, c8, rfl, rfl, hN8⟩
          refine ⟨_, rfl, hN8.1, ?_⟩
          have HC8 := shid (HCV.out.later hN8.1)
          have HB8 := shid (hN8.at_ rfl).1
          clear HCV HBV HEN hN8
          go_simp
          refine sched_take rfl (by rfl) (v := .string (S (encS m))) (fun w' hw' => by
            have hcv := conv_bytes w' a8 _ c8 (encS m) (HB8.out.on hw')
            clear hw'
            go_simp) ?_
          go_simp
          by_cases hE : encS m = b
          · have hq : ((S (encS m)).toList == (S b).toList) = true := by rw [S_beq]; exact decide_eq_true hE
            have hdn : decS b = some m := by rw [HS2.out, if_pos ⟨HF.out, hE⟩]
            have HE := shid (HC8.out.fin HA1.out hdn)
            have HHE := shid hE
            have HRz := shid HC8.out.dn.res
            have hzs : Hid (zRow.size = (dMsg m a1 c1 ua uc).size ∧ (dMsg m a1 c1 ua uc).all (·.oneCell') = true) := shid ⟨rfl, by simp [dMsg, Value.oneCell']⟩
            clear hE hdn HS2
            iterate 2 (refine sched_take rfl (by rfl) (v := ?_) ?_ ?_; rotate_left; (intro w' hw'; clear hw'; go_simp; with_reducible rfl); go_simp)
            refine sched_done hKK ?_
            clear hKK hq
            go_wp2_with (first | (refine wpList_store_row rfl 37 _ _ rfl w.heap.size (dMsg m a1 c1 ua uc) rfl rfl 37 _ HRz.out hiD hzs.out.1 hzs.out.2 ?_) | (refine wpList_load_row rfl 37 _ rfl g rfl 37 (dMsg m a1 c1 ua uc) (0, 0) _ HC8.out.msg.row Try.underlying37 rfl hiD ?_) | fail)
            try simp only [Exit.inBlock, Exit.then]
            refine bodyPost_ret (results_ct rfl _ _ w.heap.size 37 (dMsg m a1 c1 ua uc) _ _ rfl rfl (setRow_heap _ _ _ _ _ _ HRz.out) Try.underlying37 rfl hiD) rfl ?_
            exact HE.out
          · have hq : ((S (encS m)).toList == (S b).toList) = false := by rw [S_beq]; exact decide_eq_false hE
            have hdn : decS b = none := by rw [HS2.out, if_neg (fun h => hE h.2)]
            have HX := shid HC8.out.dn
            clear hE HS2 HC8
            iterate 2 (refine sched_take rfl (by rfl) (v := ?_) ?_ ?_; rotate_left; (intro w' hw'; clear hw'; go_simp; with_reducible rfl); go_simp)
            refine sched_done hKK ?_
            clear hKK hq
            have HRz := shid HX.out.res
            have HNz := shid HX.out.non
            have hiN := dm_info (nRow w.heap.size) rfl
            obtain ⟨NR, hNR⟩ : ∃ NR, nRow w.heap.size = NR := ⟨_, rfl⟩
            have HE := shid (dec_none HX.out hdn)
            rw [hNR] at HNz hiN HE
            have hNs : Hid (zRow.size = NR.size ∧ NR.all (·.oneCell') = true) := shid ⟨by rw [← hNR]; rfl, by rw [← hNR]; simp [nRow, Value.oneCell']⟩
            clear hNR
            go_wp2_with (first | (refine wpList_store_row rfl 37 _ _ rfl w.heap.size NR rfl rfl 37 _ HRz.out hiN hNs.out.1 hNs.out.2 ?_) | (refine wpList_load_row rfl 37 _ rfl (w.heap.size + 1 + 1) rfl 37 NR (0, 0) _ HNz.out Try.underlying37 rfl hiN ?_) | fail)
            try simp only [Exit.inBlock, Exit.then]
            refine bodyPost_ret (results_ct rfl _ _ w.heap.size 37 NR _ _ rfl rfl (setRow_heap _ _ _ _ _ _ HRz.out) Try.underlying37 rfl hiN) rfl ?_
            exact HE.out
set_option maxHeartbeats 1000000 in
theorem refDecode_short (a : Option Addr) (len cap : Nat) (b : List UInt8) (w : World) (hbl : b.length = len) (h28 : len < 28) :
    Calls Try.prog 17 #[.slice a len cap] w fun e w' => DecEnd w b e w' := by
  have i1 : (len : Int) < 28 := by omega
  have hdn : decS b = none := by
    unfold decS
    rw [if_pos (by omega)]
  have hmk := make_zero12 (w.alloc (.cells #[.int .i64 0, .slice none 0 0, .int .u32 0, .int .i64 0, .string ⟨#[]⟩, .int .i64 0, .string ⟨#[]⟩, .slice none 0 0] 37)) 12 (by omega)
  obtain ⟨Z12, hZ12⟩ : ∃ Z, ((List.replicate 12 (0 : UInt8)).map bv).toArray = Z := ⟨_, rfl⟩
  rw [hZ12, World.size_alloc] at hmk
  have hmk2 : (Instr.makeSlice 32 (.int .i64 12) (.int .i64 12)).run Try.prog (w.alloc (.cells #[.int .i64 0, .slice none 0 0, .int .u32 0, .int .i64 0, .string ⟨#[]⟩, .int .i64 0, .string ⟨#[]⟩, .slice none 0 0] 37)) = .ok (.slice (some ⟨w.heap.size + 1, 0, none⟩) 12 12) ((w.alloc (.cells #[.int .i64 0, .slice none 0 0, .int .u32 0, .int .i64 0, .string ⟨#[]⟩, .int .i64 0, .string ⟨#[]⟩, .slice none 0 0] 37)).alloc (.cells Z12 5)) := hmk
  have hsz : (((w.alloc (.cells #[.int .i64 0, .slice none 0 0, .int .u32 0, .int .i64 0, .string ⟨#[]⟩, .int .i64 0, .string ⟨#[]⟩, .slice none 0 0] 37)).alloc (.cells Z12 5)).alloc (.cells #[.int .i64 0, .slice (some ⟨w.heap.size + 1, 0, none⟩) 12 12, .int .u32 0, .int .i64 0, .string ⟨#[]⟩, .int .i64 0, .string ⟨#[]⟩, .slice none 0 0] 37)).heap.size = w.heap.size + 1 + 1 + 1 := by simp only [World.size_alloc]
  have hD0 : DnW w (((w.alloc (.cells #[.int .i64 0, .slice none 0 0, .int .u32 0, .int .i64 0, .string ⟨#[]⟩, .int .i64 0, .string ⟨#[]⟩, .slice none 0 0] 37)).alloc (.cells Z12 5)).alloc (.cells #[.int .i64 0, .slice (some ⟨w.heap.size + 1, 0, none⟩) 12 12, .int .u32 0, .int .i64 0, .string ⟨#[]⟩, .int .i64 0, .string ⟨#[]⟩, .slice none 0 0] 37)) := by
    have b1 : Below (w.heap.size + 1) (w.alloc (.cells #[.int .i64 0, .slice none 0 0, .int .u32 0, .int .i64 0, .string ⟨#[]⟩, .int .i64 0, .string ⟨#[]⟩, .slice none 0 0] 37)) (((w.alloc (.cells #[.int .i64 0, .slice none 0 0, .int .u32 0, .int .i64 0, .string ⟨#[]⟩, .int .i64 0, .string ⟨#[]⟩, .slice none 0 0] 37)).alloc (.cells Z12 5)).alloc (.cells #[.int .i64 0, .slice (some ⟨w.heap.size + 1, 0, none⟩) 12 12, .int .u32 0, .int .i64 0, .string ⟨#[]⟩, .int .i64 0, .string ⟨#[]⟩, .slice none 0 0] 37)) := ((Below.refl _ _).alloc (by simp) _).alloc (by simp only [World.size_alloc]; omega) _
    have b2 : Below (w.heap.size + 1 + 1) ((w.alloc (.cells #[.int .i64 0, .slice none 0 0, .int .u32 0, .int .i64 0, .string ⟨#[]⟩, .int .i64 0, .string ⟨#[]⟩, .slice none 0 0] 37)).alloc (.cells Z12 5)) (((w.alloc (.cells #[.int .i64 0, .slice none 0 0, .int .u32 0, .int .i64 0, .string ⟨#[]⟩, .int .i64 0, .string ⟨#[]⟩, .slice none 0 0] 37)).alloc (.cells Z12 5)).alloc (.cells #[.int .i64 0, .slice (some ⟨w.heap.size + 1, 0, none⟩) 12 12, .int .u32 0, .int .i64 0, .string ⟨#[]⟩, .int .i64 0, .string ⟨#[]⟩, .slice none 0 0] 37)) := (Below.refl _ _).alloc (by simp only [World.size_alloc]; omega) _
    refine ⟨by rw [b1.block _ (by omega)]; exact heap_alloc_new w _, ?_, ?_, ((((Below.refl _ _).alloc (Nat.le_refl _) _).alloc (by simp) _).alloc (by simp only [World.size_alloc]; omega) _)⟩
    · have := heap_alloc_new ((w.alloc (.cells #[.int .i64 0, .slice none 0 0, .int .u32 0, .int .i64 0, .string ⟨#[]⟩, .int .i64 0, .string ⟨#[]⟩, .slice none 0 0] 37)).alloc (.cells Z12 5)) (.cells #[.int .i64 0, .slice (some ⟨w.heap.size + 1, 0, none⟩) 12 12, .int .u32 0, .int .i64 0, .string ⟨#[]⟩, .int .i64 0, .string ⟨#[]⟩, .slice none 0 0] 37)
      simp only [World.size_alloc] at this
      exact this
    · have := byt_lit ((w.alloc (.cells #[.int .i64 0, .slice none 0 0, .int .u32 0, .int .i64 0, .string ⟨#[]⟩, .int .i64 0, .string ⟨#[]⟩, .slice none 0 0] 37)).alloc (.cells Z12 5)) (List.replicate 12 0) (w.heap.size + 1) _ _ _ (by have := heap_alloc_new (w.alloc (.cells #[.int .i64 0, .slice none 0 0, .int .u32 0, .int .i64 0, .string ⟨#[]⟩, .int .i64 0, .string ⟨#[]⟩, .slice none 0 0] 37)) (.cells Z12 5); rw [World.size_alloc] at this; exact this) hZ12.symm
      exact this.later (b2.mono (by simp only [World.size_alloc]; omega))
  have HD0 := shid hD0
  have HX := HD0
  have HRz := shid HX.out.res
  have HNz := shid HX.out.non
  have hiN := dm_info (nRow w.heap.size) rfl
  obtain ⟨NR, hNR⟩ : ∃ NR, nRow w.heap.size = NR := ⟨_, rfl⟩
  have HE := shid (dec_none HX.out hdn)
  rw [hNR] at HNz hiN HE
  have hNs : Hid (zRow.size = NR.size ∧ NR.all (·.oneCell') = true) := shid ⟨by rw [← hNR]; rfl, by rw [← hNR]; simp [nRow, Value.oneCell']⟩
  clear hNR hmk hsz hD0 hZ12
  go_enter Try.func17, Try.ntmps17
  go_wp2_with (first | (refine wpList_store_row rfl 37 _ _ rfl w.heap.size NR rfl rfl 37 _ HRz.out hiN hNs.out.1 hNs.out.2 ?_) | (refine wpList_load_row rfl 37 _ rfl (w.heap.size + 1 + 1) rfl 37 NR (0, 0) _ HNz.out Try.underlying37 rfl hiN ?_) | fail)
  try simp only [Exit.inBlock, Exit.then]
  refine bodyPost_ret (results_ct rfl _ _ w.heap.size 37 NR _ _ rfl rfl (setRow_heap _ _ _ _ _ _ HRz.out) Try.underlying37 rfl hiN) rfl ?_
  exact HE.out

/-- The document's Decode. -/
theorem refDecode_all (a : Option Addr) (len cap : Nat) (b : List UInt8) (w : World) (hm : cap ≤ maxLen) (hlc : len ≤ cap) (hB : Byt w a len b) (hlm : len ≤ 600) :
    Calls Try.prog 17 #[.slice a len cap] w fun e w' => DecEnd w b e w' := by
  by_cases h : len < 28
  · exact refDecode_short a len cap b w hB.1 h
  · rcases hB.2 with h0 | ⟨bb, off, rfl, hc⟩
    · omega
    · exact refDecode_any bb off len cap b w hm hlc hB hlm (by omega)
end Go.Proofs.Ytejbhjcopldekaa
