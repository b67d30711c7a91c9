/- The walks over the program's Seal and Open: what they answer, whatever they are handed. -/
import Derived.Test.YtcnihgjibiidpaaAeadS
namespace Go.Proofs.Ytcnihgjibiidpaa
set_option linter.unusedVariables false
open Go.RowKit

/-- The key, the nonce, and the sealer of both. -/
structure SQ (w : World) (s : List UInt8) (W : World) : Prop where
  s : Arr W (w.heap.size + 1 + 1) 64 s
  size : w.heap.size + 1 + 1 + 1 ≤ W.heap.size
  bel : Below w.heap.size w W
theorem SQ.new (w : World) (s : List UInt8) (o1 o2 : Obj) : SQ w s (((w.alloc o1).alloc o2).alloc (.cells (s.map bv).toArray 64)) := by
  refine ⟨?_, by simp, (((Below.refl _ _).alloc (Nat.le_refl _) _).alloc (by simp) _).alloc (by simp <;> omega) _⟩
  have := Arr.new ((w.alloc o1).alloc o2) 64 s
  rwa [World.size_alloc, World.size_alloc] at this
theorem SQ.later {w W W' : World} {s : List UInt8} (t : SQ w s W) (hb : Below (w.heap.size + 1 + 1 + 1) W W') : SQ w s W' :=
  ⟨t.s.below hb (by omega), Nat.le_trans t.size hb.size, t.bel.trans (hb.mono (by omega))⟩

set_option maxHeartbeats 1000000 in
set_option maxRecDepth 100000 in
theorem seal_any (key nonce : List UInt8) (a : Option Addr) (la ca : Nat) (ad : List UInt8) (c : Option Addr) (lc cc : Nat) (b : List UInt8) (w : World) (hk : key.length = 32) (hn : nonce.length = 12)
    (hA : Byt w a la ad) (hAn : a = none → ca = 0) (hla : la ≤ 1000) (hca : la ≤ ca) (hcam : ca ≤ maxLen) (hC : Byt w c lc b) (hCn : c = none → cc = 0) (hlc : lc ≤ 1000) (hcc : lc ≤ cc) (hccm : cc ≤ maxLen) :
    Calls Try.prog 19 #[.agg (key.map bv).toArray, .agg (nonce.map bv).toArray, .slice a la ca, .slice c lc cc] w fun e w' => ∃ v, e = .returned v ∧ Below w.heap.size w w' ∧ w'.ownsRow w.heap.size 5 1 v (lc + 16) ((sealB key nonce ad b).map bv) := by
  have HA : Hid (Byt w a la ad) := hA
  have HC : Hid (Byt w c lc b) := hC
  obtain ⟨s, hs⟩ : ∃ s, IsSealer s key nonce := ⟨_, rfl, hk, hn⟩
  have IK : Hid ((Try.prog.info? 23).map (·.size) = some (key.map bv).toArray.size) := key_info key hk
  have IN : Hid ((Try.prog.info? 40).map (·.size) = some (nonce.map bv).toArray.size) := id_info nonce hn
  have hsl := hs.len
  have IS : Hid ((Try.prog.info? 64).map (·.size) = some (s.map bv).toArray.size) := sealer_info s hs.len
  obtain ⟨n1, n0⟩ := arr_new2 w 23 key nonce 40
  have HKey : Hid (Arr _ w.heap.size 23 key) := n0
  have HNon : Hid (Arr _ (w.heap.size + 1) 40 nonce) := n1
  have e44 : (Try.prog.info? 64).map (·.size) = some 44 := by kernel_rfl
  have hst := run_store_arr ((w.alloc (.cells (key.map bv).toArray 23)).alloc (.cells (nonce.map bv).toArray 40)) 64 s 44 hs.len e44
  rw [World.size_alloc, World.size_alloc] at hst
  have HS0 : Hid (SQ w s (((w.alloc (.cells (key.map bv).toArray 23)).alloc (.cells (nonce.map bv).toArray 40)).alloc (.cells (s.map bv).toArray 64))) := SQ.new w s _ _
  clear hA hC n1 n0 e44
  go_enter Try.func19, Try.ntmps19
  go_wp2_with (first | refine wpList_load_row rfl 23 _ rfl w.heap.size rfl 23 _ (0, 0) _ HKey.out Try.underlying23 rfl IK.out ?_ | refine wpList_load_row rfl 40 _ rfl (w.heap.size + 1) rfl 40 _ (0, 0) _ HNon.out Try.underlying40 rfl IN.out ?_ | refine wpList_sealer key nonce s hs rfl (.tmp 12) (.tmp 13) rfl rfl rfl ?_ | refine wpList_load_row rfl 64 _ rfl (w.heap.size + 1 + 1) rfl 64 _ (0, 0) _ HS0.out.s Try.underlying64 rfl IS.out ?_)
  clear hst HKey HNon
  refine from_world (P := fun W => Calls Try.prog _ _ W _) (R := fun W => Hid (SQ w s W)) _ HS0 ?_
  intro W0 hS0
  clear HS0
  refine (turn_own s key nonce hs c lc cc b W0 (HC.out.later hS0.out.bel) (by omega) hcc hccm).mono ?_
  rintro e w1 ⟨v1, rfl, hb1, own1⟩
  obtain ⟨X, hX⟩ : ∃ X, stm key 1#32 nonce b = X := ⟨_, rfl⟩
  rw [hX] at own1
  obtain ⟨a1, c1, rfl, hB1, _, _, hn1⟩ := own_parts own1
  have HS1 : Hid (SQ w s w1) := hS0.out.later (hb1.mono hS0.out.size)
  have HO1 : Hid (w1.ownsRow (w.heap.size + 1 + 1 + 1) 5 1 (.slice a1 lc c1) lc (X.map bv)) := own_lower own1 hS0.out.size
  have HB1 : Hid (Byt w1 a1 lc X) := hB1
  have Hn1 : Hid (a1 = none → c1 = 0) := hn1
  have HX : Hid (stm key 1#32 nonce b = X) := hX
  clear own1 hb1 hB1 hn1 hS0 hX
  go_wp2_with (refine wpList_load_row rfl 64 _ rfl (w.heap.size + 1 + 1) rfl 64 _ (0, 0) _ HS1.out.s Try.underlying64 rfl IS.out ?_)
  refine (atag_any s key nonce hs a la ca ad a1 lc c1 X w1 (HA.out.later HS1.out.bel) hAn HB1.out Hn1.out (by omega) (by omega)).mono ?_
  rintro e w2 ⟨rfl, hb2⟩
  obtain ⟨T, hT⟩ : ∃ T, aeadTag key nonce ad X = T := ⟨_, rfl⟩
  have hTl : T.length = 16 := by rw [← hT, aeadTag_length]
  rw [hT]
  have hst := run_store_arr w2 66 T 16 hTl (by kernel_rfl)
  obtain ⟨W3, hW3⟩ : ∃ W3, w2.alloc (.cells (T.map bv).toArray 66) = W3 := ⟨_, rfl⟩
  have hb3 : Below w1.heap.size w1 W3 := by rw [← hW3]; exact hb2.alloc hb2.size _
  have hB3 : Byt W3 (some ⟨w2.heap.size, 0, none⟩) 16 T := by rw [← hW3]; exact (Arr.new w2 66 T).byt 16 hTl
  rw [hW3] at hst
  have hS3 := HS1.out.later (hb3.mono HS1.out.size)
  have hO3 := HO1.out.kept (grown_below hb3) (by
    rcases h : Value.ownBlock (.slice a1 lc c1) with _ | j
    · exact .inl rfl
    · exact .inr (by simp))
  obtain ⟨v4, w4, hap4, own4, hg4⟩ := append_bytes W3 (w.heap.size + 1 + 1 + 1) _ lc _ hO3 ⟨w2.heap.size, 0, none⟩ 16 16 _ hB3 hS3.size (by omega)
  have HA4 : Hid ((Builtin.append_ #[24, 24] 24 #[.slice a1 lc c1, .slice (some ⟨w2.heap.size, 0, none⟩) 16 16]).run Try.prog W3 = .ok v4 w4) := hap4
  have HO4 : Hid (w4.ownsRow w.heap.size 5 1 v4 (lc + 16) ((sealB key nonce ad b).map bv)) := by
    have e : sealB key nonce ad b = X ++ T := by unfold sealB; rw [HX.out, hT]
    show World.ownsRow _ _ _ _ _ _ _
    rw [e]
    exact own_lower own4 (by omega)
  have HW4 : Hid (Below w.heap.size w w4) := hS3.bel.grown hg4 (by have := hS3.size; omega) (fun k hk => by have := (hO3.lt k hk).1; omega)
  clear hap4 own4 hg4 hO3 hS3 hB3 hb3 hW3 hb2 hT HS1 HO1 HB1 Hn1
  go_wp2_with (at_builtin; refine wpList_append_run rfl (.tmp 22) (.tmp 23) 24 rfl _ _ _ _ rfl rfl HA4.out ?_)
  go_ret
  exact ⟨_, rfl, HW4.out, HO4.out⟩
end Go.Proofs.Ytcnihgjibiidpaa
