import Derived.Test.YthmkhdnnljdglaaGreatDoorQaf
import Derived.Test.YthmkhdnnljdglaaGreatDoorQbo
import Derived.Lib.SlBytesConst
namespace Go.Proofs.YthmkhdnnljdglaaGreatDoor
set_option linter.unusedVariables false
set_option maxRecDepth 100000
open Kum
def ladC (u m:Nat):List Bool → Nat → Nat → Nat → Nat → Bool
 | [],x2,z2,_,_ => decide (fM m z2 = x2) && decide (z2 ≠ 0)
 | true :: l,x2,z2,x3,z3 => ladC u m l (nX3 x3 z3 x2 z2) (nZ3 u x3 z3 x2 z2) (nX2 x3 z3) (nZ2 x3 z3)
 | false :: l,x2,z2,x3,z3 => ladC u m l (nX2 x2 z2) (nZ2 x2 z2) (nX3 x2 z2 x3 z3) (nZ3 u x2 z2 x3 z3)
theorem ladC_val (u m:Nat):∀ (l:List Bool) (n x2 z2 x3 z3:Nat),z2 < P255 → z3 < P255 → Lad (phi u) n (pt x2 z2) (pt x3 z3) → ladC u m l x2 z2 x3 z3 = true → MultX (bitsV l n) (phi u) (phi m)
 | [],n,x2,z2,x3,z3,h2,h3,h,e => by
  unfold ladC at e
  rw [Bool.and_eq_true,decide_eq_true_eq,decide_eq_true_eq] at e
  refine h.done (.inr ⟨fun hz => e.2 ((phi_zero h2).1 hz),?_⟩)
  show phi m * phi z2 = phi x2
  rw [← phi_fM,e.1]
 | true :: l,n,x2,z2,x3,z3,h2,h3,h,e => by
  have hA:=h.one
  rw [← step_two u x3 z3 x2 z2 h3 h2,← step_one u x3 z3 x2 z2 h3 h2] at hA
  exact ladC_val u m l _ _ _ _ _ (nZ3_lt _ _ _ _ _) (nZ2_lt _ _) hA e
 | false :: l,n,x2,z2,x3,z3,h2,h3,h,e => by
  have hA:=h.zero
  rw [← step_one u x2 z2 x3 z3 h2 h3,← step_two u x2 z2 x3 z3 h2 h3] at hA
  exact ladC_val u m l _ _ _ _ _ (nZ2_lt _ _) (nZ3_lt _ _ _ _ _) hA e
def bitsN (K:Nat):Nat → List Bool
 | 0 => []
 | i + 1 => decide (K / 2 ^ i % 2 = 1) :: bitsN K i
theorem mX_ladC (K u m:Nat) (hK:bitsV (bitsN K 255) 0 = K) (hm:m < P255) (h:ladC u m (bitsN K 255) 1 0 u 1 = true):mX K u = m:=by
 have hl:Lad (phi u) 0 (pt 1 0) (pt u 1):=Lad.first (phi u)
 have:=ladC_val u m (bitsN K 255) 0 1 0 u 1 P255_pos (by decide) hl h
 rw [hK] at this
 exact (mX_eq hm this).symm
def evOwnA:List UInt8:=1 :: List.replicate 31 0
def evOwnB:List UInt8:=0 :: 2 :: List.replicate 30 0
def evOnA:List UInt8:=0 :: 3 :: List.replicate 30 0
def evOnB:List UInt8:=0 :: 4 :: List.replicate 30 0
def evPB:Nat:=38364801680376176095104931134727467344853242694084186284833618170977744925613
def evPA:Nat:=52573937849532372069814888178136277301931757964231753054399601207743438775599
def evPO:Nat:=18153576102998169687324876004378560906340955796637970270314680120142542142707
def evES:Nat:=7454598151748439524465027497692252936651263918629440369236281689138310625110
def evSS:Nat:=51849114370274800988072900612005129664311798257016576663048510308333984160670
def evEE:Nat:=2747810551418579148632034480833006660011960989470850184425542823311908902621
def evSE:Nat:=55021228276822177259698419422148955970973030407301062545272907027291389174685
theorem ev_told (k:List UInt8) (n u m:Nat) (hn:leN k = n) (hu:u < P255) (h:mX (clampK n) u = m):secB k (leB 32 u) = leB 32 m:=by
 unfold secB
 rw [mK_told _ _ hu,hn,h]
theorem ev_pub (k:List UInt8) (n m:Nat) (hn:leN k = n) (h:mX (clampK n) 9 = m):pubB k = leB 32 m:=by
 unfold pubB
 rw [hn,h]
theorem ev1:mX (clampK 512) 9 = evPB:=mX_ladC (clampK 512) 9 evPB (by decide +kernel) (by decide +kernel) (by decide +kernel)
theorem ev2:mX (clampK 1) 9 = evPA:=mX_ladC (clampK 1) 9 evPA (by decide +kernel) (by decide +kernel) (by decide +kernel)
theorem ev3:mX (clampK 768) 9 = evPO:=mX_ladC (clampK 768) 9 evPO (by decide +kernel) (by decide +kernel) (by decide +kernel)
theorem ev4:mX (clampK 768) evPB = evES:=mX_ladC (clampK 768) evPB evES (by decide +kernel) (by decide +kernel) (by decide +kernel)
theorem ev5:mX (clampK 1) evPB = evSS:=mX_ladC (clampK 1) evPB evSS (by decide +kernel) (by decide +kernel) (by decide +kernel)
theorem ev6:mX (clampK 1024) evPO = evEE:=mX_ladC (clampK 1024) evPO evEE (by decide +kernel) (by decide +kernel) (by decide +kernel)
theorem ev7:mX (clampK 1024) evPA = evSE:=mX_ladC (clampK 1024) evPA evSE (by decide +kernel) (by decide +kernel) (by decide +kernel)
def evC0:List UInt8:=[187,234,2,43,148,140,243,188,88,87,215,8,4,34,145,121,225,17,107,196,12,184,204,7,72,53,52,156,70,75,202,54]
def evC1:List UInt8:=[202,152,239,80,156,122,172,120,255,128,135,99,242,212,51,234,40,195,215,122,155,82,150,201,125,143,119,136,66,90,244,211]
def evC2:List UInt8:=[197,228,243,127,169,179,155,231,110,46,4,98,50,187,239,15,44,114,26,160,77,2,155,166,15,220,22,36,35,115,124,251]
def evC3:List UInt8:=[28,231,238,248,11,117,28,247,85,229,90,71,18,120,164,245,15,13,59,44,215,209,113,132,102,54,24,23,46,87,128,11]
def evC4:List UInt8:=[142,209,50,253,143,242,20,144,67,221,208,16,115,98,25,39,254,134,181,76,216,7,70,235,74,192,72,136,163,76,45,211]
theorem evc0:nameB noiseName = evC0:=by decide +kernel
theorem evc1:der1 evC0 (leB 32 evES) = evC1:=by decide +kernel
theorem evc2:der1 evC1 (leB 32 evSS) = evC2:=by decide +kernel
theorem evc3:der1 evC2 (leB 32 evEE) = evC3:=by decide +kernel
theorem evc4:der1 evC3 (leB 32 evSE) = evC4:=by decide +kernel
theorem evc5:at8 (der1 evC4 []) 0 ≠ at8 (der2 evC4 []) 0:=by decide +kernel
theorem ev_chain:der1 (der1 (der1 (der1 (nameB noiseName) (secB evOnA (pubB evOwnB))) (secB evOwnA (pubB evOwnB))) (secB evOnB (pubB evOnA))) (secB evOnB (pubB evOwnA)) = evC4:=by
 have p1:pubB evOwnB = leB 32 evPB:=ev_pub _ 512 _ (by decide) ev1
 have p2:pubB evOwnA = leB 32 evPA:=ev_pub _ 1 _ (by decide) ev2
 have p3:pubB evOnA = leB 32 evPO:=ev_pub _ 768 _ (by decide) ev3
 rw [p1,p2,p3,ev_told evOnA 768 evPB evES (by decide) (by decide +kernel) ev4,ev_told evOwnA 1 evPB evSS (by decide) (by decide +kernel) ev5,ev_told evOnB 1024 evPO evEE (by decide) (by decide +kernel) ev6,ev_told evOnB 1024 evPA evSE (by decide) (by decide +kernel) ev7,evc0,evc1,evc2,evc3,evc4]
theorem ev_apart:der1 evC4 [] ≠ der2 evC4 []:=fun h => evc5 (by rw [h])
end Go.Proofs.YthmkhdnnljdglaaGreatDoor
namespace Go.Proofs.YthmkhdnnljdglaaGreatDoor
set_option linter.unusedVariables false
set_option maxRecDepth 100000
open Go.RowKit
theorem sp_place (w:World) (A B K:List UInt8) (hA:A.length = 32) (hB:B.length = 32) (hK:K.length = 32) :
  ∃ X1 X2 X3,(storeCells ⟨w.heap.size,0,none⟩ (CiV A true 0)).run Tryz.prog (((w.alloc (.cells ciZ 42)).alloc (.cells ciZ 42)).alloc (.cells zero32C 24)) = .ok () X1 ∧
   (storeCells ⟨w.heap.size + 1,0,none⟩ (CiV B true 0)).run Tryz.prog X1 = .ok () X2 ∧ (storeCells ⟨w.heap.size + 1 + 1,0,none⟩ (K.map bv)).run Tryz.prog X2 = .ok () X3 ∧
   CiIs X3 w.heap.size A true 0 ∧ CiIs X3 (w.heap.size + 1) B true 0 ∧ Arr X3 (w.heap.size + 1 + 1) 24 K ∧ Below w.heap.size w X3:=by
 have h:=(((Vw.none w).alloc 42 zeroCi).alloc 42 zeroCi).alloc 24 zeroKb
 simp only [World.size_alloc] at h
 have h0:Vw w (((w.alloc (.cells zeroCi.toArray 42)).alloc (.cells zeroCi.toArray 42)).alloc (.cells zeroKb.toArray 24)) (spL w):=h
 have e1:(ciZ:Array Value) = zeroCi.toArray:=by kernel_rfl
 have e2:(zero32C:Array Value) = zeroKb.toArray:=by kernel_rfl
 rw [e1,e2]
 obtain ⟨Y,hY⟩:∃ Y,((w.alloc (.cells zeroCi.toArray 42)).alloc (.cells zeroCi.toArray 42)).alloc (.cells zeroKb.toArray 24) = Y:=⟨_,rfl⟩
 rw [hY] at h0 ⊢
 obtain ⟨Z1,hZ1⟩:∃ Z,Y.setRow w.heap.size (CiV A true 0).toArray = Z:=⟨_,rfl⟩
 obtain ⟨Z2,hZ2⟩:∃ Z,Z1.setRow (w.heap.size + 1) (CiV B true 0).toArray = Z:=⟨_,rfl⟩
 obtain ⟨Z3,hZ3⟩:∃ Z,Z2.setRow (w.heap.size + 1 + 1) (K.map bv).toArray = Z:=⟨_,rfl⟩
 have v1:=h0.put 0 w.heap.size 42 zeroCi (CiV A true 0) rfl
 rw [hZ1] at v1
 have v2:=v1.put 1 (w.heap.size + 1) 42 zeroCi (CiV B true 0) rfl
 rw [hZ2] at v2
 have v3:=v2.put 2 (w.heap.size + 1 + 1) 24 zeroKb (K.map bv) rfl
 rw [hZ3] at v3
 have t1:=store_row Y w.heap.size _ _ (CiV A true 0) (h0.cell (w.heap.size,42,zeroCi) (by simp [spL])) (by rw [CiV_length,hA];exact zeroCi_length.symm) (CiV_one A true 0)
 rw [hZ1] at t1
 have t2:=store_row Z1 (w.heap.size + 1) _ _ (CiV B true 0) (v1.cell (w.heap.size + 1,42,zeroCi) (by simp [spL])) (by rw [CiV_length,hB];exact zeroCi_length.symm) (CiV_one B true 0)
 rw [hZ2] at t2
 have t3:=store_row Z2 (w.heap.size + 1 + 1) _ _ (K.map bv) (v2.cell (w.heap.size + 1 + 1,24,zeroKb) (by simp [spL])) (by simp [hK,zeroKb]) (bv_oneCell K)
 rw [hZ3] at t3
 exact ⟨Z1,Z2,Z3,t1,t2,t3,⟨v3.cell (w.heap.size,42,CiV A true 0) (by simp [spL]),hA⟩,⟨v3.cell (w.heap.size + 1,42,CiV B true 0) (by simp [spL]),hB⟩,v3.cell (w.heap.size + 1 + 1,24,K.map bv) (by simp [spL]),v3.bel⟩
theorem lit_byt (W:World) (l:List UInt8) (cs:Array Value) (e:TypeId) (fr:Nat × Nat) (hc:cs = (l.map bv).toArray):Byt (W.alloc (.cells cs e fr)) (some ⟨W.heap.size,0,none⟩) l.length l ∧ Below W.heap.size W (W.alloc (.cells cs e fr)) ∧ (W.alloc (.cells cs e fr)).heap.size = W.heap.size + 1:=
 ⟨byt_lit _ l _ cs e fr (heap_alloc_new W _) hc,(Below.refl _ _).alloc (Nat.le_refl _) _,World.size_alloc _ _⟩
theorem sendK_length (x:NS):(NS.sendK x).length = 32:=by
 unfold NS.sendK
 split
 ·exact macB_length _ _
 ·exact macB_length _ _
theorem hearK_length (x:NS):(NS.hearK x).length = 32:=by
 unfold NS.hearK
 split
 ·exact macB_length _ _
 ·exact macB_length _ _
set_option maxHeartbeats 16000000 in
theorem noiShown_any (w:World) (hT:TT w):Calls Tryz.prog 8 #[] w fun e w' => e = .returned (.bool true) ∧ Below w.heap.size w w':=by
 have kd0:∀ (W:World) (C:Array Value) (n c:Nat),(convert 22 22 (.slice (some ⟨W.heap.size,0,none⟩) n c)).run Tryz.prog (W.alloc (.cells C 5)) = .ok (.slice (some ⟨W.heap.size,0,none⟩) n c) (W.alloc (.cells C 5 (C.size,C.size + 1))):=fun W C n c =>
  Lib.run_convert_bytes_const (P:=Tryz.prog) W 22 5 C n c Tryz.underlying22 Tryz.underlying5
 have HT:=ohid hT
 have AG:=ohid (NS.agreed noiseName [112] evOwnA evOwnB evOnA evOnB [111,110,101] [116,119,111])
 have AC:Hid ((NS.bg2 noiseName [112] evOwnA evOwnB evOnA evOnB [111,110,101] [116,119,111]).M.C = evC4):=AG.out.ch.trans ev_chain
 clear hT
 go_enter Tryz.func8,Tryz.ntmps8
 go_wp2_with fail
 obtain ⟨hB0,hb0,hs0⟩:=lit_byt w [112] #[.int .u8 112] 5 (1,2) rfl
 obtain ⟨W0,hW0⟩:∃ W,w.alloc (.cells #[.int .u8 112] 5 (1,2)) = W:=⟨_,rfl⟩
 rw [hW0] at hB0 hb0 hs0
 rw [hW0]
 have HB0:=ohid hB0
 have HW0:=ohid hb0
 clear hB0 hb0 hW0 hs0
 refine (public_any evOwnB W0 rfl (HT.out.2.later HW0.out)).mono ?_
 rintro e w1 ⟨rfl,hb1⟩
 have hRl:=pubB_length evOwnB
 obtain ⟨R,hR⟩:∃ R,pubB evOwnB = R:=⟨_,rfl⟩
 have hR':leB 32 (mX (clampK (leN evOwnB)) 9) = R:=hR
 rw [hR] at hRl
 rw [hR']
 have HR:=ohid hR
 have HB1:=ohid (HB0.out.later hb1)
 have HW1:=ohid (HW0.out.trans (hb1.mono HW0.out.size))
 clear hb1 hR hR' HB0 HW0
 go_wp2_with fail
 refine (nStart_any (some ⟨w.heap.size,0,none⟩) 1 1 [112] evOwnA R evOnA w1 rfl rfl hRl HB1.out (fun e => by cases e) (by omega) (by omega) (by unfold maxLen;omega) (HT.out.later HW1.out)).mono ?_
 rintro e w2 ⟨ga,rfl,hga,hb2,hA⟩
 have HA:=ohid hA
 have HW2:=ohid (HW1.out.trans (hb2.mono HW1.out.size))
 have HGA:Hid (w.heap.size ≤ ga):=Nat.le_trans HW1.out.size hga
 clear hA hb2 hga HB1 HW1
 go_wp2_with fail
 obtain ⟨hB3,hb3,hs3⟩:=lit_byt w2 [112] #[.int .u8 112] 5 (1,2) rfl
 obtain ⟨w3,hw3⟩:∃ W,w2.alloc (.cells #[.int .u8 112] 5 (1,2)) = W:=⟨_,rfl⟩
 rw [hw3] at hB3 hb3 hs3
 rw [hw3]
 have hW3:=HW2.out.trans (hb3.mono HW2.out.size)
 refine (nAnswer_any (some ⟨w2.heap.size,0,none⟩) 1 1 [112] evOwnB evOnB w3 rfl rfl hB3 (fun e => by cases e) (by omega) (by omega) (by unfold maxLen;omega) (HT.out.later hW3)).mono ?_
 rintro e w4 ⟨gb,rfl,hgb,hb4,hBd⟩
 have hga2:ga < w2.heap.size:=HA.out.lt
 have hgb2:gb < w4.heap.size:=hBd.lt
 have h24:=hb4.size
 have hA4:=(HA.out.later hb3).later hb4
 rw [← HR.out] at hA4
 have HD:Hid (Du w w4 w4.heap.size ga gb (NS.begin_ noiseName [112] evOwnA (pubB evOwnB) evOnA) (NS.answer noiseName [112] evOwnB evOnB)):=⟨hW3.trans (hb4.mono hW3.size),HGA.out,by omega,by have:=hW3.size;omega,hgb2,by omega,Nat.le_refl _,hA4,hBd,HT.out⟩
 obtain ⟨s,hs⟩:∃ s,w4.heap.size = s:=⟨_,rfl⟩
 have hsz4:s ≤ w4.heap.size:=Nat.le_of_eq hs.symm
 rw [hs] at HD
 clear hs hB3 hb3 hs3 hw3 hW3 hgb hb4 hBd hga2 hgb2 h24 hA4 HA HW2 HGA
 go_wp2_with fail
 obtain ⟨hB5,hb5,hs5⟩:=lit_byt w4 [111,110,101] #[.int .u8 111,.int .u8 110,.int .u8 101] 5 (3,4) rfl
 obtain ⟨w5,hw5⟩:∃ W,w4.alloc (.cells #[.int .u8 111,.int .u8 110,.int .u8 101] 5 (3,4)) = W:=⟨_,rfl⟩
 rw [hw5] at hB5 hb5 hs5
 rw [hw5]
 have HD5:=ohid (HD.out.later hb5)
 refine (nFirst_any ga _ (some ⟨w4.heap.size,0,none⟩) 3 3 [111,110,101] w5 HD5.out.a hB5 (fun e => by cases e) (by omega) (by omega) (by unfold maxLen;omega) (fun _ y o f e => by cases e;omega) HD5.out.tab HD5.out.ka).mono ?_
 intro e w6 hE
 obtain ⟨v6,q6,rfl,D6,own6,hG6⟩:=HD5.out.stepA hE
 rw [AG.out.e1] at own6
 rw [AG.out.e1]
 have HD6:Hid (Du w w6 s ga gb (NS.ag1 noiseName [112] evOwnA evOwnB evOnA [111,110,101]) (NS.answer noiseName [112] evOwnB evOnB)):=D6
 have HO6:Hid (w6.ownsRow s 5 1 v6 q6 ((NS.agX noiseName [112] evOwnA evOwnB evOnA [111,110,101]).map bv)):=own6
 clear hE D6 own6 hG6 hB5 hb5 hs5 hw5 HD5 HD hsz4
 obtain ⟨X,hX⟩:∃ X,NS.agX noiseName [112] evOwnA evOwnB evOnA [111,110,101] = X:=⟨_,rfl⟩
 have HX:=ohid hX
 have hXl:X.length = 99:=by rw [← hX];exact AG.out.l1
 rw [hX] at HO6
 obtain ⟨a6,c6,rfl,hB6,hc6,hm6,hn6,hw6,hs6,hl6⟩:=own_arg HO6.out
 obtain rfl:q6 = 99:=by omega
 have HB6:=ohid hB6
 have HN6:=ohid hn6
 have HL6:=ohid hw6
 clear hX hB6 hn6 hw6 hs6 hl6
 go_wp2_with fail
 refine (nHear_any gb _ a6 99 c6 X w6 HD6.out.b HB6.out HN6.out (by omega) hc6 hm6 (fun _ => HL6.out) HD6.out.tab HD6.out.kb).mono ?_
 intro e w7 hE
 obtain ⟨v7,q7,rfl,D7,own7,hG7⟩:=HD6.out.stepB hE
 rw [← HX.out,AG.out.e2] at own7
 rw [← HX.out,AG.out.e2]
 rw [← HX.out] at D7
 have HD7:Hid (Du w w7 s ga gb (NS.ag1 noiseName [112] evOwnA evOwnB evOnA [111,110,101]) (NS.bg1 noiseName [112] evOwnA evOwnB evOnA evOnB [111,110,101])):=D7
 have HO7:Hid (w7.ownsRow s 5 1 v7 q7 (([111,110,101]:List UInt8).map bv)):=by rw [if_pos rfl,AG.out.o2] at own7;exact own7
 clear hE D7 own7 hG7 HB6 HN6 HL6 HO6 HD6 hc6 hm6
 obtain ⟨a7,c7,rfl,hB7,hc7,hm7,hn7,hw7,hs7,hl7⟩:=own_arg HO7.out
 obtain rfl:q7 = 3:=hl7.symm
 clear hB7 hc7 hm7 hn7 hw7 hs7 hl7
 go_wp2_with fail
 obtain ⟨hB8,hb8,hs8⟩:=lit_byt w7 [116,119,111] #[.int .u8 116,.int .u8 119,.int .u8 111] 5 (3,4) rfl
 obtain ⟨w8,hw8⟩:∃ W,w7.alloc (.cells #[.int .u8 116,.int .u8 119,.int .u8 111] 5 (3,4)) = W:=⟨_,rfl⟩
 rw [hw8] at hB8 hb8 hs8
 rw [hw8]
 have HD8:=ohid (HD7.out.later hb8)
 have HO8:=ohid (own_later HO7.out hb8)
 refine (nSecond_any gb _ (some ⟨w7.heap.size,0,none⟩) 3 3 [116,119,111] w8 HD8.out.b hB8 (fun e => by cases e) (by omega) (by omega) (by unfold maxLen;omega) (fun _ y o f e => by cases e;omega) HD8.out.tab HD8.out.kb).mono ?_
 intro e w9 hE
 obtain ⟨v9,q9,rfl,D9,own9,hG9⟩:=HD8.out.stepB hE
 rw [AG.out.e3] at own9
 rw [AG.out.e3]
 have HD9:Hid (Du w w9 s ga gb (NS.ag1 noiseName [112] evOwnA evOwnB evOnA [111,110,101]) (NS.bg2 noiseName [112] evOwnA evOwnB evOnA evOnB [111,110,101] [116,119,111])):=D9
 have HO9:Hid (w9.ownsRow s 5 1 v9 q9 ((NS.agZ noiseName [112] evOwnA evOwnB evOnA evOnB [111,110,101] [116,119,111]).map bv)):=own9
 have HOy:=ohid (own_keep HO8.out hG9 HD8.out.b2)
 clear hE D9 own9 hG9 hB8 hb8 hs8 hw8 HD8 HD7 HO7 HO8
 obtain ⟨Z,hZ⟩:∃ Z,NS.agZ noiseName [112] evOwnA evOwnB evOnA evOnB [111,110,101] [116,119,111] = Z:=⟨_,rfl⟩
 have HZ:=ohid hZ
 have hZl:Z.length = 51:=by rw [← hZ];exact AG.out.l3
 rw [hZ] at HO9
 obtain ⟨a9,c9,rfl,hB9,hc9,hm9,hn9,hw9,hs9,hl9⟩:=own_arg HO9.out
 obtain rfl:q9 = 51:=by omega
 have HB9:=ohid hB9
 have HN9:=ohid hn9
 have HL9:=ohid hw9
 clear hZ hB9 hn9 hw9 hs9 hl9
 go_wp2_with fail
 refine (nDone_any ga _ a9 51 c9 Z w9 HD9.out.a HB9.out HN9.out (by omega) hc9 hm9 (fun _ => HL9.out) HD9.out.tab HD9.out.ka).mono ?_
 intro e w10 hE
 obtain ⟨v10,q10,rfl,D10,own10,hG10⟩:=HD9.out.stepA hE
 rw [← HZ.out,AG.out.e4] at own10
 rw [← HZ.out,AG.out.e4]
 rw [← HZ.out] at D10
 have HD10:Hid (Du w w10 s ga gb (NS.ag2 noiseName [112] evOwnA evOwnB evOnA evOnB [111,110,101] [116,119,111]) (NS.bg2 noiseName [112] evOwnA evOwnB evOnA evOnB [111,110,101] [116,119,111])):=D10
 have HO10:Hid (w10.ownsRow s 5 1 v10 q10 (([116,119,111]:List UInt8).map bv)):=by rw [if_pos rfl] at own10;have h:=AG.out.o4;rw [show NS.doneOut _ _ = _ from h] at own10;exact own10
 replace HOy:=ohid (own_keep HOy.out hG10 HD9.out.a2)
 clear hE D10 own10 hG10 HB9 HN9 HL9 HO9 HD9 hc9 hm9
 obtain ⟨a10,c10,rfl,hB10,hc10,hm10,hn10,hw10,hs10,hl10⟩:=own_arg HO10.out
 obtain rfl:q10 = 3:=hl10.symm
 clear hB10 hc10 hm10 hn10 hw10 hs10 hl10
 obtain ⟨x2,hx2⟩:∃ x2,NS.ag2 noiseName [112] evOwnA evOwnB evOnA evOnB [111,110,101] [116,119,111] = x2:=⟨_,rfl⟩
 obtain ⟨y2,hy2⟩:∃ y2,NS.bg2 noiseName [112] evOwnA evOwnB evOnA evOnB [111,110,101] [116,119,111] = y2:=⟨_,rfl⟩
 have hm:=AG.out.m
 have hsa:=AG.out.sa
 have hsb:=AG.out.sb
 have hta:=AG.out.ta
 have htb:=AG.out.tb
 have hSb:=AG.out.Sb
 rw [hx2,hy2] at HD10 hm
 rw [hx2] at hsa hta
 rw [hy2] at hsb htb hSb AC
 obtain ⟨D1,hD1⟩:∃ D,der1 evC4 [] = D:=⟨_,rfl⟩
 obtain ⟨D2,hD2⟩:∃ D,der2 evC4 [] = D:=⟨_,rfl⟩
 have hne:D1 ≠ D2:=by rw [← hD1,← hD2];exact ev_apart
 have k1:NS.sendK x2 = D1:=by unfold NS.sendK;rw [if_pos hta,hm,AC.out,hD1]
 have k2:NS.hearK x2 = D2:=by unfold NS.hearK;rw [if_pos hta,hm,AC.out,hD2]
 have k3:NS.sendK y2 = D2:=by unfold NS.sendK;rw [if_neg (by rw [htb];decide),AC.out,hD2]
 have k4:NS.hearK y2 = D1:=by unfold NS.hearK;rw [if_neg (by rw [htb];decide),AC.out,hD1]
 have l1:D1.length = 32:=by rw [← k1];exact sendK_length _
 have l2:D2.length = 32:=by rw [← k2];exact hearK_length _
 have HK:=ohid (And.intro k1 (And.intro k2 (And.intro k3 k4)))
 have HNe:=ohid hne
 have HM:=ohid hm
 have HSA:=ohid hsa
 have HSB:=ohid hsb
 have HTA:=ohid hta
 have HSb:=ohid hSb
 clear hx2 hy2 hm hsa hsb hta htb hSb hD1 hD2 hne k1 k2 k3 k4 AC
 have hHl:x2.M.H.length = 32:=by
  obtain ⟨sx,hsx⟩:=HD10.out.a
  exact hsx.sd.mi.h
 obtain ⟨H,hH⟩:∃ H,x2.M.H = H:=⟨_,rfl⟩
 have hHy:y2.M.H = H:=by rw [← HM.out];exact hH
 rw [hH] at hHl
 have HH:=ohid (And.intro hH hHy)
 clear hH hHy
 go_wp2_with fail
 refine (nSplit_ok ga x2 w10 HD10.out.a HD10.out.tab HSA.out).mono ?_
 rintro e w11 ⟨rfl,hb11⟩
 rw [HK.out.1,HK.out.2.1,HH.out.1]
 obtain ⟨X1,X2,X3,s1,s2,s3,hc1,hc2,hk3,hbX⟩:=sp_place w11 D1 D2 H l1 l2 hHl
 simp only [ciZ,zero32C,List.replicate] at s1
 obtain ⟨p,hp⟩:∃ p,w11.heap.size = p:=⟨_,rfl⟩
 rw [hp] at s1 s2 s3 hc1 hc2 hk3
 have hps:s ≤ p:=by rw [← hp];exact Nat.le_trans HD10.out.sz hb11.size
 have HD11:=ohid ((HD10.out.later hb11).later hbX)
 have HOy11:=ohid (own_later (own_later HOy.out hb11) hbX)
 have HO11:=ohid (own_later (own_later HO10.out hb11) hbX)
 have HC1:=ohid hc1
 have HC2:=ohid hc2
 have HC3:=ohid hk3
 have hl1:(CiV D1 true 0).length = 34:=by rw [CiV_length,l1]
 have hl2:(CiV D2 true 0).length = 34:=by rw [CiV_length,l2]
 have hlH:(H.map bv).length = 32:=by simp [hHl]
 clear hc1 hc2 hk3 hbX hb11 HD10 HOy HO10
 go_wp2_with fail
 clear s1 s2 s3 hp
 refine (nSplit_ok gb y2 X3 HD11.out.b HD11.out.tab HSB.out).mono ?_
 rintro e w12 ⟨rfl,hb12⟩
 rw [HK.out.2.2.1,HK.out.2.2.2,HH.out.2]
 obtain ⟨Y1,Y2,Y3,s1,s2,s3,hc4,hc5,hk6,hbY⟩:=sp_place w12 D2 D1 H l2 l1 hHl
 simp only [ciZ,zero32C,List.replicate] at s1
 obtain ⟨r,hr⟩:∃ r,w12.heap.size = r:=⟨_,rfl⟩
 rw [hr] at s1 s2 s3 hc4 hc5 hk6
 have hrs:s ≤ r:=by rw [← hr];exact Nat.le_trans HD11.out.sz hb12.size
 have HD12:=ohid ((HD11.out.later hb12).later hbY)
 replace HOy11:=ohid (own_later (own_later HOy11.out hb12) hbY)
 replace HO11:=ohid (own_later (own_later HO11.out hb12) hbY)
 replace HC1:=ohid ((HC1.out.later hb12).later hbY)
 replace HC2:=ohid ((HC2.out.later hb12).later hbY)
 replace HC3:=ohid ((HC3.out.later hb12).later hbY)
 have HC4:=ohid hc4
 have HC5:=ohid hc5
 have HC6:=ohid hk6
 clear hc4 hc5 hk6 hbY hb12 HD11
 go_wp2_with fail
 clear s1 s2 s3 hr
 refine (nFirst_any ga x2 none 0 0 [] Y3 HD12.out.a ⟨rfl,.inl rfl⟩ (fun _ => rfl) (by omega) (by omega) (by unfold maxLen;omega) (fun _ y o f e => by cases e) HD12.out.tab HD12.out.ka).mono ?_
 intro e w13 hE
 obtain ⟨v13,q13,rfl,D13,_,hG13⟩:=HD12.out.stepA hE
 have he13:NS.firstErr x2 = 10:=by unfold NS.firstErr;rw [if_neg (fun h => by have:=h.2;rw [HSA.out] at this;cases this)]
 rw [he13]
 have HD13:=ohid D13
 have hga:=HD12.out.a2
 have HY:=ohid (own_keep HOy11.out hG13 hga)
 have HW:=ohid (own_keep HO11.out hG13 hga)
 replace HC1:=ohid (HC1.out.but hG13 (by omega))
 replace HC2:=ohid (HC2.out.but hG13 (by omega))
 replace HC4:=ohid (HC4.out.but hG13 (by omega))
 replace HC5:=ohid (HC5.out.but hG13 (by omega))
 have HC3':Hid (Arr w13 (p + 1 + 1) 24 H):=by show _ = _;rw [hG13.block _ HC3.out.lt (fun e => by cases e;omega)];exact HC3.out
 have HC6':Hid (Arr w13 (r + 1 + 1) 24 H):=by show _ = _;rw [hG13.block _ HC6.out.lt (fun e => by cases e;omega)];exact HC6.out
 obtain ⟨_,_,e7,hB7,_,_,_⟩:=own_parts HY.out
 cases e7
 obtain ⟨_,_,e10,hB10,_,_,_⟩:=own_parts HW.out
 cases e10
 have q1:=conv_bytes w13 a7 3 c7 [111,110,101] hB7
 have q2:=conv_bytes w13 a10 3 c10 [116,119,111] hB10
 have hS1:(S [111,110,101]).toList = [111,110,101]:=S_toList _
 have hS2:(S [116,119,111]).toList = [116,119,111]:=S_toList _
 have HQ1:=ohid (ci_eq w13 D1 D1 true true 0 0 l1 l1)
 have HQ2:=ohid (ci_eq w13 D2 D2 true true 0 0 l2 l2)
 have HQ3:=ohid (ci_eq w13 D1 D2 true true 0 0 l1 l2)
 have hd1:decide (D1 = D1 ∧ true = true ∧ 0 = 0) = true:=decide_eq_true (And.intro rfl (And.intro rfl rfl))
 have hd2:decide (D2 = D2 ∧ true = true ∧ 0 = 0) = true:=decide_eq_true (And.intro rfl (And.intro rfl rfl))
 have hd3:decide (D1 = D2 ∧ true = true ∧ 0 = 0) = false:=decide_eq_false (fun h => HNe.out h.1)
 rw [hd1] at HQ1
 rw [hd2] at HQ2
 rw [hd3] at HQ3
 have q3:=arr_eq w13 24 32 H H hHl hHl Tryz.underlying24
 rw [decide_eq_true rfl] at q3
 have HI3:=ohid (keyIA hHl)
 clear hE D13 hG13 HOy11 HO11 HC3 HC6 HY HW hd1 hd2 hd3 hB7 hB10 HD12 he13 kd0
 go_wp2_with (first | (refine wpList_load_metC (by rfl) 42 (.tmp 11) rfl p rfl 42 (CiV D1 true 0).toArray (0,0) _ HC1.out.row Tryz.underlying42 rfl (ci_info D1 true 0 l1) ?_;refine wpList_load_metC (by rfl) 42 (.tmp 16) rfl (r + 1) rfl 42 (CiV D1 true 0).toArray (0,0) _ HC5.out.row Tryz.underlying42 rfl (ci_info D1 true 0 l1) ?_;refine wpList_cmp false (by rfl) (.tmp 129) (.tmp 130) 42 42 rfl (CiV D1 true 0).toArray (CiV D1 true 0).toArray rfl rfl Tryz.eqGuardType42 true HQ1.out ?_;go_wp2_with (first | (refine wpList_load_metC (by rfl) 42 (.tmp 12) rfl (p + 1) rfl 42 (CiV D2 true 0).toArray (0,0) _ HC2.out.row Tryz.underlying42 rfl (ci_info D2 true 0 l2) ?_;refine wpList_load_metC (by rfl) 42 (.tmp 15) rfl r rfl 42 (CiV D2 true 0).toArray (0,0) _ HC4.out.row Tryz.underlying42 rfl (ci_info D2 true 0 l2) ?_;refine wpList_cmp false (by rfl) (.tmp 134) (.tmp 135) 42 42 rfl (CiV D2 true 0).toArray (CiV D2 true 0).toArray rfl rfl Tryz.eqGuardType42 true HQ2.out ?_;go_wp2_with (first | (refine wpList_load_metC (by rfl) 24 (.tmp 13) rfl (p + 1 + 1) rfl 24 (H.map bv).toArray (0,0) _ HC3'.out Tryz.underlying24 rfl HI3.out ?_;refine wpList_load_metC (by rfl) 24 (.tmp 17) rfl (r + 1 + 1) rfl 24 (H.map bv).toArray (0,0) _ HC6'.out Tryz.underlying24 rfl HI3.out ?_;go_wp2_with (first | (refine wpList_load_metC (by rfl) 42 (.tmp 11) rfl p rfl 42 (CiV D1 true 0).toArray (0,0) _ HC1.out.row Tryz.underlying42 rfl (ci_info D1 true 0 l1) ?_;refine wpList_load_metC (by rfl) 42 (.tmp 12) rfl (p + 1) rfl 42 (CiV D2 true 0).toArray (0,0) _ HC2.out.row Tryz.underlying42 rfl (ci_info D2 true 0 l2) ?_;refine wpList_cmp true (by rfl) (.tmp 144) (.tmp 145) 42 42 rfl (CiV D1 true 0).toArray (CiV D2 true 0).toArray rfl rfl Tryz.eqGuardType42 false HQ3.out ?_;go_wp2_with fail) | fail)) | fail)) | fail)) | fail)
 refine (nOther_any gb y2 w13 HD13.out.b).mono ?_
 rintro e w14 ⟨rfl,hb14,_⟩
 rw [HSb.out]
 have HD14:=ohid (HD13.out.later hb14)
 clear hb14 HD13 q3 q1 q2 hS1 hS2
 have hRl2:=pubB_length evOwnA
 obtain ⟨R2,hR2⟩:∃ R,pubB evOwnA = R:=⟨_,rfl⟩
 have HR2:Hid (leB 32 (mX (clampK (leN evOwnA)) 9) = R2):=hR2
 rw [hR2] at hRl2
 rw [hR2]
 clear hR2
 go_wp2_with fail
 refine (public_any evOwnA w14 rfl HD14.out.tab.2).mono ?_
 rintro e w15 ⟨rfl,hb15⟩
 rw [HR2.out]
 have HD15:=ohid (HD14.out.later hb15)
 clear hb15 HD14
 have q3:=arr_eq w15 24 32 R2 R2 hRl2 hRl2 Tryz.underlying24
 rw [decide_eq_true rfl] at q3
 go_wp2_with fail
 go_ret
 exact ⟨rfl,HD15.out.bel⟩
end Go.Proofs.YthmkhdnnljdglaaGreatDoor
