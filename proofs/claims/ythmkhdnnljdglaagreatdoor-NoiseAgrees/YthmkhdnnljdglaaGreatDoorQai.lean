import Derived.Test.YthmkhdnnljdglaaGreatDoorQad
import Derived.Test.YthmkhdnnljdglaaGreatDoorQah
import Derived.Test.YthmkhdnnljdglaaGreatDoorQac
import Derived.Test.YthmkhdnnljdglaaGreatDoorRows
import Derived.ProofKit
import Derived.LaidMore
import Derived.OpenShut
import Derived.Stop.Joined
namespace Go.Proofs.YthmkhdnnljdglaaGreatDoor
set_option linter.unusedVariables false
set_option maxRecDepth 100000
open Go.RowKit
theorem rotl_neg (x:BitVec 32) (n:Int):rotl x (-n) = rotr x n:=by
 unfold rotr rotl
 have:(32 - n) % 32 = (-n) % 32:=by omega
 rw [this]
set_option maxHeartbeats 400000 in
set_option maxRecDepth 100000 in
theorem bright_any (x:BitVec 32) (n:Int) (w:World) (h0:0 ≤ n) (h1:n ≤ 32) :
  Calls Tryz.prog 171 #[.int .u32 (x.toNat:Int),.int .i64 n] w fun e w' => e = .returned (.int .u32 ((rotr x n).toNat:Int)) ∧ w' = w:=by
 go_enter Tryz.func171,Tryz.ntmps171
 go_wp2_with (go_at_call 174;refine (rot_any x (-n) _).mono ?_;rintro e w' ⟨rfl,rfl⟩)
 go_ret
 refine ⟨?_,rfl⟩
 rw [rotl_neg]
 rfl
theorem add3_val (x y z:BitVec 32):(((x.toNat:Int) + ((y.toNat:Int) + (z.toNat:Int)) % 4294967296)) % 4294967296 = ((x + y + z).toNat:Int):=by
 rw [BitVec.toNat_add,BitVec.toNat_add];omega
theorem add2_val (x y:BitVec 32):((x.toNat:Int) + (y.toNat:Int)) % 4294967296 = ((x + y).toNat:Int):=by
 rw [BitVec.toNat_add];omega
set_option maxHeartbeats 4000000 in
set_option maxRecDepth 100000 in
theorem bmix_any (g:Nat) (t:TypeId) (l0:List (BitVec 32)) (a b c d:Nat) (x y:BitVec 32) (w0:World) (hS:Wd w0 g t l0) (ha:a < l0.length) (hb:b < l0.length) (hc:c < l0.length) (hd:d < l0.length) :
  Calls Tryz.prog 165 #[.pointer (some ⟨g,a,none⟩),.pointer (some ⟨g,b,none⟩),.pointer (some ⟨g,c,none⟩),.pointer (some ⟨g,d,none⟩),.int .u32 (x.toNat:Int),.int .u32 (y.toNat:Int)] w0 fun e w' => (∃ v,e = .returned v) ∧ Wd w' g t (bmix l0 a b c d x y) ∧ w0.grownBy w' (some g):=by
 have HS0:Hid (Wd w0 g t l0):=hS
 have HG0:Hid (w0.grownBy w0 (some g)):=grownBy_refl w0 _
 obtain ⟨n,hn0⟩:∃ n,l0.length = n:=⟨_,rfl⟩
 rw [hn0] at ha hb hc hd
 clear hS
 go_enter Tryz.func165,Tryz.ntmps165
 go_wp2
 obtain ⟨cp0,fp0⟩:=HS0.out.drew.word a (by rw [hn0];exact ha)
 obtain ⟨cq0,_⟩:=HS0.out.drew.word b (by rw [hn0];exact hb)
 obtain ⟨u0,hu0⟩:∃ u,at32 l0 a = u:=⟨_,rfl⟩
 obtain ⟨t0,ht0⟩:∃ t,at32 l0 b = t:=⟨_,rfl⟩
 rw [hu0] at cp0
 rw [ht0] at cq0
 obtain ⟨s0,hs0⟩:∃ s,u0 + t0 + x = s:=⟨_,rfl⟩
 have HU0:Hid (IntKind.u32.wrap ((u0.toNat:Int) + IntKind.u32.wrap ((t0.toNat:Int) + (x.toNat:Int))) = (s0.toNat:Int)):=by show _ = _;rw [IntKind.wrap_u32,IntKind.wrap_u32,add3_val,hs0]
 obtain ⟨sg0,gr0⟩:=wd_step HS0.out a s0
 obtain ⟨W0,hW0⟩:∃ W,w0.drew = W:=⟨_,rfl⟩
 rw [hW0] at cp0 fp0 cq0 sg0 gr0
 obtain ⟨w1,hw1⟩:∃ w',W0.setCell ⟨g,a,none⟩ (uv s0) = w':=⟨_,rfl⟩
 rw [hw1] at sg0 gr0
 have Hw1:Hid (W0.setCell ⟨g,a,none⟩ (.int .u32 (s0.toNat:Int)) = w1):=hw1
 obtain ⟨l1,hl1⟩:∃ l',badd3 l0 a b x = l':=⟨_,rfl⟩
 have HE1:Hid (badd3 l0 a b x = l1):=hl1
 have HS1:Hid (Wd w1 g t l1):=by
  rw [← hl1]
  unfold badd3
  rw [hu0,ht0,hs0]
  exact sg0
 have hn1:l1.length = n:=by rw [← hl1];unfold badd3;rw [List.length_set];exact hn0
 have HG1:Hid (w0.grownBy w1 (some g)):=HG0.out.trans gr0
 have HW0:Hid (w0.drew = W0):=hW0
 clear sg0 gr0 hW0 hw1 hl1 hs0 hu0 ht0 HS0 HG0 hn0
 refine wp_region_sched' (G:=Stays) (by kernel_rfl) Stays.refl Stays.trans (by kernel_rfl) [(0,true),(1,true),(2,true),(3,true),(4,true),(5,true),(6,true),(7,true),(8,true),(9,true),(10,false)] rfl (by kernel_rfl) ?_
 intro KK0 hKK0
 rw [HW0.out]
 iterate 10 (refine sched_take rfl (by rfl) (v:=?_) ?_ ?_;rotate_left;(rintro w' rfl;go_simp;with_reducible rfl);go_simp)
 refine sched_store rfl (by rfl) (w':=w1) (by rw [← Hw1.out];go_simp;rw [HU0.out]) (by kernel_rfl) ?_
 go_simp
 refine sched_done hKK0 ?_
 clear hKK0 HW0 Hw1 HU0  cp0 fp0 cq0
 go_wp2
 obtain ⟨cp1,fp1⟩:=HS1.out.drew.word d (by rw [hn1];exact hd)
 obtain ⟨cq1,_⟩:=HS1.out.drew.word a (by rw [hn1];exact ha)
 obtain ⟨u1,hu1⟩:∃ u,at32 l1 d = u:=⟨_,rfl⟩
 obtain ⟨t1,ht1⟩:∃ t,at32 l1 a = t:=⟨_,rfl⟩
 rw [hu1] at cp1
 rw [ht1] at cq1
 obtain ⟨N1,hN1⟩:∃ N,u1 ^^^ t1 = N:=⟨_,rfl⟩
 have HU1:Hid (bits .xor .u32 (u1.toNat:Int) (t1.toNat:Int) = (N1.toNat:Int)):=by show _ = _;rw [xor_uv,hN1]
 obtain ⟨s1,hs1⟩:∃ s,rotr N1 16 = s:=⟨_,rfl⟩
 have HV1:Hid (rotr N1 16 = s1):=hs1
 obtain ⟨sg1,gr1⟩:=wd_step HS1.out d s1
 obtain ⟨W1,hW1⟩:∃ W,w1.drew = W:=⟨_,rfl⟩
 rw [hW1] at cp1 fp1 cq1 sg1 gr1
 obtain ⟨w2,hw2⟩:∃ w',W1.setCell ⟨g,d,none⟩ (uv s1) = w':=⟨_,rfl⟩
 rw [hw2] at sg1 gr1
 have Hw2:Hid (W1.setCell ⟨g,d,none⟩ (.int .u32 (s1.toNat:Int)) = w2):=hw2
 obtain ⟨l2,hl2⟩:∃ l',brot l1 d a 16 = l':=⟨_,rfl⟩
 have HE2:Hid (brot l1 d a 16 = l2):=hl2
 have HS2:Hid (Wd w2 g t l2):=by
  rw [← hl2]
  unfold brot
  rw [hu1,ht1,hN1,hs1]
  exact sg1
 have hn2:l2.length = n:=by rw [← hl2];unfold brot;rw [List.length_set];exact hn1
 have HG2:Hid (w0.grownBy w2 (some g)):=HG1.out.trans gr1
 have HW1:Hid (w1.drew = W1):=hW1
 clear sg1 gr1 hW1 hw2 hl2 hs1 hu1 ht1 hN1 HS1 HG1 hn1
 refine wp_region_sched' (G:=Stays) (by kernel_rfl) Stays.refl Stays.trans (by kernel_rfl) [(0,true),(1,true),(2,true),(3,true),(4,true),(5,true),(6,true),(7,true),(8,false),(9,true),(10,false)] rfl (by kernel_rfl) ?_
 intro KK1 hKK1
 rw [HW1.out]
 iterate 8 (refine sched_take rfl (by rfl) (v:=?_) ?_ ?_;rotate_left;(rintro w' rfl;go_simp;with_reducible rfl);go_simp)
 refine sched_call (f:=171) (args:=#[.int .u32 (N1.toNat:Int),.int .i64 16]) rfl (by rfl) (by go_simp;rw [HU1.out]) ?_
 refine (bright_any N1 16 _ (by omega) (by omega)).mono ?_
 rintro e w' ⟨rfl,rfl⟩
 refine ⟨_,rfl,rfl,?_⟩
 rw [HV1.out]
 go_simp
 iterate 1 (refine sched_take rfl (by rfl) (v:=?_) ?_ ?_;rotate_left;(rintro w' rfl;go_simp;with_reducible rfl);go_simp)
 refine sched_store rfl (by rfl) (w':=w2) (by rw [← Hw2.out];go_simp) (by kernel_rfl) ?_
 go_simp
 refine sched_done hKK1 ?_
 clear hKK1 HW1 Hw2 HU1 HV1 cp1 fp1 cq1
 go_wp2
 obtain ⟨cp2,fp2⟩:=HS2.out.drew.word c (by rw [hn2];exact hc)
 obtain ⟨cq2,_⟩:=HS2.out.drew.word d (by rw [hn2];exact hd)
 obtain ⟨u2,hu2⟩:∃ u,at32 l2 c = u:=⟨_,rfl⟩
 obtain ⟨t2,ht2⟩:∃ t,at32 l2 d = t:=⟨_,rfl⟩
 rw [hu2] at cp2
 rw [ht2] at cq2
 obtain ⟨s2,hs2⟩:∃ s,u2 + t2 = s:=⟨_,rfl⟩
 have HU2:Hid (IntKind.u32.wrap ((u2.toNat:Int) + (t2.toNat:Int)) = (s2.toNat:Int)):=by show _ = _;rw [IntKind.wrap_u32,add2_val,hs2]
 obtain ⟨sg2,gr2⟩:=wd_step HS2.out c s2
 obtain ⟨W2,hW2⟩:∃ W,w2.drew = W:=⟨_,rfl⟩
 rw [hW2] at cp2 fp2 cq2 sg2 gr2
 obtain ⟨w3,hw3⟩:∃ w',W2.setCell ⟨g,c,none⟩ (uv s2) = w':=⟨_,rfl⟩
 rw [hw3] at sg2 gr2
 have Hw3:Hid (W2.setCell ⟨g,c,none⟩ (.int .u32 (s2.toNat:Int)) = w3):=hw3
 obtain ⟨l3,hl3⟩:∃ l',badd2 l2 c d = l':=⟨_,rfl⟩
 have HE3:Hid (badd2 l2 c d = l3):=hl3
 have HS3:Hid (Wd w3 g t l3):=by
  rw [← hl3]
  unfold badd2
  rw [hu2,ht2,hs2]
  exact sg2
 have hn3:l3.length = n:=by rw [← hl3];unfold badd2;rw [List.length_set];exact hn2
 have HG3:Hid (w0.grownBy w3 (some g)):=HG2.out.trans gr2
 have HW2:Hid (w2.drew = W2):=hW2
 clear sg2 gr2 hW2 hw3 hl3 hs2 hu2 ht2 HS2 HG2 hn2
 refine wp_region_sched' (G:=Stays) (by kernel_rfl) Stays.refl Stays.trans (by kernel_rfl) [(0,true),(1,true),(2,true),(3,true),(4,true),(5,true),(6,true),(7,true),(8,false)] rfl (by kernel_rfl) ?_
 intro KK2 hKK2
 rw [HW2.out]
 iterate 8 (refine sched_take rfl (by rfl) (v:=?_) ?_ ?_;rotate_left;(rintro w' rfl;go_simp;with_reducible rfl);go_simp)
 refine sched_store rfl (by rfl) (w':=w3) (by rw [← Hw3.out];go_simp;rw [HU2.out]) (by kernel_rfl) ?_
 go_simp
 refine sched_done hKK2 ?_
 clear hKK2 HW2 Hw3 HU2  cp2 fp2 cq2
 go_wp2
 obtain ⟨cp3,fp3⟩:=HS3.out.drew.word b (by rw [hn3];exact hb)
 obtain ⟨cq3,_⟩:=HS3.out.drew.word c (by rw [hn3];exact hc)
 obtain ⟨u3,hu3⟩:∃ u,at32 l3 b = u:=⟨_,rfl⟩
 obtain ⟨t3,ht3⟩:∃ t,at32 l3 c = t:=⟨_,rfl⟩
 rw [hu3] at cp3
 rw [ht3] at cq3
 obtain ⟨N3,hN3⟩:∃ N,u3 ^^^ t3 = N:=⟨_,rfl⟩
 have HU3:Hid (bits .xor .u32 (u3.toNat:Int) (t3.toNat:Int) = (N3.toNat:Int)):=by show _ = _;rw [xor_uv,hN3]
 obtain ⟨s3,hs3⟩:∃ s,rotr N3 12 = s:=⟨_,rfl⟩
 have HV3:Hid (rotr N3 12 = s3):=hs3
 obtain ⟨sg3,gr3⟩:=wd_step HS3.out b s3
 obtain ⟨W3,hW3⟩:∃ W,w3.drew = W:=⟨_,rfl⟩
 rw [hW3] at cp3 fp3 cq3 sg3 gr3
 obtain ⟨w4,hw4⟩:∃ w',W3.setCell ⟨g,b,none⟩ (uv s3) = w':=⟨_,rfl⟩
 rw [hw4] at sg3 gr3
 have Hw4:Hid (W3.setCell ⟨g,b,none⟩ (.int .u32 (s3.toNat:Int)) = w4):=hw4
 obtain ⟨l4,hl4⟩:∃ l',brot l3 b c 12 = l':=⟨_,rfl⟩
 have HE4:Hid (brot l3 b c 12 = l4):=hl4
 have HS4:Hid (Wd w4 g t l4):=by
  rw [← hl4]
  unfold brot
  rw [hu3,ht3,hN3,hs3]
  exact sg3
 have hn4:l4.length = n:=by rw [← hl4];unfold brot;rw [List.length_set];exact hn3
 have HG4:Hid (w0.grownBy w4 (some g)):=HG3.out.trans gr3
 have HW3:Hid (w3.drew = W3):=hW3
 clear sg3 gr3 hW3 hw4 hl4 hs3 hu3 ht3 hN3 HS3 HG3 hn3
 refine wp_region_sched' (G:=Stays) (by kernel_rfl) Stays.refl Stays.trans (by kernel_rfl) [(0,true),(1,true),(2,true),(3,true),(4,true),(5,true),(6,true),(7,true),(8,false),(9,true),(10,false)] rfl (by kernel_rfl) ?_
 intro KK3 hKK3
 rw [HW3.out]
 iterate 8 (refine sched_take rfl (by rfl) (v:=?_) ?_ ?_;rotate_left;(rintro w' rfl;go_simp;with_reducible rfl);go_simp)
 refine sched_call (f:=171) (args:=#[.int .u32 (N3.toNat:Int),.int .i64 12]) rfl (by rfl) (by go_simp;rw [HU3.out]) ?_
 refine (bright_any N3 12 _ (by omega) (by omega)).mono ?_
 rintro e w' ⟨rfl,rfl⟩
 refine ⟨_,rfl,rfl,?_⟩
 rw [HV3.out]
 go_simp
 iterate 1 (refine sched_take rfl (by rfl) (v:=?_) ?_ ?_;rotate_left;(rintro w' rfl;go_simp;with_reducible rfl);go_simp)
 refine sched_store rfl (by rfl) (w':=w4) (by rw [← Hw4.out];go_simp) (by kernel_rfl) ?_
 go_simp
 refine sched_done hKK3 ?_
 clear hKK3 HW3 Hw4 HU3 HV3 cp3 fp3 cq3
 go_wp2
 obtain ⟨cp4,fp4⟩:=HS4.out.drew.word a (by rw [hn4];exact ha)
 obtain ⟨cq4,_⟩:=HS4.out.drew.word b (by rw [hn4];exact hb)
 obtain ⟨u4,hu4⟩:∃ u,at32 l4 a = u:=⟨_,rfl⟩
 obtain ⟨t4,ht4⟩:∃ t,at32 l4 b = t:=⟨_,rfl⟩
 rw [hu4] at cp4
 rw [ht4] at cq4
 obtain ⟨s4,hs4⟩:∃ s,u4 + t4 + y = s:=⟨_,rfl⟩
 have HU4:Hid (IntKind.u32.wrap ((u4.toNat:Int) + IntKind.u32.wrap ((t4.toNat:Int) + (y.toNat:Int))) = (s4.toNat:Int)):=by show _ = _;rw [IntKind.wrap_u32,IntKind.wrap_u32,add3_val,hs4]
 obtain ⟨sg4,gr4⟩:=wd_step HS4.out a s4
 obtain ⟨W4,hW4⟩:∃ W,w4.drew = W:=⟨_,rfl⟩
 rw [hW4] at cp4 fp4 cq4 sg4 gr4
 obtain ⟨w5,hw5⟩:∃ w',W4.setCell ⟨g,a,none⟩ (uv s4) = w':=⟨_,rfl⟩
 rw [hw5] at sg4 gr4
 have Hw5:Hid (W4.setCell ⟨g,a,none⟩ (.int .u32 (s4.toNat:Int)) = w5):=hw5
 obtain ⟨l5,hl5⟩:∃ l',badd3 l4 a b y = l':=⟨_,rfl⟩
 have HE5:Hid (badd3 l4 a b y = l5):=hl5
 have HS5:Hid (Wd w5 g t l5):=by
  rw [← hl5]
  unfold badd3
  rw [hu4,ht4,hs4]
  exact sg4
 have hn5:l5.length = n:=by rw [← hl5];unfold badd3;rw [List.length_set];exact hn4
 have HG5:Hid (w0.grownBy w5 (some g)):=HG4.out.trans gr4
 have HW4:Hid (w4.drew = W4):=hW4
 clear sg4 gr4 hW4 hw5 hl5 hs4 hu4 ht4 HS4 HG4 hn4
 refine wp_region_sched' (G:=Stays) (by kernel_rfl) Stays.refl Stays.trans (by kernel_rfl) [(0,true),(1,true),(2,true),(3,true),(4,true),(5,true),(6,true),(7,true),(8,true),(9,true),(10,false)] rfl (by kernel_rfl) ?_
 intro KK4 hKK4
 rw [HW4.out]
 iterate 10 (refine sched_take rfl (by rfl) (v:=?_) ?_ ?_;rotate_left;(rintro w' rfl;go_simp;with_reducible rfl);go_simp)
 refine sched_store rfl (by rfl) (w':=w5) (by rw [← Hw5.out];go_simp;rw [HU4.out]) (by kernel_rfl) ?_
 go_simp
 refine sched_done hKK4 ?_
 clear hKK4 HW4 Hw5 HU4  cp4 fp4 cq4
 go_wp2
 obtain ⟨cp5,fp5⟩:=HS5.out.drew.word d (by rw [hn5];exact hd)
 obtain ⟨cq5,_⟩:=HS5.out.drew.word a (by rw [hn5];exact ha)
 obtain ⟨u5,hu5⟩:∃ u,at32 l5 d = u:=⟨_,rfl⟩
 obtain ⟨t5,ht5⟩:∃ t,at32 l5 a = t:=⟨_,rfl⟩
 rw [hu5] at cp5
 rw [ht5] at cq5
 obtain ⟨N5,hN5⟩:∃ N,u5 ^^^ t5 = N:=⟨_,rfl⟩
 have HU5:Hid (bits .xor .u32 (u5.toNat:Int) (t5.toNat:Int) = (N5.toNat:Int)):=by show _ = _;rw [xor_uv,hN5]
 obtain ⟨s5,hs5⟩:∃ s,rotr N5 8 = s:=⟨_,rfl⟩
 have HV5:Hid (rotr N5 8 = s5):=hs5
 obtain ⟨sg5,gr5⟩:=wd_step HS5.out d s5
 obtain ⟨W5,hW5⟩:∃ W,w5.drew = W:=⟨_,rfl⟩
 rw [hW5] at cp5 fp5 cq5 sg5 gr5
 obtain ⟨w6,hw6⟩:∃ w',W5.setCell ⟨g,d,none⟩ (uv s5) = w':=⟨_,rfl⟩
 rw [hw6] at sg5 gr5
 have Hw6:Hid (W5.setCell ⟨g,d,none⟩ (.int .u32 (s5.toNat:Int)) = w6):=hw6
 obtain ⟨l6,hl6⟩:∃ l',brot l5 d a 8 = l':=⟨_,rfl⟩
 have HE6:Hid (brot l5 d a 8 = l6):=hl6
 have HS6:Hid (Wd w6 g t l6):=by
  rw [← hl6]
  unfold brot
  rw [hu5,ht5,hN5,hs5]
  exact sg5
 have hn6:l6.length = n:=by rw [← hl6];unfold brot;rw [List.length_set];exact hn5
 have HG6:Hid (w0.grownBy w6 (some g)):=HG5.out.trans gr5
 have HW5:Hid (w5.drew = W5):=hW5
 clear sg5 gr5 hW5 hw6 hl6 hs5 hu5 ht5 hN5 HS5 HG5 hn5
 refine wp_region_sched' (G:=Stays) (by kernel_rfl) Stays.refl Stays.trans (by kernel_rfl) [(0,true),(1,true),(2,true),(3,true),(4,true),(5,true),(6,true),(7,true),(8,false),(9,true),(10,false)] rfl (by kernel_rfl) ?_
 intro KK5 hKK5
 rw [HW5.out]
 iterate 8 (refine sched_take rfl (by rfl) (v:=?_) ?_ ?_;rotate_left;(rintro w' rfl;go_simp;with_reducible rfl);go_simp)
 refine sched_call (f:=171) (args:=#[.int .u32 (N5.toNat:Int),.int .i64 8]) rfl (by rfl) (by go_simp;rw [HU5.out]) ?_
 refine (bright_any N5 8 _ (by omega) (by omega)).mono ?_
 rintro e w' ⟨rfl,rfl⟩
 refine ⟨_,rfl,rfl,?_⟩
 rw [HV5.out]
 go_simp
 iterate 1 (refine sched_take rfl (by rfl) (v:=?_) ?_ ?_;rotate_left;(rintro w' rfl;go_simp;with_reducible rfl);go_simp)
 refine sched_store rfl (by rfl) (w':=w6) (by rw [← Hw6.out];go_simp) (by kernel_rfl) ?_
 go_simp
 refine sched_done hKK5 ?_
 clear hKK5 HW5 Hw6 HU5 HV5 cp5 fp5 cq5
 go_wp2
 obtain ⟨cp6,fp6⟩:=HS6.out.drew.word c (by rw [hn6];exact hc)
 obtain ⟨cq6,_⟩:=HS6.out.drew.word d (by rw [hn6];exact hd)
 obtain ⟨u6,hu6⟩:∃ u,at32 l6 c = u:=⟨_,rfl⟩
 obtain ⟨t6,ht6⟩:∃ t,at32 l6 d = t:=⟨_,rfl⟩
 rw [hu6] at cp6
 rw [ht6] at cq6
 obtain ⟨s6,hs6⟩:∃ s,u6 + t6 = s:=⟨_,rfl⟩
 have HU6:Hid (IntKind.u32.wrap ((u6.toNat:Int) + (t6.toNat:Int)) = (s6.toNat:Int)):=by show _ = _;rw [IntKind.wrap_u32,add2_val,hs6]
 obtain ⟨sg6,gr6⟩:=wd_step HS6.out c s6
 obtain ⟨W6,hW6⟩:∃ W,w6.drew = W:=⟨_,rfl⟩
 rw [hW6] at cp6 fp6 cq6 sg6 gr6
 obtain ⟨w7,hw7⟩:∃ w',W6.setCell ⟨g,c,none⟩ (uv s6) = w':=⟨_,rfl⟩
 rw [hw7] at sg6 gr6
 have Hw7:Hid (W6.setCell ⟨g,c,none⟩ (.int .u32 (s6.toNat:Int)) = w7):=hw7
 obtain ⟨l7,hl7⟩:∃ l',badd2 l6 c d = l':=⟨_,rfl⟩
 have HE7:Hid (badd2 l6 c d = l7):=hl7
 have HS7:Hid (Wd w7 g t l7):=by
  rw [← hl7]
  unfold badd2
  rw [hu6,ht6,hs6]
  exact sg6
 have hn7:l7.length = n:=by rw [← hl7];unfold badd2;rw [List.length_set];exact hn6
 have HG7:Hid (w0.grownBy w7 (some g)):=HG6.out.trans gr6
 have HW6:Hid (w6.drew = W6):=hW6
 clear sg6 gr6 hW6 hw7 hl7 hs6 hu6 ht6 HS6 HG6 hn6
 refine wp_region_sched' (G:=Stays) (by kernel_rfl) Stays.refl Stays.trans (by kernel_rfl) [(0,true),(1,true),(2,true),(3,true),(4,true),(5,true),(6,true),(7,true),(8,false)] rfl (by kernel_rfl) ?_
 intro KK6 hKK6
 rw [HW6.out]
 iterate 8 (refine sched_take rfl (by rfl) (v:=?_) ?_ ?_;rotate_left;(rintro w' rfl;go_simp;with_reducible rfl);go_simp)
 refine sched_store rfl (by rfl) (w':=w7) (by rw [← Hw7.out];go_simp;rw [HU6.out]) (by kernel_rfl) ?_
 go_simp
 refine sched_done hKK6 ?_
 clear hKK6 HW6 Hw7 HU6  cp6 fp6 cq6
 go_wp2
 obtain ⟨cp7,fp7⟩:=HS7.out.drew.word b (by rw [hn7];exact hb)
 obtain ⟨cq7,_⟩:=HS7.out.drew.word c (by rw [hn7];exact hc)
 obtain ⟨u7,hu7⟩:∃ u,at32 l7 b = u:=⟨_,rfl⟩
 obtain ⟨t7,ht7⟩:∃ t,at32 l7 c = t:=⟨_,rfl⟩
 rw [hu7] at cp7
 rw [ht7] at cq7
 obtain ⟨N7,hN7⟩:∃ N,u7 ^^^ t7 = N:=⟨_,rfl⟩
 have HU7:Hid (bits .xor .u32 (u7.toNat:Int) (t7.toNat:Int) = (N7.toNat:Int)):=by show _ = _;rw [xor_uv,hN7]
 obtain ⟨s7,hs7⟩:∃ s,rotr N7 7 = s:=⟨_,rfl⟩
 have HV7:Hid (rotr N7 7 = s7):=hs7
 obtain ⟨sg7,gr7⟩:=wd_step HS7.out b s7
 obtain ⟨W7,hW7⟩:∃ W,w7.drew = W:=⟨_,rfl⟩
 rw [hW7] at cp7 fp7 cq7 sg7 gr7
 obtain ⟨w8,hw8⟩:∃ w',W7.setCell ⟨g,b,none⟩ (uv s7) = w':=⟨_,rfl⟩
 rw [hw8] at sg7 gr7
 have Hw8:Hid (W7.setCell ⟨g,b,none⟩ (.int .u32 (s7.toNat:Int)) = w8):=hw8
 obtain ⟨l8,hl8⟩:∃ l',brot l7 b c 7 = l':=⟨_,rfl⟩
 have HE8:Hid (brot l7 b c 7 = l8):=hl8
 have HS8:Hid (Wd w8 g t l8):=by
  rw [← hl8]
  unfold brot
  rw [hu7,ht7,hN7,hs7]
  exact sg7
 have hn8:l8.length = n:=by rw [← hl8];unfold brot;rw [List.length_set];exact hn7
 have HG8:Hid (w0.grownBy w8 (some g)):=HG7.out.trans gr7
 have HW7:Hid (w7.drew = W7):=hW7
 clear sg7 gr7 hW7 hw8 hl8 hs7 hu7 ht7 hN7 HS7 HG7 hn7
 refine wp_region_sched' (G:=Stays) (by kernel_rfl) Stays.refl Stays.trans (by kernel_rfl) [(0,true),(1,true),(2,true),(3,true),(4,true),(5,true),(6,true),(7,true),(8,false),(9,true),(10,false)] rfl (by kernel_rfl) ?_
 intro KK7 hKK7
 rw [HW7.out]
 iterate 8 (refine sched_take rfl (by rfl) (v:=?_) ?_ ?_;rotate_left;(rintro w' rfl;go_simp;with_reducible rfl);go_simp)
 refine sched_call (f:=171) (args:=#[.int .u32 (N7.toNat:Int),.int .i64 7]) rfl (by rfl) (by go_simp;rw [HU7.out]) ?_
 refine (bright_any N7 7 _ (by omega) (by omega)).mono ?_
 rintro e w' ⟨rfl,rfl⟩
 refine ⟨_,rfl,rfl,?_⟩
 rw [HV7.out]
 go_simp
 iterate 1 (refine sched_take rfl (by rfl) (v:=?_) ?_ ?_;rotate_left;(rintro w' rfl;go_simp;with_reducible rfl);go_simp)
 refine sched_store rfl (by rfl) (w':=w8) (by rw [← Hw8.out];go_simp) (by kernel_rfl) ?_
 go_simp
 refine sched_done hKK7 ?_
 clear hKK7 HW7 Hw8 HU7 HV7 cp7 fp7 cq7
 go_wp2
 go_end0
 refine ⟨⟨_,rfl⟩,?_,HG8.out⟩
 have e:bmix l0 a b c d x y = l8:=by
  unfold bmix
  rw [HE1.out,HE2.out,HE3.out,HE4.out,HE5.out,HE6.out,HE7.out,HE8.out]
 rw [e]
 exact HS8.out
def rowV (i:Nat):List Value:=(List.range 16).map fun k => Value.int .u8 ((sig i k:Nat):Int)
theorem rowV_length (i:Nat):(rowV i).length = 16:=by simp [rowV]
theorem rowV_get (i k:Nat) (hk:k < 16):(rowV i).toArray[k]? = some (.int .u8 ((sig i k:Nat):Int)):=by simp [rowV,hk]
structure TurB (w:World) (g i:Nat) (m l:List (BitVec 32)) (wr:World):Prop where
 now:Wd wr g 189 l
 m:Wd wr w.heap.size 189 m
 r:wr.heap[w.heap.size + 1]? = some (.cells (rowV i).toArray 119 (0,0))
 lt:g < w.heap.size
 grown:w.grownBy wr (some g)
theorem TurB.next {w wr w':World} {g i:Nat} {m l l':List (BitVec 32)} (t:TurB w g i m l wr) (hs:Wd w' g 189 l') (hg:wr.grownBy w' (some g)):TurB w g i m l' w':=by
 have hlt:=t.lt
 refine ⟨hs,t.m.but (by omega) hg,?_,t.lt,t.grown.trans hg⟩
 rw [hg.block _ (Array.getElem?_eq_some_iff.1 t.r).1 (fun e => by cases e;omega)]
 exact t.r
theorem TurB.drew {w wr:World} {g i:Nat} {m l:List (BitVec 32)} (t:TurB w g i m l wr):TurB w g i m l wr.drew:=t.next t.now (grownBy_drew wr _)
theorem TurB.new (w:World) (g i:Nat) (m l:List (BitVec 32)) (h:Wd w g 189 l) :
  TurB w g i m l ((w.alloc (.cells (m.map uv).toArray 189)).alloc (.cells (rowV i).toArray 119)):=by
 have hlt:=h.lt
 refine ⟨?_,?_,?_,hlt,?_⟩
 ·unfold Wd
  rw [Below.heap_alloc _ _ _ (by simp;omega),Below.heap_alloc _ _ _ hlt];exact h
 ·unfold Wd
  rw [Below.heap_alloc _ _ _ (by simp)];exact heap_alloc_new w _
 ·have:=heap_alloc_new (w.alloc (.cells (m.map uv).toArray 189)) (.cells (rowV i).toArray 119)
  rwa [World.size_alloc] at this
 ·have h2:Below w.heap.size w ((w.alloc (.cells (m.map uv).toArray 189)).alloc (.cells (rowV i).toArray 119)):=((Below.refl _ _).alloc (Nat.le_refl _) _).alloc (by simp) _
  exact But.below g h2
theorem TurB.mw {w wr w':World} {g i:Nat} {m l:List (BitVec 32)} (t:TurB w g i m l wr) (hb:But g wr w') (k:Nat) (hk:k < m.length):w'.cell? ⟨w.heap.size,k,none⟩ = some (.int .u32 ((at32 m k).toNat:Int)):=by
 have hlt:=t.lt
 exact ((t.m.but (by omega) hb).word k hk).1
theorem TurB.rw_ {w wr w':World} {g i:Nat} {m l:List (BitVec 32)} (t:TurB w g i m l wr) (hb:But g wr w') (k:Nat) (hk:k < 16):w'.cell? ⟨w.heap.size + 1,k,none⟩ = some (.int .u8 ((sig i k:Nat):Int)):=by
 have hlt:=t.lt
 have hr:w'.heap[w.heap.size + 1]? = some (.cells (rowV i).toArray 119 (0,0)):=by
  rw [World.grownBy.block hb _ (Array.getElem?_eq_some_iff.1 t.r).1 (fun e => by cases e;omega)]
  exact t.r
 rw [cell_of_row w' _ k _ _ (0,0) hr]
 exact rowV_get i k hk
theorem slantB (q c d:Nat) (hq:q < 4) (hc:c < 4) (hd:d ≤ 12):IntKind.i64.wrap ((d:Int) + (IntKind.i64.wrap ((q:Int) + (c:Int))).tmod 4) = ((d + (q + c) % 4:Nat):Int):=by
 have h1:IntKind.i64.wrap ((q:Int) + (c:Int)) = ((q + c:Nat):Int):=by rw [IntKind.wrap_i64];omega
 have h2:((q + c:Nat):Int).tmod 4 = (((q + c) % 4:Nat):Int):=by rw [Int.tmod_eq_emod_of_nonneg (by omega)];omega
 have h3:(q + c) % 4 < 4:=by omega
 rw [h1,h2]
 generalize (q + c) % 4 = m at h3 ⊢
 rw [IntKind.wrap_i64]
 omega
set_option maxHeartbeats 4000000 in
set_option maxRecDepth 100000 in
theorem bturn_any (g i:Nat) (m l:List (BitVec 32)) (w:World) (hl:l.length = 16) (hm:m.length = 16) (hi:i < 10) (hS:Wd w g 189 l) :
  Calls Tryz.prog 151 #[.pointer (some ⟨g,0,none⟩),.agg (m.map uv).toArray,.agg (rowV i).toArray] w fun e w' => (∃ v,e = .returned v) ∧ Wd w' g 189 (bslants i m 4 (bcols i m 4 l)) ∧ w.grownBy w' (some g):=by
 have HT0:Hid (TurB w g i m l ((w.alloc (.cells (m.map uv).toArray 189)).alloc (.cells (rowV i).toArray 119))):=TurB.new w g i m l hS
 clear hS
 have hcl:∀ k,(bcols i m k l).length = 16:=fun k => by rw [bcols_length,hl]
 have hsl:∀ k,(bslants i m k (bcols i m 4 l)).length = 16:=fun k => by rw [bslants_length,hcl]
 go_enter Tryz.func151,Tryz.ntmps151
 go_wp2
 refine from_world (P:=Code.wp Tryz.prog _ _ _) (R:=fun W => Hid (TurB w g i m l W)) _ HT0 ?_
 intro W0 HT1
 clear HT0
 obtain ⟨gm,hgm⟩:∃ gm,w.heap.size = gm:=⟨_,rfl⟩
 obtain ⟨gr,hgr⟩:∃ gr,w.heap.size + 1 = gr:=⟨_,rfl⟩
 have HMW:Hid (∀ (l:List (BitVec 32)) (wr w':World),TurB w g i m l wr → But g wr w' → ∀ k,k < 16 → w'.cell? ⟨gm,k,none⟩ = some (.int .u32 ((at32 m k).toNat:Int))):=fun l wr w' t hb k hk => by rw [← hgm];exact t.mw hb k (by omega)
 have HRW:Hid (∀ (l:List (BitVec 32)) (wr w':World),TurB w g i m l wr → But g wr w' → ∀ k,k < 16 → w'.cell? ⟨gr,k,none⟩ = some (.int .u8 ((sig i k:Nat):Int))):=fun l wr w' t hb k hk => by rw [← hgr];exact t.rw_ hb k hk
 rw [hgr]
 rw [hgm]
 clear hgr hgm
 go_loopw [8] (fun i' wr => ∃ j:Nat,j ≤ 4 ∧ i' = .int .i64 j ∧ Hid (TurB w g i m (bcols i m j l) wr)) (fun i _ => 4 - (intOf i).toNat)
 case atStart => exact ⟨0,by omega,rfl,HT1⟩
 case round =>
  clear HT1
  obtain ⟨j,hj,rfl,hD⟩:=hrel
  by_cases hjl:j < 4
  ·obtain ⟨p1,hp1⟩:∃ p,4 + j = p:=⟨_,rfl⟩
   obtain ⟨p2,hp2⟩:∃ p,8 + j = p:=⟨_,rfl⟩
   obtain ⟨p3,hp3⟩:∃ p,12 + j = p:=⟨_,rfl⟩
   obtain ⟨q1,hq1⟩:∃ p,2 * j = p:=⟨_,rfl⟩
   obtain ⟨q2,hq2⟩:∃ p,q1 + 1 = p:=⟨_,rfl⟩
   have e1:IntKind.i64.wrap ((4:Int) + (j:Int)) = (p1:Int):=by rw [IntKind.wrap_i64];omega
   have e2:IntKind.i64.wrap ((8:Int) + (j:Int)) = (p2:Int):=by rw [IntKind.wrap_i64];omega
   have e3:IntKind.i64.wrap ((12:Int) + (j:Int)) = (p3:Int):=by rw [IntKind.wrap_i64];omega
   have e4:IntKind.i64.wrap ((2:Int) * (j:Int)) = (q1:Int):=by rw [IntKind.wrap_i64];omega
   have e5:IntKind.i64.wrap ((q1:Int) + 1) = (q2:Int):=by rw [IntKind.wrap_i64];omega
   have hlj:(j:Int) < 4:=by omega
   have hj16:(j:Int) < 16:=by omega
   have h116:(p1:Int) < 16:=by omega
   have h216:(p2:Int) < 16:=by omega
   have h316:(p3:Int) < 16:=by omega
   have k116:(q1:Int) < 16:=by omega
   have k216:(q2:Int) < 16:=by omega
   obtain ⟨s1,hs1⟩:∃ s,sig i q1 = s:=⟨_,rfl⟩
   obtain ⟨s2,hs2⟩:∃ s,sig i q2 = s:=⟨_,rfl⟩
   have hs1l:s1 < 16:=by rw [← hs1];exact sig_lt i q1 hi (by omega)
   have hs2l:s2 < 16:=by rw [← hs2];exact sig_lt i q2 hi (by omega)
   have is1:(s1:Int) < 16:=by omega
   have is2:(s2:Int) < 16:=by omega
   obtain ⟨x,hx⟩:∃ x,at32 m s1 = x:=⟨_,rfl⟩
   obtain ⟨y,hy⟩:∃ y,at32 m s2 = y:=⟨_,rfl⟩
   have HDd:Hid (TurB w g i m (bcols i m j l) wr.drew):=hD.out.drew
   have hcj:=hcl j
   clear hD
   go_wp2
   refine wp_region_sched' (G:=But g) (by kernel_rfl) (But.refl g) (But.trans g) (by kernel_rfl) [(0,true),(1,true),(2,true),(3,true),(4,true),(5,true),(6,true),(7,true),(8,true),(9,true),(10,true),(11,true),(12,true),(13,true),(14,true),(15,true),(16,true),(17,true),(18,true),(19,true),(20,true),(21,true),(22,true),(23,true),(24,true),(25,true),(26,true),(27,true),(28,true),(29,true),(30,true),(31,true),(32,false)] rfl (by kernel_rfl) ?_
   intro KK hKK
   generalize wr.drew = W at HDd
   have hr1:∀ w',But g W w' → w'.cell? ⟨gr,q1,none⟩ = some (.int .u8 ((s1:Nat):Int)):=fun w' hw' => by rw [← hs1];exact HRW.out _ _ _ HDd.out hw' q1 (by omega)
   have hr2:∀ w',But g W w' → w'.cell? ⟨gr,q2,none⟩ = some (.int .u8 ((s2:Nat):Int)):=fun w' hw' => by rw [← hs2];exact HRW.out _ _ _ HDd.out hw' q2 (by omega)
   have hm1:∀ w',But g W w' → w'.cell? ⟨gm,s1,none⟩ = some (.int .u32 (x.toNat:Int)):=fun w' hw' => by rw [← hx];exact HMW.out _ _ _ HDd.out hw' s1 (by omega)
   have hm2:∀ w',But g W w' → w'.cell? ⟨gm,s2,none⟩ = some (.int .u32 (y.toNat:Int)):=fun w' hw' => by rw [← hy];exact HMW.out _ _ _ HDd.out hw' s2 (by omega)
   iterate 32 (refine sched_take rfl (by rfl) (v:=?_) ?_ ?_;rotate_left;(intro w' hw';have o1:=hr1 w' hw';have o2:=hr2 w' hw';have o3:=hm1 w' hw';have o4:=hm2 w' hw';clear hw';go_simp;with_reducible rfl);go_simp)
   refine sched_call (f:=165) (args:=#[.pointer (some ⟨g,j,none⟩),.pointer (some ⟨g,p1,none⟩),.pointer (some ⟨g,p2,none⟩),.pointer (some ⟨g,p3,none⟩),.int .u32 (x.toNat:Int),.int .u32 (y.toNat:Int)]) rfl (by rfl) (by go_simp) ?_
   refine (bmix_any g _ _ j p1 p2 p3 x y _ HDd.out.now (by omega) (by omega) (by omega) (by omega)).mono ?_
   rintro e w8 ⟨⟨v,rfl⟩,hs8,hg8⟩
   refine ⟨_,rfl,hg8,?_⟩
   have HD8:Hid (TurB w g i m (bcols i m (j + 1) l) w8):=by
    rw [bcols,hp1,hp2,hp3,hq1,hq2,hs1,hs2,hx,hy]
    exact HDd.out.next hs8 hg8
   clear hs8 hg8 hr1 hr2 hm1 hm2
   go_simp
   refine sched_done hKK ?_
   go_wp2
   exact ⟨⟨j + 1,by omega,by go_num,HD8⟩,by simp [intOf];omega⟩
  ·have ej:j = 4:=by omega
   have hjr:¬ (j:Int) < 4:=by omega
   have HD4:Hid (TurB w g i m (bcols i m 4 l) wr):=by rw [← ej];exact hD.out
   clear hD
   go_wp2
   go_loopw [45] (fun i' wr => ∃ j:Nat,j ≤ 4 ∧ i' = .int .i64 j ∧ Hid (TurB w g i m (bslants i m j (bcols i m 4 l)) wr)) (fun i _ => 4 - (intOf i).toNat)
   case atStart => exact ⟨0,by omega,rfl,HD4⟩
   case round =>
    clear HD4
    obtain ⟨q,hq,rfl,hE⟩:=hrel
    by_cases hql:q < 4
    ·obtain ⟨p1,hp1⟩:∃ p,4 + (q + 1) % 4 = p:=⟨_,rfl⟩
     obtain ⟨p2,hp2⟩:∃ p,8 + (q + 2) % 4 = p:=⟨_,rfl⟩
     obtain ⟨p3,hp3⟩:∃ p,12 + (q + 3) % 4 = p:=⟨_,rfl⟩
     have e1:IntKind.i64.wrap ((4:Int) + (IntKind.i64.wrap ((q:Int) + 1)).tmod 4) = (p1:Int):=by
      rw [← hp1];exact slantB q 1 4 hql (by omega) (by omega)
     have e2:IntKind.i64.wrap ((8:Int) + (IntKind.i64.wrap ((q:Int) + 2)).tmod 4) = (p2:Int):=by
      rw [← hp2];exact slantB q 2 8 hql (by omega) (by omega)
     have e3:IntKind.i64.wrap ((12:Int) + (IntKind.i64.wrap ((q:Int) + 3)).tmod 4) = (p3:Int):=by
      rw [← hp3];exact slantB q 3 12 hql (by omega) (by omega)
     obtain ⟨q0,hq0⟩:∃ p,2 * q = p:=⟨_,rfl⟩
     obtain ⟨q1,hq1⟩:∃ p,8 + 2 * q = p:=⟨_,rfl⟩
     obtain ⟨q2,hq2⟩:∃ p,9 + 2 * q = p:=⟨_,rfl⟩
     have e4:IntKind.i64.wrap ((2:Int) * (q:Int)) = (q0:Int):=by rw [IntKind.wrap_i64];omega
     have e5:IntKind.i64.wrap ((8:Int) + (q0:Int)) = (q1:Int):=by rw [IntKind.wrap_i64];omega
     have e6:IntKind.i64.wrap ((q1:Int) + 1) = (q2:Int):=by rw [IntKind.wrap_i64];omega
     have hlq:(q:Int) < 4:=by omega
     have hq16:(q:Int) < 16:=by omega
     have h116:(p1:Int) < 16:=by omega
     have h216:(p2:Int) < 16:=by omega
     have h316:(p3:Int) < 16:=by omega
     have k116:(q1:Int) < 16:=by omega
     have k216:(q2:Int) < 16:=by omega
     obtain ⟨s1,hs1⟩:∃ s,sig i q1 = s:=⟨_,rfl⟩
     obtain ⟨s2,hs2⟩:∃ s,sig i q2 = s:=⟨_,rfl⟩
     have hs1l:s1 < 16:=by rw [← hs1];exact sig_lt i q1 hi (by omega)
     have hs2l:s2 < 16:=by rw [← hs2];exact sig_lt i q2 hi (by omega)
     have is1:(s1:Int) < 16:=by omega
     have is2:(s2:Int) < 16:=by omega
     obtain ⟨x,hx⟩:∃ x,at32 m s1 = x:=⟨_,rfl⟩
     obtain ⟨y,hy⟩:∃ y,at32 m s2 = y:=⟨_,rfl⟩
     have HEd:Hid (TurB w g i m (bslants i m q (bcols i m 4 l)) wr.drew):=hE.out.drew
     have hsq:=hsl q
     clear hE
     go_wp2
     refine wp_region_sched' (G:=But g) (by kernel_rfl) (But.refl g) (But.trans g) (by kernel_rfl) [(0,true),(1,true),(2,true),(3,true),(4,true),(5,true),(6,true),(7,true),(8,true),(9,true),(10,true),(11,true),(12,true),(13,true),(14,true),(15,true),(16,true),(17,true),(18,true),(19,true),(20,true),(21,true),(22,true),(23,true),(24,true),(25,true),(26,true),(27,true),(28,true),(29,true),(30,true),(31,true),(32,true),(33,true),(34,true),(35,true),(36,true),(37,true),(38,true),(39,true),(40,false)] rfl (by kernel_rfl) ?_
     intro KK hKK
     generalize wr.drew = W at HEd
     have hr1:∀ w',But g W w' → w'.cell? ⟨gr,q1,none⟩ = some (.int .u8 ((s1:Nat):Int)):=fun w' hw' => by rw [← hs1];exact HRW.out _ _ _ HEd.out hw' q1 (by omega)
     have hr2:∀ w',But g W w' → w'.cell? ⟨gr,q2,none⟩ = some (.int .u8 ((s2:Nat):Int)):=fun w' hw' => by rw [← hs2];exact HRW.out _ _ _ HEd.out hw' q2 (by omega)
     have hm1:∀ w',But g W w' → w'.cell? ⟨gm,s1,none⟩ = some (.int .u32 (x.toNat:Int)):=fun w' hw' => by rw [← hx];exact HMW.out _ _ _ HEd.out hw' s1 (by omega)
     have hm2:∀ w',But g W w' → w'.cell? ⟨gm,s2,none⟩ = some (.int .u32 (y.toNat:Int)):=fun w' hw' => by rw [← hy];exact HMW.out _ _ _ HEd.out hw' s2 (by omega)
     iterate 40 (refine sched_take rfl (by rfl) (v:=?_) ?_ ?_;rotate_left;(intro w' hw';have o1:=hr1 w' hw';have o2:=hr2 w' hw';have o3:=hm1 w' hw';have o4:=hm2 w' hw';clear hw';go_simp;with_reducible rfl);go_simp)
     refine sched_call (f:=165) (args:=#[.pointer (some ⟨g,q,none⟩),.pointer (some ⟨g,p1,none⟩),.pointer (some ⟨g,p2,none⟩),.pointer (some ⟨g,p3,none⟩),.int .u32 (x.toNat:Int),.int .u32 (y.toNat:Int)]) rfl (by rfl) (by go_simp) ?_
     refine (bmix_any g _ _ q p1 p2 p3 x y _ HEd.out.now (by omega) (by omega) (by omega) (by omega)).mono ?_
     rintro e w8 ⟨⟨v,rfl⟩,hs8,hg8⟩
     refine ⟨_,rfl,hg8,?_⟩
     have HE8:Hid (TurB w g i m (bslants i m (q + 1) (bcols i m 4 l)) w8):=by
      rw [bslants,hp1,hp2,hp3,hq1,hq2,hs1,hs2,hx,hy]
      exact HEd.out.next hs8 hg8
     clear hs8 hg8 hr1 hr2 hm1 hm2
     go_simp
     refine sched_done hKK ?_
     go_wp2
     exact ⟨⟨q + 1,by omega,by go_num,HE8⟩,by simp [intOf];omega⟩
    ·have eq:q = 4:=by omega
     have hqr:¬ (q:Int) < 4:=by omega
     have HE4:Hid (TurB w g i m (bslants i m 4 (bcols i m 4 l)) wr):=by have:=hE.out;rw [eq] at this;exact this
     clear hE
     go_wp2
     go_end0
     exact ⟨⟨_,rfl⟩,HE4.out.now,HE4.out.grown⟩
def rowsW:List Value:=rowV 0 ++ rowV 1 ++ rowV 2 ++ rowV 3 ++ rowV 4 ++ rowV 5 ++ rowV 6 ++ rowV 7 ++ rowV 8 ++ rowV 9
structure Tab (w:World):Prop where
 iv:∃ t fr,w.heap[1]? = some (.cells (ivB.map uv).toArray t fr)
 rows:∃ t fr,w.heap[2]? = some (.cells rowsW.toArray t fr)
theorem Tab.lt {w:World} (h:Tab w) : 1 < w.heap.size ∧ 2 < w.heap.size:=by
 obtain ⟨⟨t,fr,h1⟩,⟨t',fr',h2⟩⟩:=h
 exact ⟨(Array.getElem?_eq_some_iff.1 h1).1,(Array.getElem?_eq_some_iff.1 h2).1⟩
theorem Tab.below {B:Nat} {w w':World} (h:Tab w) (hb:Below B w w') (hB : 1 < B ∧ 2 < B):Tab w':=by
 obtain ⟨⟨t,fr,h1⟩,⟨t',fr',h2⟩⟩:=h
 exact ⟨⟨t,fr,by rw [hb.block _ hB.1];exact h1⟩,⟨t',fr',by rw [hb.block _ hB.2];exact h2⟩⟩
theorem Tab.later {w w':World} (h:Tab w) (hb:Below w.heap.size w w'):Tab w':=h.below hb h.lt
theorem Tab.but {w w':World} {g:Nat} (h:Tab w) (hb:w.grownBy w' (some g)) (hg:g ≠ 1 ∧ g ≠ 2):Tab w':=by
 have hl:=h.lt
 obtain ⟨⟨t,fr,h1⟩,⟨t',fr',h2⟩⟩:=h
 exact ⟨⟨t,fr,by rw [hb.block _ hl.1 (fun e => hg.1 (by cases e;rfl))];exact h1⟩,⟨t',fr',by rw [hb.block _ hl.2 (fun e => hg.2 (by cases e;rfl))];exact h2⟩⟩
theorem Tab.word {w:World} (h:Tab w) (i:Nat) (hi:i < 8):w.cell? ⟨1,i,none⟩ = some (.int .u32 ((at32 ivB i).toNat:Int)):=by
 obtain ⟨⟨t,fr,h1⟩,_⟩:=h
 rw [cell_of_row w _ i _ t fr h1,at32_get ivB i (by simpa [ivB] using hi)]
 simp [uv,show i < ivB.length by simpa [ivB] using hi]
theorem rowsW_part:∀ i,i < 10 → ∃ A B,rowsW = A ++ rowV i ++ B ∧ A.length = 16 * i:=by
 intro i hi
 have hl:=rowV_length
 have:i = 0 ∨ i = 1 ∨ i = 2 ∨ i = 3 ∨ i = 4 ∨ i = 5 ∨ i = 6 ∨ i = 7 ∨ i = 8 ∨ i = 9:=by omega
 rcases this with rfl | rfl | rfl | rfl | rfl | rfl | rfl | rfl | rfl | rfl
 ·exact ⟨[],rowV 1 ++ rowV 2 ++ rowV 3 ++ rowV 4 ++ rowV 5 ++ rowV 6 ++ rowV 7 ++ rowV 8 ++ rowV 9,by simp [rowsW],rfl⟩
 ·exact ⟨rowV 0,rowV 2 ++ rowV 3 ++ rowV 4 ++ rowV 5 ++ rowV 6 ++ rowV 7 ++ rowV 8 ++ rowV 9,by simp [rowsW],by simp [hl]⟩
 ·exact ⟨rowV 0 ++ rowV 1,rowV 3 ++ rowV 4 ++ rowV 5 ++ rowV 6 ++ rowV 7 ++ rowV 8 ++ rowV 9,by simp [rowsW],by simp [hl]⟩
 ·exact ⟨rowV 0 ++ rowV 1 ++ rowV 2,rowV 4 ++ rowV 5 ++ rowV 6 ++ rowV 7 ++ rowV 8 ++ rowV 9,by simp [rowsW],by simp [hl]⟩
 ·exact ⟨rowV 0 ++ rowV 1 ++ rowV 2 ++ rowV 3,rowV 5 ++ rowV 6 ++ rowV 7 ++ rowV 8 ++ rowV 9,by simp [rowsW],by simp [hl]⟩
 ·exact ⟨rowV 0 ++ rowV 1 ++ rowV 2 ++ rowV 3 ++ rowV 4,rowV 6 ++ rowV 7 ++ rowV 8 ++ rowV 9,by simp [rowsW],by simp [hl]⟩
 ·exact ⟨rowV 0 ++ rowV 1 ++ rowV 2 ++ rowV 3 ++ rowV 4 ++ rowV 5,rowV 7 ++ rowV 8 ++ rowV 9,by simp [rowsW],by simp [hl]⟩
 ·exact ⟨rowV 0 ++ rowV 1 ++ rowV 2 ++ rowV 3 ++ rowV 4 ++ rowV 5 ++ rowV 6,rowV 8 ++ rowV 9,by simp [rowsW],by simp [hl]⟩
 ·exact ⟨rowV 0 ++ rowV 1 ++ rowV 2 ++ rowV 3 ++ rowV 4 ++ rowV 5 ++ rowV 6 ++ rowV 7,rowV 9,by simp [rowsW],by simp [hl]⟩
 ·exact ⟨rowV 0 ++ rowV 1 ++ rowV 2 ++ rowV 3 ++ rowV 4 ++ rowV 5 ++ rowV 6 ++ rowV 7 ++ rowV 8,[],by simp [rowsW],by simp [hl]⟩
theorem Tab.row {w:World} (h:Tab w) (i:Nat) (hi:i < 10) (p:Nat) (hp:16 * i = p):∀ j v,(rowV i)[j]? = some v → w.cell? ⟨2,p + j,none⟩ = some v:=by
 obtain ⟨_,⟨t,fr,h2⟩⟩:=h
 obtain ⟨A,B,e,hA⟩:=rowsW_part i hi
 rw [e] at h2
 exact part_cells A (rowV i) B h2 p (by omega)
def zero16B:Array Value:=((List.replicate 16 0#32).map uv).toArray
def toldTo (p:List UInt8) (k:Nat):List (BitVec 32):=wordsTo p k ++ List.replicate (16 - k) 0#32
theorem toldTo_length (p:List UInt8) (k:Nat) (hk:k ≤ 16):(toldTo p k).length = 16:=by simp [toldTo,wordsTo_length];omega
theorem toldTo_step (p:List UInt8) (k:Nat) (hk:k < 16):(toldTo p k).set k (wordAt p k) = toldTo p (k + 1):=by
 unfold toldTo
 rw [List.set_append_right _ _ (by rw [wordsTo_length];omega),wordsTo_length,Nat.sub_self,wordsTo_succ,show 16 - k = (16 - (k + 1)) + 1 by omega,List.replicate_succ,List.set_cons_zero]
 simp
structure Tl (w:World) (p:List UInt8) (l:List (BitVec 32)) (W:World):Prop where
 p:Arr W w.heap.size 163 p
 res:W.heap[w.heap.size + 1]? = some (.cells zero16B 189 (0,0))
 m:Wd W (w.heap.size + 1 + 1) 189 l
 bel:Below w.heap.size w W
theorem Tl.new (w:World) (p:List UInt8):Tl w p (toldTo p 0) (((w.alloc (.cells (p.map bv).toArray 163)).alloc (.cells zero16B 189)).alloc (.cells zero16B 189)):=by
 have h0:=Arr.new w 163 p
 have h1:=heap_alloc_new (w.alloc (.cells (p.map bv).toArray 163)) (.cells zero16B 189)
 have h2:=heap_alloc_new ((w.alloc (.cells (p.map bv).toArray 163)).alloc (.cells zero16B 189)) (.cells zero16B 189)
 rw [World.size_alloc] at h1
 rw [World.size_alloc,World.size_alloc] at h2
 refine ⟨?_,?_,h2,?_⟩
 ·unfold Arr
  rw [Below.heap_alloc _ _ _ (by simp;omega),Below.heap_alloc _ _ _ (by simp)];exact h0
 ·rw [Below.heap_alloc _ _ _ (by simp)];exact h1
 ·exact (((Below.refl _ _).alloc (Nat.le_refl _) _).alloc (by simp) _).alloc (by simp;omega) _
theorem Tl.set {w W:World} {p:List UInt8} {l:List (BitVec 32)} (t:Tl w p l W) (k:Nat) (x:BitVec 32):Tl w p (l.set k x) (W.setCell ⟨w.heap.size + 1 + 1,k,none⟩ (uv x)):=
 ⟨t.p.other (by omega) _ _,by rw [heap_setCell_other _ ⟨w.heap.size + 1 + 1,k,none⟩ _ _ (by simp)];exact t.res,t.m.set k x,t.bel.setCell (by simp;omega) _⟩
set_option maxHeartbeats 1000000 in
set_option maxRecDepth 100000 in
theorem btell_any (p:List UInt8) (w:World) (hp:p.length = 64) :
  Calls Tryz.prog 149 #[.agg (p.map bv).toArray] w fun e w' => e = .returned (.agg ((wordsTo p 16).map uv).toArray) ∧ Below w.heap.size w w':=by
 have HT0:Hid (Tl w p (toldTo p 0) (((w.alloc (.cells (p.map bv).toArray 163)).alloc (.cells zero16B 189)).alloc (.cells zero16B 189))):=Tl.new w p
 go_enter Tryz.func149,Tryz.ntmps149
 go_wp2
 refine from_world (P:=Code.wp Tryz.prog _ _ _) (R:=fun W => Hid (Tl w p (toldTo p 0) W)) _ HT0 ?_
 intro W0 HT1
 clear HT0
 go_loopw [7] (fun i wr => ∃ k:Nat,k ≤ 16 ∧ i = .int .i64 k ∧ Hid (Tl w p (toldTo p k) wr)) (fun i _ => 16 - (intOf i).toNat)
 case atStart => exact ⟨0,by omega,rfl,HT1⟩
 case round =>
  clear HT1
  obtain ⟨k,hk,rfl,hT⟩:=hrel
  by_cases hlt:k < 16
  ·obtain ⟨q,hq⟩:∃ q,4 * k = q:=⟨_,rfl⟩
   have e1:(k:Int) * 4 = (q:Int):=by omega
   have i1:(k:Int) < 16:=by omega
   have HBr:Hid (Byt wr (some ⟨w.heap.size,0,none⟩) 64 p):=hT.out.p.byt 64 hp
   have HV:Hid ((getV p false q 4:Int) % 4294967296 = ((wordAt p k).toNat:Int)):=by
    show _ = _
    have:=getV4_lt p q
    rw [wordAt_val,hq];omega
   obtain ⟨W,hW⟩:∃ W,wr.setCell ⟨w.heap.size + 1 + 1,k,none⟩ (uv (wordAt p k)) = W:=⟨_,rfl⟩
   have HT:Hid (Tl w p (toldTo p (k + 1)) W):=by
    rw [← hW,← toldTo_step p k hlt]
    exact hT.out.set k _
   have HW:Hid (wr.setCell ⟨w.heap.size + 1 + 1,k,none⟩ (.int .u32 ((wordAt p k).toNat:Int)) = W):=hW
   obtain ⟨cc,fr⟩:=hT.out.m.word k (by rw [toldTo_length _ _ hk];omega)
   clear hW hT
   go_wp2_with fail
   refine (get_yes w.heap.size 0 64 64 q 4 false p wr (by unfold maxLen;omega) (by omega) HBr.out (by omega) (by omega) (by omega)).mono ?_
   rintro e w' ⟨rfl,rfl⟩
   go_wp2
   rw [HV.out,HW.out]
   exact ⟨⟨k + 1,by omega,by go_num,HT⟩,by simp [intOf];omega⟩
  ·have ek:k = 16:=by omega
   have hkr:¬ (k:Int) < 16:=by omega
   obtain ⟨M,hM⟩:∃ M,wordsTo p 16 = M:=⟨_,rfl⟩
   have hMl:M.length = 16:=by rw [← hM,wordsTo_length]
   have HM:Hid (wordsTo p 16 = M):=hM
   have HT:Hid (Tl w p M wr):=by
    have:=hT.out
    rw [ek] at this
    have e:toldTo p 16 = M:=by rw [← hM];simp [toldTo]
    rw [e] at this
    exact this
   have IB:Hid ((Tryz.prog.info? 189).map (·.size) = some (M.map uv).toArray.size):=info_words (n:=16) (by kernel_rfl) M hMl
   have hst:=store_row wr (w.heap.size + 1) _ _ (M.map uv) HT.out.res (by simp [hMl,zero16B]) (uv_oneCell M)
   have hrow:=setRow_heap wr (w.heap.size + 1) _ (M.map uv).toArray _ _ HT.out.res
   have HBel:Hid (Below w.heap.size w (wr.setRow (w.heap.size + 1) (M.map uv).toArray)):=below_setRow HT.out.bel (by omega) _
   obtain ⟨W4,hW4⟩:∃ W4,wr.setRow (w.heap.size + 1) (M.map uv).toArray = W4:=⟨_,rfl⟩
   rw [hW4] at hst hrow HBel
   have HRow:Hid (W4.heap[w.heap.size + 1]? = some (.cells (M.map uv).toArray 189 (0,0))):=hrow
   clear hrow hW4 hT hM
   go_wp2_with (first | refine wpList_load_row rfl 189 _ rfl (w.heap.size + 1 + 1) rfl 189 _ (0,0) _ HT.out.m Tryz.underlying189 rfl IB.out ?_)
   (try simp only [Exit.inBlock,Exit.then])
   refine bodyPost_ret (results_cell_row rfl _ _ (w.heap.size + 1) 189 _ (0,0) _ rfl HRow.out Tryz.underlying189 rfl IB.out) rfl ?_
   exact ⟨by rw [HM.out],HBel.out⟩
end Go.Proofs.YthmkhdnnljdglaaGreatDoor
namespace Go.Proofs.YthmkhdnnljdglaaGreatDoor
set_option linter.unusedVariables false
set_option maxRecDepth 100000
open Go.ChangeShapes Go.WideShapes Go.ChangeAt Go.RowKit
theorem ints_of_trod {H:Type} {enc:TypeId × Value → H} {P:Program} {W:World} {base:Nat} {sp:Nat → Bool} {held:Bool} {fuel n:Nat} {t e:TypeId} {k:IntKind} {cs:List Value} {d:DataW H} {p:List MemPlace}
  (ht:P.underlying t = some (.array n e)) (he:P.underlying e = some (.int k)) (hc:P.cellsOf e = 1) (hct:P.cellsOf t = n) (h:DataW.trod enc P W base sp held fuel t cs = some (d,p)) (zs:List Int) (hd:d = .agg (zs.map fun z => .lit (.int k z))) :
  cs = zs.map fun z => .int k z:=by
 obtain ⟨xs,m,rfl,hx,hlen,hn,hel⟩:=DataW.trod_array ht h
 simp only [Prod.mk.injEq] at hx
 have hx1:=hx.1
 rw [hd,DataW.agg.injEq] at hx1
 have hl:zs.length = n:=by
  have:=congrArg List.length hx1
  simpa [hn] using this
 apply List.ext_getElem
 ·simp [hl,hlen,hct]
 ·intro i h1 h2
  have hi:i < n:=by simp at h2;omega
  have he1:=hel i hi
  rw [hc,Nat.mul_one,List.getElem?_eq_getElem (by omega)] at he1
  obtain ⟨z,e1,e2,_⟩:=DataW.trod_int he he1
  have e3:cs[i] = .int k z:=by
   have:=congrArg (fun l:List Value => l[0]?) e1
   simpa [List.getElem?_take,List.getElem?_drop,h1] using this
  have e4:(DataW.lit (.int k (zs[i]'(by omega))):DataW H) = (xs[i]'(by omega)).1:=by
   have:=congrArg (fun l:List (DataW H) => l[i]?) hx1
   simpa [show i < zs.length by omega,show i < xs.length by omega] using this
  rw [e2] at e4
  have e5:zs[i]'(by omega) = z:=by simpa using e4
  rw [e3]
  simp [e5]
theorem chunk (l:List Value) (i j:Nat) (hj:i + 16 = j):l.drop i = (l.drop i).take 16 ++ l.drop j:=by
 rw [← hj,← List.drop_drop]
 exact (List.take_append_drop 16 _).symm
theorem var_row {P:Program} {w:World} {n:String} {g:Nat} {cs:Array Value} (hg:P.globalNamed n = some g) (h:w.var? P n = some cs):∃ t fr,w.heap[g]? = some (.cells cs t fr):=by
 simp only [World.var?,hg,Option.bind_some] at h
 split at h
 ·rename_i hh
  cases h
  exact ⟨_,_,hh⟩
 ·cases h
def rowD (i:Nat):DataW Unit:=.agg (((List.range 16).map fun k => ((sig i k:Nat):Int)).map fun z => .lit (.int .u8 z))
def ivZ:List Int:=ivB.map fun x => (x.toNat:Int)
def ivD:DataW Unit:=.agg (ivZ.map fun z => .lit (.int .u32 z))
theorem gIv:Tryz.prog.globalNamed "hatchway/blake.iv" = some 1:=by kernel_rfl
theorem gRows:Tryz.prog.globalNamed "hatchway/blake.rows" = some 2:=by kernel_rfl
theorem tIv:(Tryz.prog.globals[1]?).map (·.type) = some 160:=by kernel_rfl
theorem tRows:(Tryz.prog.globals[2]?).map (·.type) = some 192:=by kernel_rfl
theorem laid_iv:(Rows.laid_hatchway_blake_iv:DataW Unit) = ivD:=by kernel_rfl
theorem laid_rows:(Rows.laid_hatchway_blake_rows:DataW Unit) = .agg [rowD 0,rowD 1,rowD 2,rowD 3,rowD 4,rowD 5,rowD 6,rowD 7,rowD 8,rowD 9]:=by kernel_rfl
theorem tab_of_vars {W:World} {cs0 cs1:Array Value} {f0 f1:Nat} {p0 p1:List MemPlace} (hv0:W.var? Tryz.prog "hatchway/blake.iv" = some cs0) (hd0:DataW.trod (fun _ => ()) Tryz.prog W 0 (fun _ => true) false f0 160 cs0.toList = some (Rows.laid_hatchway_blake_iv,p0))
  (hv1:W.var? Tryz.prog "hatchway/blake.rows" = some cs1) (hd1:DataW.trod (fun _ => ()) Tryz.prog W 0 (fun _ => true) false f1 192 cs1.toList = some (Rows.laid_hatchway_blake_rows,p1)):Tab W:=by
 refine ⟨?_,?_⟩
 ·obtain ⟨t,fr,h⟩:=var_row gIv hv0
  have e:=ints_of_trod Tryz.underlying160 Tryz.underlying99 (by kernel_rfl) (by kernel_rfl) hd0 ivZ laid_iv
  have e2:cs0 = (ivB.map uv).toArray:=by
   rw [← Array.toArray_toList (xs:=cs0),e,ivZ,List.map_map]
   rfl
  rw [e2] at h
  exact ⟨t,fr,h⟩
 ·obtain ⟨t,fr,h⟩:=var_row gRows hv1
  obtain ⟨xs,m,rfl,hx,hlen,hn,hel⟩:=DataW.trod_array Tryz.underlying192 hd1
  simp only [Prod.mk.injEq,laid_rows,DataW.agg.injEq] at hx
  have hx1:=hx.1
  have c16:Tryz.prog.cellsOf 119 = 16:=by kernel_rfl
  have c160:Tryz.prog.cellsOf 192 = 160:=by kernel_rfl
  rw [c160] at hlen
  have hrow:∀ i,i < 10 → (cs1.toList.drop (i * 16)).take 16 = rowV i:=by
   intro i hi
   have h1:=hel i hi
   rw [c16,List.getElem?_eq_getElem (by omega)] at h1
   have e4:(xs[i]'(by omega)).1 = rowD i:=by
    have h3:=congrArg (fun l:List (DataW Unit) => l[i]?) hx1
    simp only [List.getElem?_map,List.getElem?_eq_getElem (show i < xs.length by omega),Option.map_some] at h3
    have hcase:i = 0 ∨ i = 1 ∨ i = 2 ∨ i = 3 ∨ i = 4 ∨ i = 5 ∨ i = 6 ∨ i = 7 ∨ i = 8 ∨ i = 9:=by omega
    rcases hcase with rfl | rfl | rfl | rfl | rfl | rfl | rfl | rfl | rfl | rfl <;> exact (Option.some.inj h3).symm
   have e5:=ints_of_trod (d:=(xs[i]'(by omega)).1) (p:=(xs[i]'(by omega)).2) Tryz.underlying119 Tryz.underlying5 (by kernel_rfl) (by kernel_rfl) h1 _ e4
   rw [e5,List.map_map]
   rfl
  have e2:cs1 = rowsW.toArray:=by
   rw [← Array.toArray_toList (xs:=cs1)]
   congr 1
   have r0:=hrow 0 (by omega)
   have r1:=hrow 1 (by omega)
   have r2:=hrow 2 (by omega)
   have r3:=hrow 3 (by omega)
   have r4:=hrow 4 (by omega)
   have r5:=hrow 5 (by omega)
   have r6:=hrow 6 (by omega)
   have r7:=hrow 7 (by omega)
   have r8:=hrow 8 (by omega)
   have r9:=hrow 9 (by omega)
   simp only [Nat.reduceMul] at r0 r1 r2 r3 r4 r5 r6 r7 r8 r9
   have hz:cs1.toList = cs1.toList.drop 0:=by simp
   rw [hz,chunk _ 0 16 rfl,chunk _ 16 32 rfl,chunk _ 32 48 rfl,chunk _ 48 64 rfl,chunk _ 64 80 rfl,chunk _ 80 96 rfl,chunk _ 96 112 rfl,chunk _ 112 128 rfl,chunk _ 128 144 rfl,chunk _ 144 160 rfl,
    r0,r1,r2,r3,r4,r5,r6,r7,r8,r9,List.drop_eq_nil_of_le (by omega)]
   simp [rowsW]
  rw [e2] at h
  exact ⟨t,fr,h⟩
end Go.Proofs.YthmkhdnnljdglaaGreatDoor
namespace Go.Proofs.YthmkhdnnljdglaaGreatDoor
set_option linter.unusedVariables false
set_option maxRecDepth 100000
open Go.RowKit
def MiV (chain hash key:List UInt8) (has:Bool) (n:Nat):List Value:=chain.map bv ++ (hash.map bv ++ CiV key has n)
structure MiIs (W:World) (g:Nat) (chain hash key:List UInt8) (has:Bool) (n:Nat):Prop where
 row:W.heap[g]? = some (.cells (MiV chain hash key has n).toArray 65 (0,0))
 c:chain.length = 32
 h:hash.length = 32
 k:key.length = 32
section
variable {W W':World} {g:Nat} {chain hash key:List UInt8} {has:Bool} {n:Nat}
theorem MiIs.lt (x:MiIs W g chain hash key has n):g < W.heap.size:=(Array.getElem?_eq_some_iff.1 x.row).1
theorem MiIs.later (x:MiIs W g chain hash key has n) (hb:Below W.heap.size W W'):MiIs W' g chain hash key has n:=⟨by rw [hb.block g x.lt];exact x.row,x.c,x.h,x.k⟩
theorem MiIs.but {g':Nat} (x:MiIs W g chain hash key has n) (hG:W.grownBy W' (some g')) (hne:g ≠ g'):MiIs W' g chain hash key has n:=⟨by rw [hG.block g x.lt (fun e => hne (by cases e;rfl))];exact x.row,x.c,x.h,x.k⟩
theorem mi_info (hc:chain.length = 32) (hh:hash.length = 32) (hk:key.length = 32):(Tryz.prog.info? 65).map (·.size) = some (MiV chain hash key has n).toArray.size:=by
 have e1:(Tryz.prog.info? 65).map (·.size) = some 98:=by kernel_rfl
 rw [e1];simp [MiV,CiV,hc,hh,hk]
theorem MiIs.chainB (x:MiIs W g chain hash key has n):∀ j v,(chain.map bv)[j]? = some v → W.cell? ⟨g,0 + j,none⟩ = some v:=
 part_cells [] (chain.map bv) _ (by have:=x.row;simpa [MiV] using this) 0 rfl
theorem MiIs.hashB (x:MiIs W g chain hash key has n):∀ j v,(hash.map bv)[j]? = some v → W.cell? ⟨g,32 + j,none⟩ = some v:=
 part_cells (chain.map bv) (hash.map bv) _ (by have:=x.row;simpa [MiV] using this) 32 (by simp [x.c])
theorem MiIs.keyB (x:MiIs W g chain hash key has n):∀ j v,(key.map bv)[j]? = some v → W.cell? ⟨g,64 + j,none⟩ = some v:=
 part_cells (chain.map bv ++ hash.map bv) (key.map bv) [.bool has,.int .u64 (n:Int)] (by have:=x.row;simpa [MiV,CiV] using this) 64 (by simp [x.c,x.h])
theorem byt_of_cells {W:World} {g off n:Nat} {l:List UInt8} (hl:l.length = n) (h:∀ j v,(l.map bv)[j]? = some v → W.cell? ⟨g,off + j,none⟩ = some v):Byt W (some ⟨g,off,none⟩) n l:=by
 refine ⟨hl,.inr ⟨g,off,rfl,fun i hi => ?_⟩⟩
 rw [h i (.int .u8 ((at8 l i).toNat:Int)) (by rw [List.getElem?_map,at8_get l i (by omega)];simp [bv,show i < l.length by omega])]
theorem MiIs.num (x:MiIs W g chain hash key has n):W.cell? ⟨g,97,none⟩ = some (.int .u64 (n:Int)) ∧ W.frozen? ⟨g,97,none⟩ = false:=by
 refine ⟨?_,frozen_of_row W g 97 _ _ x.row⟩
 rw [cell_of_row W g 97 _ _ (0,0) x.row]
 simp [MiV,CiV,x.c,x.h,x.k]
theorem MiIs.had (x:MiIs W g chain hash key has n):W.cell? ⟨g,96,none⟩ = some (.bool has) ∧ W.frozen? ⟨g,96,none⟩ = false:=by
 refine ⟨?_,frozen_of_row W g 96 _ _ x.row⟩
 rw [cell_of_row W g 96 _ _ (0,0) x.row]
 simp [MiV,CiV,x.c,x.h,x.k]
end
end Go.Proofs.YthmkhdnnljdglaaGreatDoor
namespace Go.Proofs.YthmkhdnnljdglaaGreatDoor
set_option linter.unusedVariables false
set_option maxRecDepth 100000
open Go.RowKit
structure KC (w:World) (g t off:Nat) (A B:List Value) (key:List UInt8) (has:Bool) (n:Nat):Prop where
 row:w.heap[g]? = some (.cells (A ++ (CiV key has n ++ B)).toArray t (0,0))
 k:key.length = 32
 a:A.length = off
section
variable {w w':World} {g t off:Nat} {A B:List Value} {key:List UInt8} {has:Bool} {n:Nat}
theorem KC.lt (x:KC w g t off A B key has n):g < w.heap.size:=(Array.getElem?_eq_some_iff.1 x.row).1
theorem KC.later (x:KC w g t off A B key has n) (hb:Below w.heap.size w w'):KC w' g t off A B key has n:=⟨by rw [hb.block g x.lt];exact x.row,x.k,x.a⟩
theorem KC.keyC (x:KC w g t off A B key has n):∀ j v,(key.map bv)[j]? = some v → w.cell? ⟨g,off + j,none⟩ = some v:=
 part_cells A (key.map bv) ([.bool has,.int .u64 (n:Int)] ++ B) (by have:=x.row;simpa [CiV] using this) off x.a
theorem KC.had (x:KC w g t off A B key has n):w.cell? ⟨g,off + 32,none⟩ = some (.bool has):=by
 have:=part_cells (A ++ key.map bv) [.bool has] ([.int .u64 (n:Int)] ++ B) (by have:=x.row;simpa [CiV] using this) (off + 32) (by simp [x.a,x.k]) 0 (.bool has) rfl
 simpa using this
theorem KC.num (x:KC w g t off A B key has n):w.cell? ⟨g,off + 33,none⟩ = some (.int .u64 (n:Int)):=by
 have:=part_cells (A ++ (key.map bv ++ [.bool has])) [.int .u64 (n:Int)] B (by have:=x.row;simpa [CiV] using this) (off + 33) (by simp [x.a,x.k]) 0 (.int .u64 (n:Int)) rfl
 simpa using this
theorem KC.free (x:KC w g t off A B key has n) (i:Nat):w.frozen? ⟨g,i,none⟩ = false:=frozen_of_row w g i _ _ x.row
theorem KC.setN (x:KC w g t off A B key has n) (m:Nat):KC (w.setCell ⟨g,off + 33,none⟩ (.int .u64 (m:Int))) g t off A B key has m:=by
 refine ⟨?_,x.k,x.a⟩
 rw [heap_setCell_same w g _ _ _ _ x.row]
 congr 2
 have e1:∀ q:Nat,A ++ (CiV key has q ++ B) = (A ++ (key.map bv ++ [.bool has])) ++ (.int .u64 (q:Int) :: B):=fun q => by simp [CiV]
 have hl:(A ++ (key.map bv ++ [Value.bool has])).length = off + 33:=by simp [x.a,x.k]
 rw [e1 n,e1 m]
 simp only [List.setIfInBounds_toArray,Array.mk.injEq]
 rw [List.set_append_right _ _ (by omega),hl]
 simp
end
theorem KC.ofCi {w:World} {g:Nat} {key:List UInt8} {has:Bool} {n:Nat} (x:CiIs w g key has n):KC w g 42 0 [] [] key has n:=⟨by have:=x.row;simpa using this,x.k,rfl⟩
theorem KC.toCi {w:World} {g:Nat} {key:List UInt8} {has:Bool} {n:Nat} (x:KC w g 42 0 [] [] key has n):CiIs w g key has n:=⟨by have:=x.row;simpa using this,x.k⟩
structure KM (w:World) (g t:Nat) (B:List Value) (chain hash key:List UInt8) (has:Bool) (n:Nat):Prop where
 row:w.heap[g]? = some (.cells (MiV chain hash key has n ++ B).toArray t (0,0))
 c:chain.length = 32
 h:hash.length = 32
 k:key.length = 32
section
variable {w w':World} {g t:Nat} {B:List Value} {chain hash key:List UInt8} {has:Bool} {n:Nat}
theorem KM.lt (x:KM w g t B chain hash key has n):g < w.heap.size:=(Array.getElem?_eq_some_iff.1 x.row).1
theorem KM.later (x:KM w g t B chain hash key has n) (hb:Below w.heap.size w w'):KM w' g t B chain hash key has n:=⟨by rw [hb.block g x.lt];exact x.row,x.c,x.h,x.k⟩
theorem KM.but {g':Nat} (x:KM w g t B chain hash key has n) (hG:w.grownBy w' (some g')) (hne:g ≠ g'):KM w' g t B chain hash key has n:=⟨by rw [hG.block g x.lt (fun e => hne (by cases e;rfl))];exact x.row,x.c,x.h,x.k⟩
theorem KM.chainB (x:KM w g t B chain hash key has n):∀ j v,(chain.map bv)[j]? = some v → w.cell? ⟨g,0 + j,none⟩ = some v:=
 part_cells [] (chain.map bv) (hash.map bv ++ (CiV key has n ++ B)) (by have:=x.row;simpa [MiV] using this) 0 rfl
theorem KM.hashB (x:KM w g t B chain hash key has n):∀ j v,(hash.map bv)[j]? = some v → w.cell? ⟨g,32 + j,none⟩ = some v:=
 part_cells (chain.map bv) (hash.map bv) (CiV key has n ++ B) (by have:=x.row;simpa [MiV] using this) 32 (by simp [x.c])
theorem KM.toKC (x:KM w g t B chain hash key has n):KC w g t 64 (chain.map bv ++ hash.map bv) B key has n:=
 ⟨by have:=x.row;simpa [MiV] using this,x.k,by simp [x.c,x.h]⟩
theorem KM.ofKC (hc:chain.length = 32) (hh:hash.length = 32) (x:KC w g t 64 (chain.map bv ++ hash.map bv) B key has n):KM w g t B chain hash key has n:=
 ⟨by have:=x.row;simpa [MiV] using this,hc,hh,x.k⟩
end
end Go.Proofs.YthmkhdnnljdglaaGreatDoor
