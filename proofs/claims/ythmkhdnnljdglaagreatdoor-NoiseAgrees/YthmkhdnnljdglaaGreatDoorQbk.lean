import Derived.Test.YthmkhdnnljdglaaGreatDoorQbi
import Derived.Test.YthmkhdnnljdglaaGreatDoorQaq
namespace Go.Proofs.YthmkhdnnljdglaaGreatDoor
set_option linter.unusedVariables false
set_option maxRecDepth 100000
open Go.RowKit
theorem text_len9 (K H q:List UInt8) (h:oErr K true 0 H q = 0):(oOut K true 0 H q).length = q.length - 16:=by
 have hl:¬ (0:Nat) = lastN:=by decide
 unfold oErr at h
 unfold oOut
 rw [if_neg (by decide),if_neg hl] at h ⊢
 split at h
 ·rename_i hs
  rw [if_pos hs,openB_length]
 ·cases h
theorem key_text_len (m:MS) (u q:List UInt8) (h:(m.key u).err q = 0):((m.key u).text q).length = q.length - 16:=text_len9 _ _ q h
set_option maxHeartbeats 8000000 in
theorem nhear1_any (gs pb:Nat) (x:NS) (seen:List UInt8) (c:Option Addr) (lc cc:Nat) (b:List UInt8) (w:World) (hC:Cl w w gs pb c lc cc b x.M x.own x.once x.S seen) (hn:x.M.n ≤ 100) (hlc:lc ≤ 900) :
  Calls Tryz.prog 41 #[.pointer (some ⟨gs,0,none⟩),.pointer (some ⟨pb,0,none⟩)] w fun e w' => Clo w w' gs e (hE x b) ((NS.h2 x b).opened (b.drop 80)) x.own x.once (NS.hS x b) (NS.hR b) (NS.hearOut x b):=by
 have HC:=ohid hC
 have hbl:=hC.cw.b.1
 obtain ⟨EE,hEE0⟩:∃ E,hE x b = E:=⟨_,rfl⟩
 have hEE:=ohid hEE0
 obtain ⟨O,hO0⟩:∃ O,NS.hearOut x b = O:=⟨_,rfl⟩
 have hO:=ohid hO0
 obtain ⟨M5,hM50⟩:∃ M,(NS.h2 x b).opened (b.drop 80) = M:=⟨_,rfl⟩
 have hM5:=ohid hM50
 rw [hEE0,hO0,hM50]
 clear hEE0 hO0 hM50 hC
 have hcell:=HC.out.cell
 by_cases hlen:lc < 96
 ·have HEr:Hid (EE = 2):=by
   show _ = _
   rw [← hEE.out]
   unfold hE
   rw [if_pos (by rw [hbl];exact hlen)]
  go_enter Tryz.func41,Tryz.ntmps41
  go_wp2_with fail
  refine (nhearOnce_no gs c lc cc 96 w hlen (by omega)).mono ?_
  rintro e w2 ⟨rfl,rfl⟩
  go_wp2_with fail
  exact ⟨rfl,Clo.no HEr.out (by decide) (grownBy_refl _ _)⟩
 ·obtain ⟨cb,co,rfl,_⟩:=HC.out.byt.at_ 0 (by omega)
  have hll:=HC.out.cw.lcc
  have hcm:=HC.out.cw.ccm
  have hcbg:=HC.out.cw.cg (by omega) cb co none rfl
  have HL:Hid (¬ b.length < 96):=by show ¬ _;rw [hbl];exact hlen
  go_enter Tryz.func41,Tryz.ntmps41
  go_wp2_with fail
  clear hcell
  refine (nhearOnce_any gs _ _ _ _ _ cb co lc cc 96 b w HC.out.sd HC.out.byt (by omega) (by omega) hll hcm hcbg HC.out.tab HC.out.cw.k).mono ?_
  rintro e w1 ⟨rfl,hG,hS⟩
  replace HC:=ohid (HC.out.step hG hS)
  obtain ⟨m1,hm1⟩:∃ m,x.M.hash (b.take 32) = m:=⟨_,rfl⟩
  rw [hm1] at HC
  have Hm1:Hid (x.M.hash (NS.hR b) = m1):=hm1
  have hRR:b.take 32 = NS.hR b:=rfl
  rw [hRR] at HC
  obtain ⟨lr,hlr⟩:∃ lr,lc - 32 = lr:=⟨_,rfl⟩
  obtain ⟨cr,hcr⟩:∃ cr,cc - 32 = cr:=⟨_,rfl⟩
  have i1:64 ≤ lr:=by omega
  have i2:lr ≤ cr:=by omega
  have i3:(cr:Int) ≤ 9223372036854775807:=by unfold maxLen at hcm;omega
  have HlE:=ohid (And.intro hlr hcr)
  rw [hlr,hcr]
  clear hG hS hm1 hRR hlr hcr
  go_wp2_with fail
  refine wp_region_vals 9 (by decide) (by kernel_rfl) (by kernel_rfl) (by kernel_rfl) (by kernel_rfl)
   (fun j x' W' => match j with
    | 3 => x' = .pointer (some ⟨gs,98,none⟩)
    | 4 => x' = .agg ((x.own).map bv).toArray
    | 7 => x' = .pointer (some ⟨gs,194,none⟩)
    | 8 => x' = .agg ((NS.hR b).map bv).toArray
    | _ => x' = .pointer (some ⟨gs,0,none⟩)) ?_ ?_ ?_
  ·intro j x' W W' h hb
   exact h
  ·intro d v W' i o A hi ho hv hdep hA hb
   have HCd:=(HC.out.later ((Below.refl _ _).drew)).later hb
   have hcs:i = 0 ∨ i = 1 ∨ i = 2 ∨ i = 3 ∨ i = 4 ∨ i = 5 ∨ i = 6 ∨ i = 7 ∨ i = 8:=by omega
   rcases hcs with rfl | rfl | rfl | rfl | rfl | rfl | rfl | rfl | rfl
   ·cases ho
    have h0:A.tmps[0]?.getD undef = .pointer (some ⟨gs,0,none⟩):=slotv ((hA.keep 0 (by kernel_rfl)).trans rfl)
    exact ⟨rfl,oper_val (v:=.pointer (some ⟨gs,0,none⟩)) (w':=W') (by go_simp) ⟨_,rfl,rfl,Below.refl _ _⟩⟩
   ·cases ho
    have h0:A.tmps[0]?.getD undef = .pointer (some ⟨gs,0,none⟩):=slotv ((hA.keep 0 (by kernel_rfl)).trans rfl)
    exact ⟨rfl,oper_val (v:=.pointer (some ⟨gs,0,none⟩)) (w':=W') (by go_simp) ⟨_,rfl,rfl,Below.refl _ _⟩⟩
   ·cases ho
    have h0:A.tmps[10]?.getD undef = .pointer (some ⟨gs,0,none⟩):=slotv ((hA.got hdep 1 10 (by decide) (by kernel_rfl) rfl (of_decide_eq_true (by kernel_rfl))).trans (hv 1 (by decide) (vdone hdep 1 (by kernel_rfl))))
    exact ⟨rfl,oper_val (v:=.pointer (some ⟨gs,0,none⟩)) (w':=W') (by go_simp) ⟨_,rfl,rfl,Below.refl _ _⟩⟩
   ·cases ho
    have h0:A.tmps[11]?.getD undef = .pointer (some ⟨gs,0,none⟩):=slotv ((hA.got hdep 2 11 (by decide) (by kernel_rfl) rfl (of_decide_eq_true (by kernel_rfl))).trans (hv 2 (by decide) (vdone hdep 2 (by kernel_rfl))))
    exact ⟨rfl,oper_val (v:=.pointer (some ⟨gs,98,none⟩)) (w':=W') (by go_simp) ⟨_,rfl,rfl,Below.refl _ _⟩⟩
   ·cases ho
    have h0:A.eval (.tmp 12) = .pointer (some ⟨gs,98,none⟩):=(hA.got hdep 3 12 (by decide) (by kernel_rfl) rfl (of_decide_eq_true (by kernel_rfl))).trans (hv 3 (by decide) (vdone hdep 3 (by kernel_rfl)))
    exact ⟨rfl,oper_val (v:=.agg ((x.own).map bv).toArray) (w':=W') (exec_load_part 24 _ rfl gs 98 h0 ((x.own).map bv) _ HCd.sd.ownC Tryz.underlying24 rfl (keyI HCd.sd.k4.a)) ⟨_,rfl,rfl,Below.refl _ _⟩⟩
   ·cases ho
    have h0:A.tmps[0]?.getD undef = .pointer (some ⟨gs,0,none⟩):=slotv ((hA.keep 0 (by kernel_rfl)).trans rfl)
    exact ⟨rfl,oper_val (v:=.pointer (some ⟨gs,0,none⟩)) (w':=W') (by go_simp) ⟨_,rfl,rfl,Below.refl _ _⟩⟩
   ·cases ho
    have h0:A.tmps[14]?.getD undef = .pointer (some ⟨gs,0,none⟩):=slotv ((hA.got hdep 5 14 (by decide) (by kernel_rfl) rfl (of_decide_eq_true (by kernel_rfl))).trans (hv 5 (by decide) (vdone hdep 5 (by kernel_rfl))))
    exact ⟨rfl,oper_val (v:=.pointer (some ⟨gs,0,none⟩)) (w':=W') (by go_simp) ⟨_,rfl,rfl,Below.refl _ _⟩⟩
   ·cases ho
    have h0:A.tmps[15]?.getD undef = .pointer (some ⟨gs,0,none⟩):=slotv ((hA.got hdep 6 15 (by decide) (by kernel_rfl) rfl (of_decide_eq_true (by kernel_rfl))).trans (hv 6 (by decide) (vdone hdep 6 (by kernel_rfl))))
    exact ⟨rfl,oper_val (v:=.pointer (some ⟨gs,194,none⟩)) (w':=W') (by go_simp) ⟨_,rfl,rfl,Below.refl _ _⟩⟩
   ·cases ho
    have h0:A.eval (.tmp 16) = .pointer (some ⟨gs,194,none⟩):=(hA.got hdep 7 16 (by decide) (by kernel_rfl) rfl (of_decide_eq_true (by kernel_rfl))).trans (hv 7 (by decide) (vdone hdep 7 (by kernel_rfl)))
    exact ⟨rfl,oper_val (v:=.agg ((NS.hR b).map bv).toArray) (w':=W') (exec_load_part 24 _ rfl gs 194 h0 ((NS.hR b).map bv) _ HCd.sd.seenC Tryz.underlying24 rfl (keyI HCd.sd.k4.d)) ⟨_,rfl,rfl,Below.refl _ _⟩⟩
  ·intro v1_ W' hv hb
   have hCd:=(HC.out.later ((Below.refl _ _).drew)).later hb
   have e0:=hv 0 (by decide)
   have e4:=hv 4 (by decide)
   have e8:=hv 8 (by decide)
   have HD:=ohid hCd
   clear hCd hv hb HC
   refine vtail (a':={ tmps:=#[.pointer (some ⟨gs,0,none⟩),.pointer (some ⟨pb,0,none⟩),undef,.slice none 0 0,.slice (some ⟨cb,co + 32,none⟩) lr cr,undef,.pointer (some ⟨gs,0,none⟩),.slice (some ⟨cb,co,none⟩) lc cc,.slice (some ⟨cb,co + 32,none⟩) lr cr,v1_ 0,v1_ 1,v1_ 2,v1_ 3,v1_ 4,v1_ 5,v1_ 6,v1_ 7,v1_ 8,undef,undef,undef,undef,undef,undef,undef,undef,undef,undef,undef,undef,undef,undef,undef,undef,undef,undef,undef,undef,undef,undef,undef,undef,undef,undef],defers:=[] }) rfl (by kernel_rfl) ?_
   rw [e0,e4,e8]
   clear e0 e4 e8
   go_wp2_with fail
   by_cases h0:mK (x.own) (NS.hR b) = 0
   ·have HEr:Hid (EE = 4):=by
     show _ = _
     rw [← hEE.out]
     unfold hE
     rw [if_neg HL.out,if_pos (fun h => h h0)]
    refine (nmix_no gs m1 [] [] [] [] (x.own) (NS.hR b) W' HD.out.sd.k4.a HD.out.sd.k4.d HD.out.tab h0).mono ?_
    rintro e w2 ⟨rfl,hb2⟩
    have HG2:=ohid (HD.out.later hb2).g
    clear hb2 HD h0
    go_wp2_with fail
    exact ⟨rfl,Clo.no HEr.out (by decide) HG2.out⟩
   ·have H1:=ohid h0
    refine (nmix_ok gs m1 _ _ _ _ (x.own) (NS.hR b) W' HD.out.sd HD.out.sd.k4.a HD.out.sd.k4.d HD.out.tab HD.out.cw.k h0).mono ?_
    clear h0
    rintro e w2 ⟨⟨u1,rfl⟩,hG,hS⟩
    obtain ⟨m2,hm2⟩:∃ m,m1.key (secB x.own (NS.hR b)) = m:=⟨_,rfl⟩
    rw [hm2] at hS
    have hf1:NS.h1 x b = m2:=by unfold NS.h1;rw [Hm1.out,hm2]
    have Hf1:=ohid hf1
    have hm2n:m2.n = 0:=by rw [← hm2];rfl
    have Htl:Hid (∀ q,m2.err q = 0 → (m2.text q).length = q.length - 16):=by rw [← hm2];exact fun q h => key_text_len _ _ q h
    clear hm2 hf1
    have HC:=ohid (HD.out.step hG hS)
    clear hG hS HD
    go_wp2_with fail
    refine wp_region_sched' (G:=Stays) (by kernel_rfl) Stays.refl Stays.trans (by kernel_rfl) [(0,true),(1,true),(2,true),(3,true),(4,true),(5,true)] rfl (by kernel_rfl) ?_
    intro KK hKK
    obtain ⟨w3,hw3⟩:∃ W,w2.drew = W:=⟨_,rfl⟩
    have hgr:Below w2.heap.size w2 w3:=by rw [← hw3];exact (Below.refl _ _).drew
    replace HC:=ohid (HC.out.later hgr)
    rw [hw3]
    clear hw3 hgr
    have i4:(48:Int) ≤ (cr:Int):=by omega
    have i5:(48:Int) ≤ (lr:Int):=by omega
    have i6:48 ≤ cr:=by omega
    have i7:48 ≤ lr:=by omega
    have i8:¬ cr = 48:=by omega
    iterate 6 (refine sched_take rfl (by rfl) (v:=?_) ?_ ?_;rotate_left;(intro w' hw';clear hw';go_simp;with_reducible rfl);go_simp)
    refine sched_done hKK ?_
    clear hKK
    obtain ⟨lq,hlq⟩:∃ lq,lr - 48 = lq:=⟨_,rfl⟩
    obtain ⟨cq,hcq⟩:∃ cq,cr - 48 = cq:=⟨_,rfl⟩
    try rw [hlq]
    try rw [hcq]
    have HlQ:=ohid (And.intro hlq hcq)
    have j1:lc = lq + 80:=by have:=HlE.out;omega
    have j2:lq ≤ cq:=by omega
    have j3:cq ≤ maxLen:=by have:=HlE.out;omega
    have hB1:Byt w3 (some ⟨cb,co + 32,none⟩) 48 (NS.hB b):=HC.out.byt.sub (n:=32) (q:=80) (by omega) (by omega)
    have hB2:Byt w3 (some ⟨cb,co + 80,none⟩) lq (b.drop 80):=by
     have:=HC.out.byt.sub (n:=80) (q:=lc) (by omega) (Nat.le_refl _)
     rw [show lc - 80 = lq by omega,List.take_of_length_le (by rw [List.length_drop];omega)] at this
     exact this
    have HB1:=ohid hB1
    have HB2:=ohid hB2
    have hB1l:=hB1.1
    clear hB1 hB2 hlq hcq i4 i5 i6 i7 i8
    have j0:lq ≤ 900:=by omega
    clear j1
    go_wp2_with fail
    by_cases he1:m2.err (NS.hB b) = 0
    rotate_left
    ·have HEr:Hid (EE = m2.err (NS.hB b)):=by
      show _ = _
      rw [← hEE.out]
      unfold hE
      rw [if_neg HL.out,if_neg (fun h => h H1.out),Hf1.out,if_pos he1]
     have hnz:Hid (m2.err (NS.hB b) ≠ 0):=he1
     refine (nhear_no gs m2 _ _ _ _ (some ⟨cb,co + 32,none⟩) 48 cr (NS.hB b) w3 HC.out.sd (by omega) HB1.out (fun e => by cases e) (by omega) (by omega) (by unfold maxLen;omega) (fun x o f e => by cases e;exact hcbg) HC.out.tab HC.out.cw.k he1).mono ?_
     clear he1
     rintro e w4 ⟨rfl,hG⟩
     have HG4:Hid (w.grownBy w4 (some gs)):=World.grownBy.trans HC.out.g hG
     clear hG
     go_wp2_with fail
     exact ⟨rfl,Clo.no HEr.out hnz.out HG4.out⟩
    ·refine (nhear_any gs m2 _ _ _ _ (some ⟨cb,co + 32,none⟩) 48 cr (NS.hB b) w3 HC.out.sd (by omega) HB1.out (fun e => by cases e) (by omega) (by omega) (by unfold maxLen;omega) (fun x o f e => by cases e;exact hcbg) HC.out.tab HC.out.cw.k he1).mono ?_
     rintro e w4 ⟨v4,rfl,hG,hS,own4⟩
     have hsl:(m2.text (NS.hB b)).length = 32:=by rw [Htl.out _ he1,hB1l]
     have HE1:=ohid he1
     have HSe:Hid (NS.hS x b = m2.text (NS.hB b)):=by show _ = _;unfold NS.hS;rw [Hf1.out]
     obtain ⟨R,hR⟩:∃ R,m2.text (NS.hB b) = R:=⟨_,rfl⟩
     obtain ⟨m3,hm3⟩:∃ m,m2.opened (NS.hB b) = m:=⟨_,rfl⟩
     rw [hR] at HSe hsl own4
     rw [hm3] at hS
     rw [hsl] at own4
     have Hm3:=ohid hm3
     obtain ⟨vb,vc,rfl,hvb,hs4⟩:=own_slice own4 (by omega)
     obtain ⟨a',c',e',hB4,hc1,hc2,_⟩:=own_parts own4
     cases e'
     have HB4:=ohid hB4
     have hvc:(vc:Int) ≤ 9223372036854775807:=by unfold maxLen at hc2;omega
     replace HC:=ohid (HC.out.step hG hS)
     replace HB2:=ohid (byt_but HB2.out hG (fun x o f e => by cases e;exact hcbg))
     obtain ⟨W5,hst,hS5,hG5⟩:=HC.out.sd.putOther R hsl
     have hat:(Instr.arrayAt 24 (.slice (some ⟨vb,0,none⟩) 32 vc)).run Tryz.prog w4 = .ok (.pointer (some ⟨vb,0,none⟩)) w4:=by simp [Instr.arrayAt,run_underlying Tryz.underlying24]
     have HC5:=ohid (HC.out.step hG5 hS5)
     have HB5:=ohid (byt_but HB2.out hG5 (fun x o f e => by cases e;exact hcbg))
     clear hG hS own4 hs4 hB4 hG5 hS5 HB2 HC hR hm3 he1 HB1 hB1l hvb hc1 hc2
     go_wp2_with (first | refine wpList_load_byt rfl 24 _ rfl vb 0 32 32 5 R rfl HB4.out Tryz.underlying24 (by kernel_rfl) ?_ | fail)
     clear hst hat HB4
     have HC:=HC5
     clear HC5
     refine wp_region_vals 9 (by decide) (by kernel_rfl) (by kernel_rfl) (by kernel_rfl) (by kernel_rfl)
      (fun j x' W' => match j with
       | 3 => x' = .pointer (some ⟨gs,98,none⟩)
       | 4 => x' = .agg ((x.own).map bv).toArray
       | 7 => x' = .pointer (some ⟨gs,162,none⟩)
       | 8 => x' = .agg ((R).map bv).toArray
       | _ => x' = .pointer (some ⟨gs,0,none⟩)) ?_ ?_ ?_
     ·intro j x' W W' h hb
      exact h
     ·intro d v W' i o A hi ho hv hdep hA hb
      have HCd:=(HC.out.later ((Below.refl _ _).drew)).later hb
      have hcs:i = 0 ∨ i = 1 ∨ i = 2 ∨ i = 3 ∨ i = 4 ∨ i = 5 ∨ i = 6 ∨ i = 7 ∨ i = 8:=by omega
      rcases hcs with rfl | rfl | rfl | rfl | rfl | rfl | rfl | rfl | rfl
      ·cases ho
       have h0:A.tmps[0]?.getD undef = .pointer (some ⟨gs,0,none⟩):=slotv ((hA.keep 0 (by kernel_rfl)).trans rfl)
       exact ⟨rfl,oper_val (v:=.pointer (some ⟨gs,0,none⟩)) (w':=W') (by go_simp) ⟨_,rfl,rfl,Below.refl _ _⟩⟩
      ·cases ho
       have h0:A.tmps[0]?.getD undef = .pointer (some ⟨gs,0,none⟩):=slotv ((hA.keep 0 (by kernel_rfl)).trans rfl)
       exact ⟨rfl,oper_val (v:=.pointer (some ⟨gs,0,none⟩)) (w':=W') (by go_simp) ⟨_,rfl,rfl,Below.refl _ _⟩⟩
      ·cases ho
       have h0:A.tmps[32]?.getD undef = .pointer (some ⟨gs,0,none⟩):=slotv ((hA.got hdep 1 32 (by decide) (by kernel_rfl) rfl (of_decide_eq_true (by kernel_rfl))).trans (hv 1 (by decide) (vdone hdep 1 (by kernel_rfl))))
       exact ⟨rfl,oper_val (v:=.pointer (some ⟨gs,0,none⟩)) (w':=W') (by go_simp) ⟨_,rfl,rfl,Below.refl _ _⟩⟩
      ·cases ho
       have h0:A.tmps[33]?.getD undef = .pointer (some ⟨gs,0,none⟩):=slotv ((hA.got hdep 2 33 (by decide) (by kernel_rfl) rfl (of_decide_eq_true (by kernel_rfl))).trans (hv 2 (by decide) (vdone hdep 2 (by kernel_rfl))))
       exact ⟨rfl,oper_val (v:=.pointer (some ⟨gs,98,none⟩)) (w':=W') (by go_simp) ⟨_,rfl,rfl,Below.refl _ _⟩⟩
      ·cases ho
       have h0:A.eval (.tmp 34) = .pointer (some ⟨gs,98,none⟩):=(hA.got hdep 3 34 (by decide) (by kernel_rfl) rfl (of_decide_eq_true (by kernel_rfl))).trans (hv 3 (by decide) (vdone hdep 3 (by kernel_rfl)))
       exact ⟨rfl,oper_val (v:=.agg ((x.own).map bv).toArray) (w':=W') (exec_load_part 24 _ rfl gs 98 h0 ((x.own).map bv) _ HCd.sd.ownC Tryz.underlying24 rfl (keyI HCd.sd.k4.a)) ⟨_,rfl,rfl,Below.refl _ _⟩⟩
      ·cases ho
       have h0:A.tmps[0]?.getD undef = .pointer (some ⟨gs,0,none⟩):=slotv ((hA.keep 0 (by kernel_rfl)).trans rfl)
       exact ⟨rfl,oper_val (v:=.pointer (some ⟨gs,0,none⟩)) (w':=W') (by go_simp) ⟨_,rfl,rfl,Below.refl _ _⟩⟩
      ·cases ho
       have h0:A.tmps[36]?.getD undef = .pointer (some ⟨gs,0,none⟩):=slotv ((hA.got hdep 5 36 (by decide) (by kernel_rfl) rfl (of_decide_eq_true (by kernel_rfl))).trans (hv 5 (by decide) (vdone hdep 5 (by kernel_rfl))))
       exact ⟨rfl,oper_val (v:=.pointer (some ⟨gs,0,none⟩)) (w':=W') (by go_simp) ⟨_,rfl,rfl,Below.refl _ _⟩⟩
      ·cases ho
       have h0:A.tmps[37]?.getD undef = .pointer (some ⟨gs,0,none⟩):=slotv ((hA.got hdep 6 37 (by decide) (by kernel_rfl) rfl (of_decide_eq_true (by kernel_rfl))).trans (hv 6 (by decide) (vdone hdep 6 (by kernel_rfl))))
       exact ⟨rfl,oper_val (v:=.pointer (some ⟨gs,162,none⟩)) (w':=W') (by go_simp) ⟨_,rfl,rfl,Below.refl _ _⟩⟩
      ·cases ho
       have h0:A.eval (.tmp 38) = .pointer (some ⟨gs,162,none⟩):=(hA.got hdep 7 38 (by decide) (by kernel_rfl) rfl (of_decide_eq_true (by kernel_rfl))).trans (hv 7 (by decide) (vdone hdep 7 (by kernel_rfl)))
       exact ⟨rfl,oper_val (v:=.agg ((R).map bv).toArray) (w':=W') (exec_load_part 24 _ rfl gs 162 h0 ((R).map bv) _ HCd.sd.otherC Tryz.underlying24 rfl (keyI HCd.sd.k4.c)) ⟨_,rfl,rfl,Below.refl _ _⟩⟩
     ·intro v2_ W' hv hb
      replace HB5:=ohid (HB5.out.later (drew_below hb))
      have hCd:=(HC.out.later ((Below.refl _ _).drew)).later hb
      have e0:=hv 0 (by decide)
      have e4:=hv 4 (by decide)
      have e8:=hv 8 (by decide)
      have HD:=ohid hCd
      clear hCd hv hb HC
      refine vtail (a':={ tmps:=#[.pointer (some ⟨gs,0,none⟩),.pointer (some ⟨pb,0,none⟩),undef,.slice none 0 0,.slice (some ⟨cb,co + 32 + 48,none⟩) lq cq,.slice (some ⟨cb,co + 32,none⟩) 48 cr,.pointer (some ⟨gs,0,none⟩),.slice (some ⟨cb,co,none⟩) lc cc,.slice (some ⟨cb,co + 32,none⟩) lr cr,.pointer (some ⟨gs,0,none⟩),v1_ 1,v1_ 2,v1_ 3,.agg ((x.own).map bv).toArray,v1_ 5,v1_ 6,v1_ 7,.agg ((NS.hR b).map bv).toArray,u1,.slice (some ⟨cb,co + 32,none⟩) lr cr,.slice (some ⟨cb,co + 32,none⟩) 48 cr,.slice (some ⟨cb,co + 32,none⟩) lr cr,.slice (some ⟨cb,co + 32 + 48,none⟩) lq cq,.pointer (some ⟨gs,0,none⟩),.pointer (some ⟨gs,0,none⟩),.slice (some ⟨cb,co + 32,none⟩) 48 cr,.slice (some ⟨vb,0,none⟩) 32 vc,.pointer (some ⟨vb,0,none⟩),.agg (R.map bv).toArray,.pointer (some ⟨gs,0,none⟩),.pointer (some ⟨gs,162,none⟩),v2_ 0,v2_ 1,v2_ 2,v2_ 3,v2_ 4,v2_ 5,v2_ 6,v2_ 7,v2_ 8,undef,undef,undef,undef],defers:=[] }) rfl (by kernel_rfl) ?_
      rw [e0,e4,e8]
      clear e0 e4 e8
      go_wp2_with fail
      by_cases h0:mK (x.own) (R) = 0
      ·have HEr:Hid (EE = 4):=by
        show _ = _
        rw [← hEE.out]
        unfold hE
        rw [if_neg HL.out,if_neg (fun h => h H1.out),Hf1.out,if_neg (fun h => h HE1.out),HSe.out,if_pos (fun h => h h0)]
       refine (nmix_no gs m3 [] [] [] [] (x.own) (R) W' HD.out.sd.k4.a HD.out.sd.k4.c HD.out.tab h0).mono ?_
       rintro e w2 ⟨rfl,hb2⟩
       have HG2:=ohid (HD.out.later hb2).g
       clear hb2 HD h0
       go_wp2_with fail
       exact ⟨rfl,Clo.no HEr.out (by decide) HG2.out⟩
      ·have H2:=ohid h0
       refine (nmix_ok gs m3 _ _ _ _ (x.own) (R) W' HD.out.sd HD.out.sd.k4.a HD.out.sd.k4.c HD.out.tab HD.out.cw.k h0).mono ?_
       clear h0
       rintro e w2 ⟨⟨u2,rfl⟩,hG,hS⟩
       obtain ⟨m4,hm4⟩:∃ m,m3.key (secB x.own R) = m:=⟨_,rfl⟩
       rw [hm4] at hS
       have hf2:NS.h2 x b = m4:=by unfold NS.h2;rw [Hf1.out,HSe.out,Hm3.out,hm4]
       have Hf2:=ohid hf2
       have hm4n:m4.n = 0:=by rw [← hm4];rfl
       clear hm4 hf2
       replace HB5:=ohid (byt_but HB5.out hG (fun x o f e => by cases e;exact hcbg))
       have HC:=ohid (HD.out.step hG hS)
       clear hG hS HD
       go_wp2_with fail
       by_cases he2:m4.err (b.drop 80) = 0
       rotate_left
       ·have HEr:Hid (EE = m4.err (b.drop 80)):=by
         show _ = _
         rw [← hEE.out]
         unfold hE
         rw [if_neg HL.out,if_neg (fun h => h H1.out),Hf1.out,if_neg (fun h => h HE1.out),HSe.out,if_neg (fun h => h H2.out),Hf2.out]
        have hnz:Hid (m4.err (b.drop 80) ≠ 0):=he2
        refine (nhear_no gs m4 _ _ _ _ (some ⟨cb,co + 80,none⟩) lq cq (b.drop 80) w2 HC.out.sd (by omega) HB5.out (fun e => by cases e) (by omega) (by omega) (by omega) (fun x o f e => by cases e;exact hcbg) HC.out.tab HC.out.cw.k he2).mono ?_
        clear he2
        rintro e w4 ⟨rfl,hG⟩
        have HG4:Hid (w.grownBy w4 (some gs)):=World.grownBy.trans HC.out.g hG
        clear hG
        go_wp2_with fail
        exact ⟨rfl,Clo.no HEr.out hnz.out HG4.out⟩
       ·have HE0:Hid (EE = 0):=by
         show _ = _
         rw [← hEE.out]
         unfold hE
         rw [if_neg HL.out,if_neg (fun h => h H1.out),Hf1.out,if_neg (fun h => h HE1.out),HSe.out,if_neg (fun h => h H2.out),Hf2.out]
         exact he2
        refine (nhear_any gs m4 _ _ _ _ (some ⟨cb,co + 80,none⟩) lq cq (b.drop 80) w2 HC.out.sd (by omega) HB5.out (fun e => by cases e) (by omega) (by omega) (by omega) (fun x o f e => by cases e;exact hcbg) HC.out.tab HC.out.cw.k he2).mono ?_
        clear he2
        rintro e w6 ⟨v6,rfl,hG,hS,own6⟩
        have HOe:Hid (m4.text (b.drop 80) = O):=by
         show _ = _
         rw [← hO.out]
         unfold NS.hearOut
         rw [Hf2.out]
        have HMe:Hid (m4.opened (b.drop 80) = M5):=by show _ = _;rw [← hM5.out,Hf2.out]
        have hsz:=HC.out.g.size
        replace HC:=ohid (HC.out.step hG hS)
        rw [HOe.out] at own6
        have HO6:=ohid (own_lower own6 hsz)
        clear hG hS own6 hsz
        go_wp2_with fail
        go_ret
        exact Clo.ok HE0.out HC.out.g (by rw [← HMe.out,HSe.out];exact HC.out.sd) HO6.out
set_option maxHeartbeats 8000000 in
theorem ndone1_any (gs pb:Nat) (x:NS) (seen:List UInt8) (c:Option Addr) (lc cc:Nat) (b:List UInt8) (w:World) (hC:Cl w w gs pb c lc cc b x.M x.own x.once x.S seen) (hn:x.M.n ≤ 100) (hlc:lc ≤ 900) :
  Calls Tryz.prog 46 #[.pointer (some ⟨gs,0,none⟩),.pointer (some ⟨pb,0,none⟩)] w fun e w' => Clo w w' gs e (dE x b) ((NS.d1 x b).opened (b.drop 32)) x.own x.once x.S (NS.hR b) (NS.doneOut x b):=by
 have HC:=ohid hC
 have hbl:=hC.cw.b.1
 obtain ⟨EE,hEE0⟩:∃ E,dE x b = E:=⟨_,rfl⟩
 have hEE:=ohid hEE0
 obtain ⟨O,hO0⟩:∃ O,NS.doneOut x b = O:=⟨_,rfl⟩
 have hO:=ohid hO0
 obtain ⟨M5,hM50⟩:∃ M,(NS.d1 x b).opened (b.drop 32) = M:=⟨_,rfl⟩
 have hM5:=ohid hM50
 rw [hEE0,hO0,hM50]
 clear hEE0 hO0 hM50 hC
 have hcell:=HC.out.cell
 by_cases hlen:lc < 48
 ·have HEr:Hid (EE = 2):=by
   show _ = _
   rw [← hEE.out]
   unfold dE
   rw [if_pos (by rw [hbl];exact hlen)]
  go_enter Tryz.func46,Tryz.ntmps46
  go_wp2_with fail
  refine (nhearOnce_no gs c lc cc 48 w hlen (by omega)).mono ?_
  rintro e w2 ⟨rfl,rfl⟩
  go_wp2_with fail
  exact ⟨rfl,Clo.no HEr.out (by decide) (grownBy_refl _ _)⟩
 ·obtain ⟨cb,co,rfl,_⟩:=HC.out.byt.at_ 0 (by omega)
  have hll:=HC.out.cw.lcc
  have hcm:=HC.out.cw.ccm
  have hcbg:=HC.out.cw.cg (by omega) cb co none rfl
  have HL:Hid (¬ b.length < 48):=by show ¬ _;rw [hbl];exact hlen
  go_enter Tryz.func46,Tryz.ntmps46
  go_wp2_with fail
  clear hcell
  refine (nhearOnce_any gs _ _ _ _ _ cb co lc cc 48 b w HC.out.sd HC.out.byt (by omega) (by omega) hll hcm hcbg HC.out.tab HC.out.cw.k).mono ?_
  rintro e w1 ⟨rfl,hG,hS⟩
  replace HC:=ohid (HC.out.step hG hS)
  obtain ⟨m1,hm1⟩:∃ m,x.M.hash (b.take 32) = m:=⟨_,rfl⟩
  rw [hm1] at HC
  have Hm1:Hid (x.M.hash (NS.hR b) = m1):=hm1
  have hRR:b.take 32 = NS.hR b:=rfl
  rw [hRR] at HC
  obtain ⟨lr,hlr⟩:∃ lr,lc - 32 = lr:=⟨_,rfl⟩
  obtain ⟨cr,hcr⟩:∃ cr,cc - 32 = cr:=⟨_,rfl⟩
  have i1:16 ≤ lr:=by omega
  have i2:lr ≤ cr:=by omega
  have i3:(cr:Int) ≤ 9223372036854775807:=by unfold maxLen at hcm;omega
  have HlE:=ohid (And.intro hlr hcr)
  rw [hlr,hcr]
  clear hG hS hm1 hRR hlr hcr
  go_wp2_with fail
  refine wp_region_vals 9 (by decide) (by kernel_rfl) (by kernel_rfl) (by kernel_rfl) (by kernel_rfl)
   (fun j x' W' => match j with
    | 3 => x' = .pointer (some ⟨gs,130,none⟩)
    | 4 => x' = .agg ((x.once).map bv).toArray
    | 7 => x' = .pointer (some ⟨gs,194,none⟩)
    | 8 => x' = .agg ((NS.hR b).map bv).toArray
    | _ => x' = .pointer (some ⟨gs,0,none⟩)) ?_ ?_ ?_
  ·intro j x' W W' h hb
   exact h
  ·intro d v W' i o A hi ho hv hdep hA hb
   have HCd:=(HC.out.later ((Below.refl _ _).drew)).later hb
   have hcs:i = 0 ∨ i = 1 ∨ i = 2 ∨ i = 3 ∨ i = 4 ∨ i = 5 ∨ i = 6 ∨ i = 7 ∨ i = 8:=by omega
   rcases hcs with rfl | rfl | rfl | rfl | rfl | rfl | rfl | rfl | rfl
   ·cases ho
    have h0:A.tmps[0]?.getD undef = .pointer (some ⟨gs,0,none⟩):=slotv ((hA.keep 0 (by kernel_rfl)).trans rfl)
    exact ⟨rfl,oper_val (v:=.pointer (some ⟨gs,0,none⟩)) (w':=W') (by go_simp) ⟨_,rfl,rfl,Below.refl _ _⟩⟩
   ·cases ho
    have h0:A.tmps[0]?.getD undef = .pointer (some ⟨gs,0,none⟩):=slotv ((hA.keep 0 (by kernel_rfl)).trans rfl)
    exact ⟨rfl,oper_val (v:=.pointer (some ⟨gs,0,none⟩)) (w':=W') (by go_simp) ⟨_,rfl,rfl,Below.refl _ _⟩⟩
   ·cases ho
    have h0:A.tmps[9]?.getD undef = .pointer (some ⟨gs,0,none⟩):=slotv ((hA.got hdep 1 9 (by decide) (by kernel_rfl) rfl (of_decide_eq_true (by kernel_rfl))).trans (hv 1 (by decide) (vdone hdep 1 (by kernel_rfl))))
    exact ⟨rfl,oper_val (v:=.pointer (some ⟨gs,0,none⟩)) (w':=W') (by go_simp) ⟨_,rfl,rfl,Below.refl _ _⟩⟩
   ·cases ho
    have h0:A.tmps[10]?.getD undef = .pointer (some ⟨gs,0,none⟩):=slotv ((hA.got hdep 2 10 (by decide) (by kernel_rfl) rfl (of_decide_eq_true (by kernel_rfl))).trans (hv 2 (by decide) (vdone hdep 2 (by kernel_rfl))))
    exact ⟨rfl,oper_val (v:=.pointer (some ⟨gs,130,none⟩)) (w':=W') (by go_simp) ⟨_,rfl,rfl,Below.refl _ _⟩⟩
   ·cases ho
    have h0:A.eval (.tmp 11) = .pointer (some ⟨gs,130,none⟩):=(hA.got hdep 3 11 (by decide) (by kernel_rfl) rfl (of_decide_eq_true (by kernel_rfl))).trans (hv 3 (by decide) (vdone hdep 3 (by kernel_rfl)))
    exact ⟨rfl,oper_val (v:=.agg ((x.once).map bv).toArray) (w':=W') (exec_load_part 24 _ rfl gs 130 h0 ((x.once).map bv) _ HCd.sd.onceC Tryz.underlying24 rfl (keyI HCd.sd.k4.b)) ⟨_,rfl,rfl,Below.refl _ _⟩⟩
   ·cases ho
    have h0:A.tmps[0]?.getD undef = .pointer (some ⟨gs,0,none⟩):=slotv ((hA.keep 0 (by kernel_rfl)).trans rfl)
    exact ⟨rfl,oper_val (v:=.pointer (some ⟨gs,0,none⟩)) (w':=W') (by go_simp) ⟨_,rfl,rfl,Below.refl _ _⟩⟩
   ·cases ho
    have h0:A.tmps[13]?.getD undef = .pointer (some ⟨gs,0,none⟩):=slotv ((hA.got hdep 5 13 (by decide) (by kernel_rfl) rfl (of_decide_eq_true (by kernel_rfl))).trans (hv 5 (by decide) (vdone hdep 5 (by kernel_rfl))))
    exact ⟨rfl,oper_val (v:=.pointer (some ⟨gs,0,none⟩)) (w':=W') (by go_simp) ⟨_,rfl,rfl,Below.refl _ _⟩⟩
   ·cases ho
    have h0:A.tmps[14]?.getD undef = .pointer (some ⟨gs,0,none⟩):=slotv ((hA.got hdep 6 14 (by decide) (by kernel_rfl) rfl (of_decide_eq_true (by kernel_rfl))).trans (hv 6 (by decide) (vdone hdep 6 (by kernel_rfl))))
    exact ⟨rfl,oper_val (v:=.pointer (some ⟨gs,194,none⟩)) (w':=W') (by go_simp) ⟨_,rfl,rfl,Below.refl _ _⟩⟩
   ·cases ho
    have h0:A.eval (.tmp 15) = .pointer (some ⟨gs,194,none⟩):=(hA.got hdep 7 15 (by decide) (by kernel_rfl) rfl (of_decide_eq_true (by kernel_rfl))).trans (hv 7 (by decide) (vdone hdep 7 (by kernel_rfl)))
    exact ⟨rfl,oper_val (v:=.agg ((NS.hR b).map bv).toArray) (w':=W') (exec_load_part 24 _ rfl gs 194 h0 ((NS.hR b).map bv) _ HCd.sd.seenC Tryz.underlying24 rfl (keyI HCd.sd.k4.d)) ⟨_,rfl,rfl,Below.refl _ _⟩⟩
  ·intro v1_ W' hv hb
   have hCd:=(HC.out.later ((Below.refl _ _).drew)).later hb
   have e0:=hv 0 (by decide)
   have e4:=hv 4 (by decide)
   have e8:=hv 8 (by decide)
   have HD:=ohid hCd
   clear hCd hv hb HC
   refine vtail (a':={ tmps:=#[.pointer (some ⟨gs,0,none⟩),.pointer (some ⟨pb,0,none⟩),undef,.slice none 0 0,.slice (some ⟨cb,co + 32,none⟩) lr cr,.pointer (some ⟨gs,0,none⟩),.slice (some ⟨cb,co,none⟩) lc cc,.slice (some ⟨cb,co + 32,none⟩) lr cr,v1_ 0,v1_ 1,v1_ 2,v1_ 3,v1_ 4,v1_ 5,v1_ 6,v1_ 7,v1_ 8,undef,undef,undef,undef,undef,undef,undef,undef,undef,undef,undef,undef,undef,undef],defers:=[] }) rfl (by kernel_rfl) ?_
   rw [e0,e4,e8]
   clear e0 e4 e8
   go_wp2_with fail
   by_cases h0:mK (x.once) (NS.hR b) = 0
   ·have HEr:Hid (EE = 4):=by
     show _ = _
     rw [← hEE.out]
     unfold dE
     rw [if_neg HL.out,if_pos (fun h => h.1 h0)]
    refine (nmix_no gs m1 [] [] [] [] (x.once) (NS.hR b) W' HD.out.sd.k4.b HD.out.sd.k4.d HD.out.tab h0).mono ?_
    rintro e w2 ⟨rfl,hb2⟩
    have HG2:=ohid (HD.out.later hb2).g
    clear hb2 HD h0
    go_wp2_with fail
    exact ⟨rfl,Clo.no HEr.out (by decide) HG2.out⟩
   ·have H1:=ohid h0
    refine (nmix_ok gs m1 _ _ _ _ (x.once) (NS.hR b) W' HD.out.sd HD.out.sd.k4.b HD.out.sd.k4.d HD.out.tab HD.out.cw.k h0).mono ?_
    clear h0
    rintro e w2 ⟨⟨u1,rfl⟩,hG,hS⟩
    obtain ⟨m2,hm2⟩:∃ m,m1.key (secB x.once (NS.hR b)) = m:=⟨_,rfl⟩
    rw [hm2] at hS
    have Hm2:=ohid hm2
    clear hm2
    have HC:=ohid (HD.out.step hG hS)
    clear hG hS HD
    go_wp2_with fail
    refine wp_region_vals 9 (by decide) (by kernel_rfl) (by kernel_rfl) (by kernel_rfl) (by kernel_rfl)
     (fun j x' W' => match j with
      | 3 => x' = .pointer (some ⟨gs,98,none⟩)
      | 4 => x' = .agg ((x.own).map bv).toArray
      | 7 => x' = .pointer (some ⟨gs,194,none⟩)
      | 8 => x' = .agg ((NS.hR b).map bv).toArray
      | _ => x' = .pointer (some ⟨gs,0,none⟩)) ?_ ?_ ?_
    ·intro j x' W W' h hb
     exact h
    ·intro d v W' i o A hi ho hv hdep hA hb
     have HCd:=(HC.out.later ((Below.refl _ _).drew)).later hb
     have hcs:i = 0 ∨ i = 1 ∨ i = 2 ∨ i = 3 ∨ i = 4 ∨ i = 5 ∨ i = 6 ∨ i = 7 ∨ i = 8:=by omega
     rcases hcs with rfl | rfl | rfl | rfl | rfl | rfl | rfl | rfl | rfl
     ·cases ho
      have h0:A.tmps[0]?.getD undef = .pointer (some ⟨gs,0,none⟩):=slotv ((hA.keep 0 (by kernel_rfl)).trans rfl)
      exact ⟨rfl,oper_val (v:=.pointer (some ⟨gs,0,none⟩)) (w':=W') (by go_simp) ⟨_,rfl,rfl,Below.refl _ _⟩⟩
     ·cases ho
      have h0:A.tmps[0]?.getD undef = .pointer (some ⟨gs,0,none⟩):=slotv ((hA.keep 0 (by kernel_rfl)).trans rfl)
      exact ⟨rfl,oper_val (v:=.pointer (some ⟨gs,0,none⟩)) (w':=W') (by go_simp) ⟨_,rfl,rfl,Below.refl _ _⟩⟩
     ·cases ho
      have h0:A.tmps[19]?.getD undef = .pointer (some ⟨gs,0,none⟩):=slotv ((hA.got hdep 1 19 (by decide) (by kernel_rfl) rfl (of_decide_eq_true (by kernel_rfl))).trans (hv 1 (by decide) (vdone hdep 1 (by kernel_rfl))))
      exact ⟨rfl,oper_val (v:=.pointer (some ⟨gs,0,none⟩)) (w':=W') (by go_simp) ⟨_,rfl,rfl,Below.refl _ _⟩⟩
     ·cases ho
      have h0:A.tmps[20]?.getD undef = .pointer (some ⟨gs,0,none⟩):=slotv ((hA.got hdep 2 20 (by decide) (by kernel_rfl) rfl (of_decide_eq_true (by kernel_rfl))).trans (hv 2 (by decide) (vdone hdep 2 (by kernel_rfl))))
      exact ⟨rfl,oper_val (v:=.pointer (some ⟨gs,98,none⟩)) (w':=W') (by go_simp) ⟨_,rfl,rfl,Below.refl _ _⟩⟩
     ·cases ho
      have h0:A.eval (.tmp 21) = .pointer (some ⟨gs,98,none⟩):=(hA.got hdep 3 21 (by decide) (by kernel_rfl) rfl (of_decide_eq_true (by kernel_rfl))).trans (hv 3 (by decide) (vdone hdep 3 (by kernel_rfl)))
      exact ⟨rfl,oper_val (v:=.agg ((x.own).map bv).toArray) (w':=W') (exec_load_part 24 _ rfl gs 98 h0 ((x.own).map bv) _ HCd.sd.ownC Tryz.underlying24 rfl (keyI HCd.sd.k4.a)) ⟨_,rfl,rfl,Below.refl _ _⟩⟩
     ·cases ho
      have h0:A.tmps[0]?.getD undef = .pointer (some ⟨gs,0,none⟩):=slotv ((hA.keep 0 (by kernel_rfl)).trans rfl)
      exact ⟨rfl,oper_val (v:=.pointer (some ⟨gs,0,none⟩)) (w':=W') (by go_simp) ⟨_,rfl,rfl,Below.refl _ _⟩⟩
     ·cases ho
      have h0:A.tmps[23]?.getD undef = .pointer (some ⟨gs,0,none⟩):=slotv ((hA.got hdep 5 23 (by decide) (by kernel_rfl) rfl (of_decide_eq_true (by kernel_rfl))).trans (hv 5 (by decide) (vdone hdep 5 (by kernel_rfl))))
      exact ⟨rfl,oper_val (v:=.pointer (some ⟨gs,0,none⟩)) (w':=W') (by go_simp) ⟨_,rfl,rfl,Below.refl _ _⟩⟩
     ·cases ho
      have h0:A.tmps[24]?.getD undef = .pointer (some ⟨gs,0,none⟩):=slotv ((hA.got hdep 6 24 (by decide) (by kernel_rfl) rfl (of_decide_eq_true (by kernel_rfl))).trans (hv 6 (by decide) (vdone hdep 6 (by kernel_rfl))))
      exact ⟨rfl,oper_val (v:=.pointer (some ⟨gs,194,none⟩)) (w':=W') (by go_simp) ⟨_,rfl,rfl,Below.refl _ _⟩⟩
     ·cases ho
      have h0:A.eval (.tmp 25) = .pointer (some ⟨gs,194,none⟩):=(hA.got hdep 7 25 (by decide) (by kernel_rfl) rfl (of_decide_eq_true (by kernel_rfl))).trans (hv 7 (by decide) (vdone hdep 7 (by kernel_rfl)))
      exact ⟨rfl,oper_val (v:=.agg ((NS.hR b).map bv).toArray) (w':=W') (exec_load_part 24 _ rfl gs 194 h0 ((NS.hR b).map bv) _ HCd.sd.seenC Tryz.underlying24 rfl (keyI HCd.sd.k4.d)) ⟨_,rfl,rfl,Below.refl _ _⟩⟩
    ·intro v2_ W' hv hb
     have hCd:=(HC.out.later ((Below.refl _ _).drew)).later hb
     have e0:=hv 0 (by decide)
     have e4:=hv 4 (by decide)
     have e8:=hv 8 (by decide)
     have HD:=ohid hCd
     clear hCd hv hb HC
     refine vtail (a':={ tmps:=#[.pointer (some ⟨gs,0,none⟩),.pointer (some ⟨pb,0,none⟩),undef,.slice none 0 0,.slice (some ⟨cb,co + 32,none⟩) lr cr,.pointer (some ⟨gs,0,none⟩),.slice (some ⟨cb,co,none⟩) lc cc,.slice (some ⟨cb,co + 32,none⟩) lr cr,.pointer (some ⟨gs,0,none⟩),v1_ 1,v1_ 2,v1_ 3,.agg ((x.once).map bv).toArray,v1_ 5,v1_ 6,v1_ 7,.agg ((NS.hR b).map bv).toArray,u1,v2_ 0,v2_ 1,v2_ 2,v2_ 3,v2_ 4,v2_ 5,v2_ 6,v2_ 7,v2_ 8,undef,undef,undef,undef],defers:=[] }) rfl (by kernel_rfl) ?_
     rw [e0,e4,e8]
     clear e0 e4 e8
     go_wp2_with fail
     by_cases h0:mK (x.own) (NS.hR b) = 0
     ·have HEr:Hid (EE = 4):=by
       show _ = _
       rw [← hEE.out]
       unfold dE
       rw [if_neg HL.out,if_pos (fun h => h.2 h0)]
      refine (nmix_no gs m2 [] [] [] [] (x.own) (NS.hR b) W' HD.out.sd.k4.a HD.out.sd.k4.d HD.out.tab h0).mono ?_
      rintro e w2 ⟨rfl,hb2⟩
      have HG2:=ohid (HD.out.later hb2).g
      clear hb2 HD h0
      go_wp2_with fail
      exact ⟨rfl,Clo.no HEr.out (by decide) HG2.out⟩
     ·have H2:=ohid h0
      refine (nmix_ok gs m2 _ _ _ _ (x.own) (NS.hR b) W' HD.out.sd HD.out.sd.k4.a HD.out.sd.k4.d HD.out.tab HD.out.cw.k h0).mono ?_
      clear h0
      rintro e w2 ⟨⟨u2,rfl⟩,hG,hS⟩
      obtain ⟨m4,hm4⟩:∃ m,m2.key (secB x.own (NS.hR b)) = m:=⟨_,rfl⟩
      rw [hm4] at hS
      have hf2:NS.d1 x b = m4:=by unfold NS.d1;rw [Hm1.out,Hm2.out,hm4]
      have Hf2:=ohid hf2
      have hm4n:m4.n = 0:=by rw [← hm4];rfl
      clear hm4 hf2
      have HC:=ohid (HD.out.step hG hS)
      clear hG hS HD
      go_wp2_with fail
      have hB2:Byt w2 (some ⟨cb,co + 32,none⟩) lr (b.drop 32):=by
       have:=HC.out.byt.sub (n:=32) (q:=lc) (by omega) (Nat.le_refl _)
       rw [HlE.out.1,List.take_of_length_le (by rw [List.length_drop];have:=HlE.out.1;omega)] at this
       exact this
      have HB2:=ohid hB2
      have j0:lr ≤ 900:=by have:=HlE.out.1;omega
      have j3:cr ≤ maxLen:=by have:=HlE.out.2;omega
      clear hB2
      by_cases he2:m4.err (b.drop 32) = 0
      rotate_left
      ·have HEr:Hid (EE = m4.err (b.drop 32)):=by
        show _ = _
        rw [← hEE.out]
        unfold dE
        rw [if_neg HL.out,if_neg (fun h => h ⟨H1.out,H2.out⟩),Hf2.out]
       have hnz:Hid (m4.err (b.drop 32) ≠ 0):=he2
       refine (nhear_no gs m4 _ _ _ _ (some ⟨cb,co + 32,none⟩) lr cr (b.drop 32) w2 HC.out.sd (by omega) HB2.out (fun e => by cases e) (by omega) (by omega) (by omega) (fun x o f e => by cases e;exact hcbg) HC.out.tab HC.out.cw.k he2).mono ?_
       clear he2
       rintro e w4 ⟨rfl,hG⟩
       have HG4:Hid (w.grownBy w4 (some gs)):=World.grownBy.trans HC.out.g hG
       clear hG
       go_wp2_with fail
       exact ⟨rfl,Clo.no HEr.out hnz.out HG4.out⟩
      ·have HE0:Hid (EE = 0):=by
        show _ = _
        rw [← hEE.out]
        unfold dE
        rw [if_neg HL.out,if_neg (fun h => h ⟨H1.out,H2.out⟩),Hf2.out]
        exact he2
       refine (nhear_any gs m4 _ _ _ _ (some ⟨cb,co + 32,none⟩) lr cr (b.drop 32) w2 HC.out.sd (by omega) HB2.out (fun e => by cases e) (by omega) (by omega) (by omega) (fun x o f e => by cases e;exact hcbg) HC.out.tab HC.out.cw.k he2).mono ?_
       clear he2
       rintro e w6 ⟨v6,rfl,hG,hS,own6⟩
       have HOe:Hid (m4.text (b.drop 32) = O):=by
        show _ = _
        rw [← hO.out]
        unfold NS.doneOut
        rw [Hf2.out]
       have HMe:Hid (m4.opened (b.drop 32) = M5):=by show _ = _;rw [← hM5.out,Hf2.out]
       have hsz:=HC.out.g.size
       replace HC:=ohid (HC.out.step hG hS)
       rw [HOe.out] at own6
       have HO6:=ohid (own_lower own6 hsz)
       clear hG hS own6 hsz
       go_wp2_with fail
       go_ret
       exact Clo.ok HE0.out HC.out.g (by rw [← HMe.out];exact HC.out.sd) HO6.out
end Go.Proofs.YthmkhdnnljdglaaGreatDoor
