import Derived.Test.YthmkhdnnljdglaaGreatDoorQbi
import Derived.Test.YthmkhdnnljdglaaGreatDoorQaq
namespace Go.Proofs.YthmkhdnnljdglaaGreatDoor
set_option linter.unusedVariables false
set_option maxRecDepth 100000
open Go.RowKit
set_option maxHeartbeats 8000000 in
theorem nfirst1_any (gs pb:Nat) (x:NS) (seen:List UInt8) (c:Option Addr) (lc cc:Nat) (b:List UInt8) (w:World) (hC:Cl w w gs pb c lc cc b x.M x.own x.once x.S seen) (hn:x.M.n ≤ 100) (hlc:lc ≤ 800) :
  Calls Tryz.prog 34 #[.pointer (some ⟨gs,0,none⟩),.pointer (some ⟨pb,0,none⟩)] w fun e w' => Clo w w' gs e (fE x) ((NS.f2 x).sealed b) x.own x.once x.S seen (NS.firstOut x b):=by
 have HC:=ohid hC
 have hbl:=hC.cw.b.1
 obtain ⟨EE,hEE0⟩:∃ E,fE x = E:=⟨_,rfl⟩
 have hEE:=ohid hEE0
 obtain ⟨O,hO0⟩:∃ O,NS.firstOut x b = O:=⟨_,rfl⟩
 have hO:=ohid hO0
 obtain ⟨M5,hM50⟩:∃ M,(NS.f2 x).sealed b = M:=⟨_,rfl⟩
 have hM5:=ohid hM50
 rw [hEE0,hO0,hM50]
 clear hEE0 hO0 hM50 hC
 go_enter Tryz.func34,Tryz.ntmps34
 go_wp2_with fail
 refine (ntellOnce_any gs _ _ _ _ _ w HC.out.sd HC.out.tab HC.out.cw.k).mono ?_
 rintro e w1 ⟨vt,rfl,hG,hS,own1⟩
 have HO1:Hid (w1.ownsRow w.heap.size 5 1 vt 32 ((pubB x.once).map bv)):=own1
 replace HC:=ohid (HC.out.step hG hS)
 obtain ⟨m1,hm1⟩:∃ m,x.M.hash (pubB x.once) = m:=⟨_,rfl⟩
 rw [hm1] at HC
 have Hm1:=ohid hm1
 clear hG hS own1 hm1
 go_wp2_with fail
 refine wp_region_vals 9 (by decide) (by kernel_rfl) (by kernel_rfl) (by kernel_rfl) (by kernel_rfl)
  (fun j x' W' => match j with
   | 3 => x' = .pointer (some ⟨gs,130,none⟩)
   | 4 => x' = .agg ((x.once).map bv).toArray
   | 7 => x' = .pointer (some ⟨gs,162,none⟩)
   | 8 => x' = .agg ((x.S).map bv).toArray
   | _ => x' = .pointer (some ⟨gs,0,none⟩)) ?_ ?_ ?_
 ·intro j x' W W' h hb
  exact h
 ·intro d v W' i o A hi ho hv hdep hA hb
  have HCd:=(HC.out.later ((Below.refl _ _).drew)).later hb
  have hcs:i = 0 ∨ i = 1 ∨ i = 2 ∨ i = 3 ∨ i = 4 ∨ i = 5 ∨ i = 6 ∨ i = 7 ∨ i = 8:=by omega
  rcases hcs with rfl | rfl | rfl | rfl | rfl | rfl | rfl | rfl | rfl
  ·cases ho
   have h0:A.tmps[0]?.getD undef = .pointer (some ⟨gs,0,none⟩):=slotv ((hA.keep 0 (by kernel_rfl)).trans rfl)
   exact ⟨rfl,oper_val (v:=.pointer (some ⟨gs,0,none⟩)) (w':=W') (by go_simp) ⟨_,rfl,rfl,Below.refl _ _⟩⟩
  ·cases ho
   have h0:A.tmps[0]?.getD undef = .pointer (some ⟨gs,0,none⟩):=slotv ((hA.keep 0 (by kernel_rfl)).trans rfl)
   exact ⟨rfl,oper_val (v:=.pointer (some ⟨gs,0,none⟩)) (w':=W') (by go_simp) ⟨_,rfl,rfl,Below.refl _ _⟩⟩
  ·cases ho
   have h0:A.tmps[9]?.getD undef = .pointer (some ⟨gs,0,none⟩):=slotv ((hA.got hdep 1 9 (by decide) (by kernel_rfl) rfl (of_decide_eq_true (by kernel_rfl))).trans (hv 1 (by decide) (vdone hdep 1 (by kernel_rfl))))
   exact ⟨rfl,oper_val (v:=.pointer (some ⟨gs,0,none⟩)) (w':=W') (by go_simp) ⟨_,rfl,rfl,Below.refl _ _⟩⟩
  ·cases ho
   have h0:A.tmps[10]?.getD undef = .pointer (some ⟨gs,0,none⟩):=slotv ((hA.got hdep 2 10 (by decide) (by kernel_rfl) rfl (of_decide_eq_true (by kernel_rfl))).trans (hv 2 (by decide) (vdone hdep 2 (by kernel_rfl))))
   exact ⟨rfl,oper_val (v:=.pointer (some ⟨gs,130,none⟩)) (w':=W') (by go_simp) ⟨_,rfl,rfl,Below.refl _ _⟩⟩
  ·cases ho
   have h0:A.eval (.tmp 11) = .pointer (some ⟨gs,130,none⟩):=(hA.got hdep 3 11 (by decide) (by kernel_rfl) rfl (of_decide_eq_true (by kernel_rfl))).trans (hv 3 (by decide) (vdone hdep 3 (by kernel_rfl)))
   exact ⟨rfl,oper_val (v:=.agg ((x.once).map bv).toArray) (w':=W') (exec_load_part 24 _ rfl gs 130 h0 ((x.once).map bv) _ HCd.sd.onceC Tryz.underlying24 rfl (keyI HCd.sd.k4.b)) ⟨_,rfl,rfl,Below.refl _ _⟩⟩
  ·cases ho
   have h0:A.tmps[0]?.getD undef = .pointer (some ⟨gs,0,none⟩):=slotv ((hA.keep 0 (by kernel_rfl)).trans rfl)
   exact ⟨rfl,oper_val (v:=.pointer (some ⟨gs,0,none⟩)) (w':=W') (by go_simp) ⟨_,rfl,rfl,Below.refl _ _⟩⟩
  ·cases ho
   have h0:A.tmps[13]?.getD undef = .pointer (some ⟨gs,0,none⟩):=slotv ((hA.got hdep 5 13 (by decide) (by kernel_rfl) rfl (of_decide_eq_true (by kernel_rfl))).trans (hv 5 (by decide) (vdone hdep 5 (by kernel_rfl))))
   exact ⟨rfl,oper_val (v:=.pointer (some ⟨gs,0,none⟩)) (w':=W') (by go_simp) ⟨_,rfl,rfl,Below.refl _ _⟩⟩
  ·cases ho
   have h0:A.tmps[14]?.getD undef = .pointer (some ⟨gs,0,none⟩):=slotv ((hA.got hdep 6 14 (by decide) (by kernel_rfl) rfl (of_decide_eq_true (by kernel_rfl))).trans (hv 6 (by decide) (vdone hdep 6 (by kernel_rfl))))
   exact ⟨rfl,oper_val (v:=.pointer (some ⟨gs,162,none⟩)) (w':=W') (by go_simp) ⟨_,rfl,rfl,Below.refl _ _⟩⟩
  ·cases ho
   have h0:A.eval (.tmp 15) = .pointer (some ⟨gs,162,none⟩):=(hA.got hdep 7 15 (by decide) (by kernel_rfl) rfl (of_decide_eq_true (by kernel_rfl))).trans (hv 7 (by decide) (vdone hdep 7 (by kernel_rfl)))
   exact ⟨rfl,oper_val (v:=.agg ((x.S).map bv).toArray) (w':=W') (exec_load_part 24 _ rfl gs 162 h0 ((x.S).map bv) _ HCd.sd.otherC Tryz.underlying24 rfl (keyI HCd.sd.k4.c)) ⟨_,rfl,rfl,Below.refl _ _⟩⟩
 ·intro v1_ W' hv hb
  have hCd:=(HC.out.later ((Below.refl _ _).drew)).later hb
  have hbb:=drew_below hb
  replace HO1:=ohid (own_but HO1.out (grown_below hbb) (fun b' _ e => by cases e))
  clear hbb
  have e0:=hv 0 (by decide)
  have e4:=hv 4 (by decide)
  have e8:=hv 8 (by decide)
  have HD:=ohid hCd
  clear hCd hv hb HC
  refine vtail (a':={ tmps:=#[.pointer (some ⟨gs,0,none⟩),.pointer (some ⟨pb,0,none⟩),undef,.slice none 0 0,vt,undef,.pointer (some ⟨gs,0,none⟩),vt,v1_ 0,v1_ 1,v1_ 2,v1_ 3,v1_ 4,v1_ 5,v1_ 6,v1_ 7,v1_ 8,undef,undef,undef,undef,undef,undef,undef,undef,undef,undef,undef,undef,undef,undef,undef,undef,undef,undef,undef,undef,undef,undef,undef,undef,undef,undef],defers:=[] }) rfl (by kernel_rfl) ?_
  rw [e0,e4,e8]
  clear e0 e4 e8
  go_wp2_with fail
  by_cases h0:mK (x.once) (x.S) = 0
  ·have HEr:Hid (EE = 4):=by
    show _ = _
    rw [← hEE.out]
    unfold fE
    rw [if_neg (fun h => h.1 h0)]
   refine (nmix_no gs m1 [] [] [] [] (x.once) (x.S) W' HD.out.sd.k4.b HD.out.sd.k4.c HD.out.tab h0).mono ?_
   rintro e w2 ⟨rfl,hb2⟩
   have HG2:=ohid (HD.out.later hb2).g
   clear hb2 HD h0
   go_wp2_with fail
   exact ⟨rfl,Clo.no HEr.out (by decide) HG2.out⟩
  ·have H1:=ohid h0
   refine (nmix_ok gs m1 _ _ _ _ (x.once) (x.S) W' HD.out.sd HD.out.sd.k4.b HD.out.sd.k4.c HD.out.tab HD.out.cw.k h0).mono ?_
   clear h0
   rintro e w2 ⟨⟨u1,rfl⟩,hG,hS⟩
   obtain ⟨m2,hm2⟩:∃ m,m1.key (secB x.once x.S) = m:=⟨_,rfl⟩
   rw [hm2] at hS
   have hf1:NS.f1 x = m2:=by unfold NS.f1;rw [Hm1.out,hm2]
   have Hf1:=ohid hf1
   have hm2n:m2.n = 0:=by rw [← hm2];rfl
   have h48:(m2.out (pubB x.own)).length = 48:=by rw [← hm2,NS.key_out_len,pubB_length]
   clear hm2 hf1
   have HC:=ohid (HD.out.step hG hS)
   replace HO1:=ohid (HD.out.ownr hG HO1.out)
   clear hG hS HD
   go_wp2_with (first | (refine wpList_load_part rfl 24 (.tmp 20) rfl gs 98 rfl (x.own.map bv) _ ?_ Tryz.underlying24 rfl (keyI HC.out.sd.k4.a) ?_;exact HC.out.sd.ownC) | fail)
   refine (public_any x.own w2 HC.out.sd.k4.a HC.out.tab.2).mono ?_
   rintro e w3 ⟨rfl,hb⟩
   have hpl:=pubB_length x.own
   obtain ⟨R,hR0⟩:∃ R,pubB x.own = R:=⟨_,rfl⟩
   have hR1:leB 32 (mX (clampK (leN x.own)) 9) = R:=hR0
   rw [hR0] at hpl
   rw [hR1]
   rw [hR0] at h48
   have HR:=ohid hR0
   have hst:=run_store_arr w3 24 R 32 hpl (by kernel_rfl) zero32C (by kernel_rfl)
   simp only [zero32C,List.replicate] at hst
   have hA:=Arr.new w3 24 R
   have hb2:Below w3.heap.size w3 (w3.alloc (.cells (R.map bv).toArray 24)):=(Below.refl _ _).alloc (Nat.le_refl _) _
   obtain ⟨p,hp⟩:∃ p,w3.heap.size = p:=⟨_,rfl⟩
   have hpw:w.heap.size ≤ p:=by rw [← hp];exact (HC.out.later hb).g.size
   obtain ⟨w4,hw4⟩:∃ W,w3.alloc (.cells (R.map bv).toArray 24) = W:=⟨_,rfl⟩
   rw [hw4] at hst hA hb2
   rw [hp] at hst hA
   have HA:=ohid hA
   have hC3:=HC.out.later hb
   replace HO1:=ohid (own_but (own_but HO1.out (show w2.grownBy w3 none from grown_below hb) (fun b' _ e => by cases e)) (show w3.grownBy w4 none from grown_below hb2) (fun b' _ e => by cases e))
   replace HC:=ohid (hC3.later hb2)
   clear hb hb2 hA hC3 hR0 hR1 hw4
   go_wp2_with fail
   clear hst hp
   have hpg:p ≠ gs:=by have:=HC.out.cw.wl;omega
   refine (ntell_any gs m2 _ _ _ _ (some ⟨p,0,none⟩) 32 32 R w4 HC.out.sd (by omega) (HA.out.byt 32 hpl) (fun e => by cases e) (by omega) (by omega) (by unfold maxLen;omega) HC.out.tab HC.out.cw.k).mono ?_
   rintro e w5 ⟨v5,rfl,hG,hS,own5⟩
   have hsz5:=HC.out.g.size
   have hG5:=HC.out.g
   replace HO1:=ohid (HC.out.ownr hG HO1.out)
   replace HC:=ohid (HC.out.step hG hS)
   obtain ⟨m3,hm3⟩:∃ m,m2.sealed R = m:=⟨_,rfl⟩
   rw [hm3] at HC
   have Hm3:=ohid hm3
   obtain ⟨O2,hO2⟩:∃ O,m2.out R = O:=⟨_,rfl⟩
   rw [hO2] at h48 own5
   have HO2e:=ohid hO2
   rw [h48] at own5
   obtain ⟨a5,c5,rfl,hB5,hc5,hm5,hn5⟩:=own_parts own5
   have hap0:=append_own_any w5 w.heap.size vt 32 (pubB x.once) HO1.out a5 48 c5 O2 hB5 hn5 HC.out.g.size (by omega)
   obtain ⟨v6,w6,hap6,own6,hg6⟩:=hap0
   have HO6:=ohid own6
   have HAp6:=ohid hap6
   have hrow:∀ g',vt.ownBlock = some g' → w.heap.size ≤ g':=fun g' h => (own_base HO1.out g' h).1
   replace HC:=ohid (HC.out.row hg6 hrow)
   clear hG hS own5 hm3 hO2 hB5 hc5 hm5 hn5 hap6 own6 hg6 hrow hsz5 hG5 HA
   go_wp2_with (at_builtin;refine wpList_append_run rfl (.tmp 23) (.tmp 26) 22 rfl _ _ _ _ rfl rfl HAp6.out ?_)
   refine wp_region_vals 9 (by decide) (by kernel_rfl) (by kernel_rfl) (by kernel_rfl) (by kernel_rfl)
    (fun j x' W' => match j with
     | 3 => x' = .pointer (some ⟨gs,98,none⟩)
     | 4 => x' = .agg ((x.own).map bv).toArray
     | 7 => x' = .pointer (some ⟨gs,162,none⟩)
     | 8 => x' = .agg ((x.S).map bv).toArray
     | _ => x' = .pointer (some ⟨gs,0,none⟩)) ?_ ?_ ?_
   ·intro j x' W W' h hb
    exact h
   ·intro d v W' i o A hi ho hv hdep hA hb
    have HCd:=(HC.out.later ((Below.refl _ _).drew)).later hb
    have hcs:i = 0 ∨ i = 1 ∨ i = 2 ∨ i = 3 ∨ i = 4 ∨ i = 5 ∨ i = 6 ∨ i = 7 ∨ i = 8:=by omega
    rcases hcs with rfl | rfl | rfl | rfl | rfl | rfl | rfl | rfl | rfl
    ·cases ho
     have h0:A.tmps[0]?.getD undef = .pointer (some ⟨gs,0,none⟩):=slotv ((hA.keep 0 (by kernel_rfl)).trans rfl)
     exact ⟨rfl,oper_val (v:=.pointer (some ⟨gs,0,none⟩)) (w':=W') (by go_simp) ⟨_,rfl,rfl,Below.refl _ _⟩⟩
    ·cases ho
     have h0:A.tmps[0]?.getD undef = .pointer (some ⟨gs,0,none⟩):=slotv ((hA.keep 0 (by kernel_rfl)).trans rfl)
     exact ⟨rfl,oper_val (v:=.pointer (some ⟨gs,0,none⟩)) (w':=W') (by go_simp) ⟨_,rfl,rfl,Below.refl _ _⟩⟩
    ·cases ho
     have h0:A.tmps[29]?.getD undef = .pointer (some ⟨gs,0,none⟩):=slotv ((hA.got hdep 1 29 (by decide) (by kernel_rfl) rfl (of_decide_eq_true (by kernel_rfl))).trans (hv 1 (by decide) (vdone hdep 1 (by kernel_rfl))))
     exact ⟨rfl,oper_val (v:=.pointer (some ⟨gs,0,none⟩)) (w':=W') (by go_simp) ⟨_,rfl,rfl,Below.refl _ _⟩⟩
    ·cases ho
     have h0:A.tmps[30]?.getD undef = .pointer (some ⟨gs,0,none⟩):=slotv ((hA.got hdep 2 30 (by decide) (by kernel_rfl) rfl (of_decide_eq_true (by kernel_rfl))).trans (hv 2 (by decide) (vdone hdep 2 (by kernel_rfl))))
     exact ⟨rfl,oper_val (v:=.pointer (some ⟨gs,98,none⟩)) (w':=W') (by go_simp) ⟨_,rfl,rfl,Below.refl _ _⟩⟩
    ·cases ho
     have h0:A.eval (.tmp 31) = .pointer (some ⟨gs,98,none⟩):=(hA.got hdep 3 31 (by decide) (by kernel_rfl) rfl (of_decide_eq_true (by kernel_rfl))).trans (hv 3 (by decide) (vdone hdep 3 (by kernel_rfl)))
     exact ⟨rfl,oper_val (v:=.agg ((x.own).map bv).toArray) (w':=W') (exec_load_part 24 _ rfl gs 98 h0 ((x.own).map bv) _ HCd.sd.ownC Tryz.underlying24 rfl (keyI HCd.sd.k4.a)) ⟨_,rfl,rfl,Below.refl _ _⟩⟩
    ·cases ho
     have h0:A.tmps[0]?.getD undef = .pointer (some ⟨gs,0,none⟩):=slotv ((hA.keep 0 (by kernel_rfl)).trans rfl)
     exact ⟨rfl,oper_val (v:=.pointer (some ⟨gs,0,none⟩)) (w':=W') (by go_simp) ⟨_,rfl,rfl,Below.refl _ _⟩⟩
    ·cases ho
     have h0:A.tmps[33]?.getD undef = .pointer (some ⟨gs,0,none⟩):=slotv ((hA.got hdep 5 33 (by decide) (by kernel_rfl) rfl (of_decide_eq_true (by kernel_rfl))).trans (hv 5 (by decide) (vdone hdep 5 (by kernel_rfl))))
     exact ⟨rfl,oper_val (v:=.pointer (some ⟨gs,0,none⟩)) (w':=W') (by go_simp) ⟨_,rfl,rfl,Below.refl _ _⟩⟩
    ·cases ho
     have h0:A.tmps[34]?.getD undef = .pointer (some ⟨gs,0,none⟩):=slotv ((hA.got hdep 6 34 (by decide) (by kernel_rfl) rfl (of_decide_eq_true (by kernel_rfl))).trans (hv 6 (by decide) (vdone hdep 6 (by kernel_rfl))))
     exact ⟨rfl,oper_val (v:=.pointer (some ⟨gs,162,none⟩)) (w':=W') (by go_simp) ⟨_,rfl,rfl,Below.refl _ _⟩⟩
    ·cases ho
     have h0:A.eval (.tmp 35) = .pointer (some ⟨gs,162,none⟩):=(hA.got hdep 7 35 (by decide) (by kernel_rfl) rfl (of_decide_eq_true (by kernel_rfl))).trans (hv 7 (by decide) (vdone hdep 7 (by kernel_rfl)))
     exact ⟨rfl,oper_val (v:=.agg ((x.S).map bv).toArray) (w':=W') (exec_load_part 24 _ rfl gs 162 h0 ((x.S).map bv) _ HCd.sd.otherC Tryz.underlying24 rfl (keyI HCd.sd.k4.c)) ⟨_,rfl,rfl,Below.refl _ _⟩⟩
   ·intro v2_ W' hv hb
    have hCd:=(HC.out.later ((Below.refl _ _).drew)).later hb
    have hbb:=drew_below hb
    replace HO6:=ohid (own_but HO6.out (grown_below hbb) (fun b' _ e => by cases e))
    clear hbb
    have e0:=hv 0 (by decide)
    have e4:=hv 4 (by decide)
    have e8:=hv 8 (by decide)
    have HD:=ohid hCd
    clear hCd hv hb HC
    refine vtail (a':={ tmps:=#[.pointer (some ⟨gs,0,none⟩),.pointer (some ⟨pb,0,none⟩),undef,.slice none 0 0,v6,.pointer (some ⟨p,0,none⟩),.pointer (some ⟨gs,0,none⟩),vt,.pointer (some ⟨gs,0,none⟩),v1_ 1,v1_ 2,v1_ 3,.agg ((x.once).map bv).toArray,v1_ 5,v1_ 6,v1_ 7,.agg ((x.S).map bv).toArray,u1,.pointer (some ⟨gs,0,none⟩),.pointer (some ⟨gs,0,none⟩),.pointer (some ⟨gs,98,none⟩),.agg (x.own.map bv).toArray,.agg (R.map bv).toArray,vt,.pointer (some ⟨gs,0,none⟩),.slice (some ⟨p,0,none⟩) 32 32,.slice a5 48 c5,v6,v2_ 0,v2_ 1,v2_ 2,v2_ 3,v2_ 4,v2_ 5,v2_ 6,v2_ 7,v2_ 8,undef,undef,undef,undef,undef,undef],defers:=[] }) rfl (by kernel_rfl) ?_
    rw [e0,e4,e8]
    clear e0 e4 e8
    go_wp2_with fail
    by_cases h0:mK (x.own) (x.S) = 0
    ·have HEr:Hid (EE = 4):=by
      show _ = _
      rw [← hEE.out]
      unfold fE
      rw [if_neg (fun h => h.2 h0)]
     refine (nmix_no gs m3 [] [] [] [] (x.own) (x.S) W' HD.out.sd.k4.a HD.out.sd.k4.c HD.out.tab h0).mono ?_
     rintro e w2 ⟨rfl,hb2⟩
     have HG2:=ohid (HD.out.later hb2).g
     clear hb2 HD h0
     go_wp2_with fail
     exact ⟨rfl,Clo.no HEr.out (by decide) HG2.out⟩
    ·have H2:=ohid h0
     refine (nmix_ok gs m3 _ _ _ _ (x.own) (x.S) W' HD.out.sd HD.out.sd.k4.a HD.out.sd.k4.c HD.out.tab HD.out.cw.k h0).mono ?_
     clear h0
     rintro e w2 ⟨⟨u2,rfl⟩,hG,hS⟩
     obtain ⟨m4,hm4⟩:∃ m,m3.key (secB x.own x.S) = m:=⟨_,rfl⟩
     rw [hm4] at hS
     have hf2:NS.f2 x = m4:=by unfold NS.f2;rw [Hf1.out,HR.out,Hm3.out,hm4]
     have Hf2:=ohid hf2
     have hm4n:m4.n = 0:=by rw [← hm4];rfl
     have hl4:(m4.out b).length = lc + 16:=by rw [← hm4,NS.key_out_len,hbl]
     clear hm4 hf2
     have HC:=ohid (HD.out.step hG hS)
     replace HO6:=ohid (HD.out.ownr hG HO6.out)
     clear hG hS HD
     have hcell:=HC.out.cell
     go_wp2_with fail
     clear hcell
     refine (ntell_any gs m4 _ _ _ _ c lc cc b w2 HC.out.sd (by omega) HC.out.byt HC.out.cw.bn (by omega) HC.out.cw.lcc HC.out.cw.ccm HC.out.tab HC.out.cw.k).mono ?_
     rintro e w7 ⟨v7,rfl,hG,hS,own7⟩
     replace HO6:=ohid (HC.out.ownr hG HO6.out)
     replace HC:=ohid (HC.out.step hG hS)
     obtain ⟨O3,hO3⟩:∃ O,m4.out b = O:=⟨_,rfl⟩
     rw [hO3] at hl4 own7
     rw [hl4] at own7
     obtain ⟨a7,c7,rfl,hB7,hc7,hm7,hn7⟩:=own_parts own7
     obtain ⟨v8,w8,hap8,own8,hg8⟩:=append_own_any w7 w.heap.size v6 (32 + 48) (pubB x.once ++ O2) HO6.out a7 (lc + 16) c7 O3 hB7 hn7 HC.out.g.size (by omega)
     have HAp8:=ohid hap8
     have hrow:∀ g',v6.ownBlock = some g' → w.heap.size ≤ g':=fun g' h => (own_base HO6.out g' h).1
     replace HC:=ohid (HC.out.row hg8 hrow)
     have HO8:Hid (w8.ownsRow w.heap.size 5 1 v8 (32 + 48 + (lc + 16)) (O.map bv)):=by
      rw [← hO.out]
      unfold NS.firstOut
      rw [Hf1.out,HR.out,Hf2.out,HO2e.out,hO3]
      exact own8
     have HMe:Hid (m4.sealed b = M5):=by rw [← hM5.out,Hf2.out];exact rfl
     have HE0:Hid (EE = 0):=by
      rw [← hEE.out]
      show (if _ then _ else _) = _
      rw [if_pos ⟨H1.out,H2.out⟩]
     clear hG hS own7 hO3 hB7 hc7 hm7 hn7 hap8 own8 hg8 hrow
     go_wp2_with (at_builtin;refine wpList_append_run rfl (.tmp 38) (.tmp 41) 22 rfl _ _ _ _ rfl rfl HAp8.out ?_)
     go_ret
     exact Clo.ok HE0.out HC.out.g (by rw [← HMe.out];exact HC.out.sd) HO8.out
set_option maxHeartbeats 8000000 in
theorem nsecond1_any (gs pb:Nat) (x:NS) (seen:List UInt8) (c:Option Addr) (lc cc:Nat) (b:List UInt8) (w:World) (hC:Cl w w gs pb c lc cc b x.M x.own x.once x.S seen) (hn:x.M.n ≤ 100) (hlc:lc ≤ 800) (hse:seen = x.R) :
  Calls Tryz.prog 45 #[.pointer (some ⟨gs,0,none⟩),.pointer (some ⟨pb,0,none⟩)] w fun e w' => Clo w w' gs e (sE x) ((NS.s1 x).sealed b) x.own x.once x.S seen (NS.secondOut x b):=by
 subst hse
 have HC:=ohid hC
 have hbl:=hC.cw.b.1
 obtain ⟨EE,hEE0⟩:∃ E,sE x = E:=⟨_,rfl⟩
 have hEE:=ohid hEE0
 obtain ⟨O,hO0⟩:∃ O,NS.secondOut x b = O:=⟨_,rfl⟩
 have hO:=ohid hO0
 obtain ⟨M5,hM50⟩:∃ M,(NS.s1 x).sealed b = M:=⟨_,rfl⟩
 have hM5:=ohid hM50
 rw [hEE0,hO0,hM50]
 clear hEE0 hO0 hM50 hC
 go_enter Tryz.func45,Tryz.ntmps45
 go_wp2_with fail
 refine (ntellOnce_any gs _ _ _ _ _ w HC.out.sd HC.out.tab HC.out.cw.k).mono ?_
 rintro e w1 ⟨vt,rfl,hG,hS,own1⟩
 have HO1:Hid (w1.ownsRow w.heap.size 5 1 vt 32 ((pubB x.once).map bv)):=own1
 replace HC:=ohid (HC.out.step hG hS)
 obtain ⟨m1,hm1⟩:∃ m,x.M.hash (pubB x.once) = m:=⟨_,rfl⟩
 rw [hm1] at HC
 have Hm1:=ohid hm1
 clear hG hS own1 hm1
 go_wp2_with fail
 refine wp_region_vals 9 (by decide) (by kernel_rfl) (by kernel_rfl) (by kernel_rfl) (by kernel_rfl)
  (fun j x' W' => match j with
   | 3 => x' = .pointer (some ⟨gs,130,none⟩)
   | 4 => x' = .agg ((x.once).map bv).toArray
   | 7 => x' = .pointer (some ⟨gs,194,none⟩)
   | 8 => x' = .agg ((x.R).map bv).toArray
   | _ => x' = .pointer (some ⟨gs,0,none⟩)) ?_ ?_ ?_
 ·intro j x' W W' h hb
  exact h
 ·intro d v W' i o A hi ho hv hdep hA hb
  have HCd:=(HC.out.later ((Below.refl _ _).drew)).later hb
  have hcs:i = 0 ∨ i = 1 ∨ i = 2 ∨ i = 3 ∨ i = 4 ∨ i = 5 ∨ i = 6 ∨ i = 7 ∨ i = 8:=by omega
  rcases hcs with rfl | rfl | rfl | rfl | rfl | rfl | rfl | rfl | rfl
  ·cases ho
   have h0:A.tmps[0]?.getD undef = .pointer (some ⟨gs,0,none⟩):=slotv ((hA.keep 0 (by kernel_rfl)).trans rfl)
   exact ⟨rfl,oper_val (v:=.pointer (some ⟨gs,0,none⟩)) (w':=W') (by go_simp) ⟨_,rfl,rfl,Below.refl _ _⟩⟩
  ·cases ho
   have h0:A.tmps[0]?.getD undef = .pointer (some ⟨gs,0,none⟩):=slotv ((hA.keep 0 (by kernel_rfl)).trans rfl)
   exact ⟨rfl,oper_val (v:=.pointer (some ⟨gs,0,none⟩)) (w':=W') (by go_simp) ⟨_,rfl,rfl,Below.refl _ _⟩⟩
  ·cases ho
   have h0:A.tmps[8]?.getD undef = .pointer (some ⟨gs,0,none⟩):=slotv ((hA.got hdep 1 8 (by decide) (by kernel_rfl) rfl (of_decide_eq_true (by kernel_rfl))).trans (hv 1 (by decide) (vdone hdep 1 (by kernel_rfl))))
   exact ⟨rfl,oper_val (v:=.pointer (some ⟨gs,0,none⟩)) (w':=W') (by go_simp) ⟨_,rfl,rfl,Below.refl _ _⟩⟩
  ·cases ho
   have h0:A.tmps[9]?.getD undef = .pointer (some ⟨gs,0,none⟩):=slotv ((hA.got hdep 2 9 (by decide) (by kernel_rfl) rfl (of_decide_eq_true (by kernel_rfl))).trans (hv 2 (by decide) (vdone hdep 2 (by kernel_rfl))))
   exact ⟨rfl,oper_val (v:=.pointer (some ⟨gs,130,none⟩)) (w':=W') (by go_simp) ⟨_,rfl,rfl,Below.refl _ _⟩⟩
  ·cases ho
   have h0:A.eval (.tmp 10) = .pointer (some ⟨gs,130,none⟩):=(hA.got hdep 3 10 (by decide) (by kernel_rfl) rfl (of_decide_eq_true (by kernel_rfl))).trans (hv 3 (by decide) (vdone hdep 3 (by kernel_rfl)))
   exact ⟨rfl,oper_val (v:=.agg ((x.once).map bv).toArray) (w':=W') (exec_load_part 24 _ rfl gs 130 h0 ((x.once).map bv) _ HCd.sd.onceC Tryz.underlying24 rfl (keyI HCd.sd.k4.b)) ⟨_,rfl,rfl,Below.refl _ _⟩⟩
  ·cases ho
   have h0:A.tmps[0]?.getD undef = .pointer (some ⟨gs,0,none⟩):=slotv ((hA.keep 0 (by kernel_rfl)).trans rfl)
   exact ⟨rfl,oper_val (v:=.pointer (some ⟨gs,0,none⟩)) (w':=W') (by go_simp) ⟨_,rfl,rfl,Below.refl _ _⟩⟩
  ·cases ho
   have h0:A.tmps[12]?.getD undef = .pointer (some ⟨gs,0,none⟩):=slotv ((hA.got hdep 5 12 (by decide) (by kernel_rfl) rfl (of_decide_eq_true (by kernel_rfl))).trans (hv 5 (by decide) (vdone hdep 5 (by kernel_rfl))))
   exact ⟨rfl,oper_val (v:=.pointer (some ⟨gs,0,none⟩)) (w':=W') (by go_simp) ⟨_,rfl,rfl,Below.refl _ _⟩⟩
  ·cases ho
   have h0:A.tmps[13]?.getD undef = .pointer (some ⟨gs,0,none⟩):=slotv ((hA.got hdep 6 13 (by decide) (by kernel_rfl) rfl (of_decide_eq_true (by kernel_rfl))).trans (hv 6 (by decide) (vdone hdep 6 (by kernel_rfl))))
   exact ⟨rfl,oper_val (v:=.pointer (some ⟨gs,194,none⟩)) (w':=W') (by go_simp) ⟨_,rfl,rfl,Below.refl _ _⟩⟩
  ·cases ho
   have h0:A.eval (.tmp 14) = .pointer (some ⟨gs,194,none⟩):=(hA.got hdep 7 14 (by decide) (by kernel_rfl) rfl (of_decide_eq_true (by kernel_rfl))).trans (hv 7 (by decide) (vdone hdep 7 (by kernel_rfl)))
   exact ⟨rfl,oper_val (v:=.agg ((x.R).map bv).toArray) (w':=W') (exec_load_part 24 _ rfl gs 194 h0 ((x.R).map bv) _ HCd.sd.seenC Tryz.underlying24 rfl (keyI HCd.sd.k4.d)) ⟨_,rfl,rfl,Below.refl _ _⟩⟩
 ·intro v1_ W' hv hb
  have hCd:=(HC.out.later ((Below.refl _ _).drew)).later hb
  have hbb:=drew_below hb
  replace HO1:=ohid (own_but HO1.out (grown_below hbb) (fun b' _ e => by cases e))
  clear hbb
  have e0:=hv 0 (by decide)
  have e4:=hv 4 (by decide)
  have e8:=hv 8 (by decide)
  have HD:=ohid hCd
  clear hCd hv hb HC
  refine vtail (a':={ tmps:=#[.pointer (some ⟨gs,0,none⟩),.pointer (some ⟨pb,0,none⟩),undef,.slice none 0 0,vt,.pointer (some ⟨gs,0,none⟩),vt,v1_ 0,v1_ 1,v1_ 2,v1_ 3,v1_ 4,v1_ 5,v1_ 6,v1_ 7,v1_ 8,undef,undef,undef,undef,undef,undef,undef,undef,undef,undef,undef,undef,undef,undef,undef,undef],defers:=[] }) rfl (by kernel_rfl) ?_
  rw [e0,e4,e8]
  clear e0 e4 e8
  go_wp2_with fail
  by_cases h0:mK (x.once) (x.R) = 0
  ·have HEr:Hid (EE = 4):=by
    show _ = _
    rw [← hEE.out]
    unfold sE
    rw [if_neg (fun h => h.1 h0)]
   refine (nmix_no gs m1 [] [] [] [] (x.once) (x.R) W' HD.out.sd.k4.b HD.out.sd.k4.d HD.out.tab h0).mono ?_
   rintro e w2 ⟨rfl,hb2⟩
   have HG2:=ohid (HD.out.later hb2).g
   clear hb2 HD h0
   go_wp2_with fail
   exact ⟨rfl,Clo.no HEr.out (by decide) HG2.out⟩
  ·have H1:=ohid h0
   refine (nmix_ok gs m1 _ _ _ _ (x.once) (x.R) W' HD.out.sd HD.out.sd.k4.b HD.out.sd.k4.d HD.out.tab HD.out.cw.k h0).mono ?_
   clear h0
   rintro e w2 ⟨⟨u1,rfl⟩,hG,hS⟩
   obtain ⟨m2,hm2⟩:∃ m,m1.key (secB x.once x.R) = m:=⟨_,rfl⟩
   rw [hm2] at hS
   have Hm2:=ohid hm2
   clear hm2
   have HC:=ohid (HD.out.step hG hS)
   replace HO1:=ohid (HD.out.ownr hG HO1.out)
   clear hG hS HD
   go_wp2_with fail
   refine wp_region_vals 9 (by decide) (by kernel_rfl) (by kernel_rfl) (by kernel_rfl) (by kernel_rfl)
    (fun j x' W' => match j with
     | 3 => x' = .pointer (some ⟨gs,130,none⟩)
     | 4 => x' = .agg ((x.once).map bv).toArray
     | 7 => x' = .pointer (some ⟨gs,162,none⟩)
     | 8 => x' = .agg ((x.S).map bv).toArray
     | _ => x' = .pointer (some ⟨gs,0,none⟩)) ?_ ?_ ?_
   ·intro j x' W W' h hb
    exact h
   ·intro d v W' i o A hi ho hv hdep hA hb
    have HCd:=(HC.out.later ((Below.refl _ _).drew)).later hb
    have hcs:i = 0 ∨ i = 1 ∨ i = 2 ∨ i = 3 ∨ i = 4 ∨ i = 5 ∨ i = 6 ∨ i = 7 ∨ i = 8:=by omega
    rcases hcs with rfl | rfl | rfl | rfl | rfl | rfl | rfl | rfl | rfl
    ·cases ho
     have h0:A.tmps[0]?.getD undef = .pointer (some ⟨gs,0,none⟩):=slotv ((hA.keep 0 (by kernel_rfl)).trans rfl)
     exact ⟨rfl,oper_val (v:=.pointer (some ⟨gs,0,none⟩)) (w':=W') (by go_simp) ⟨_,rfl,rfl,Below.refl _ _⟩⟩
    ·cases ho
     have h0:A.tmps[0]?.getD undef = .pointer (some ⟨gs,0,none⟩):=slotv ((hA.keep 0 (by kernel_rfl)).trans rfl)
     exact ⟨rfl,oper_val (v:=.pointer (some ⟨gs,0,none⟩)) (w':=W') (by go_simp) ⟨_,rfl,rfl,Below.refl _ _⟩⟩
    ·cases ho
     have h0:A.tmps[18]?.getD undef = .pointer (some ⟨gs,0,none⟩):=slotv ((hA.got hdep 1 18 (by decide) (by kernel_rfl) rfl (of_decide_eq_true (by kernel_rfl))).trans (hv 1 (by decide) (vdone hdep 1 (by kernel_rfl))))
     exact ⟨rfl,oper_val (v:=.pointer (some ⟨gs,0,none⟩)) (w':=W') (by go_simp) ⟨_,rfl,rfl,Below.refl _ _⟩⟩
    ·cases ho
     have h0:A.tmps[19]?.getD undef = .pointer (some ⟨gs,0,none⟩):=slotv ((hA.got hdep 2 19 (by decide) (by kernel_rfl) rfl (of_decide_eq_true (by kernel_rfl))).trans (hv 2 (by decide) (vdone hdep 2 (by kernel_rfl))))
     exact ⟨rfl,oper_val (v:=.pointer (some ⟨gs,130,none⟩)) (w':=W') (by go_simp) ⟨_,rfl,rfl,Below.refl _ _⟩⟩
    ·cases ho
     have h0:A.eval (.tmp 20) = .pointer (some ⟨gs,130,none⟩):=(hA.got hdep 3 20 (by decide) (by kernel_rfl) rfl (of_decide_eq_true (by kernel_rfl))).trans (hv 3 (by decide) (vdone hdep 3 (by kernel_rfl)))
     exact ⟨rfl,oper_val (v:=.agg ((x.once).map bv).toArray) (w':=W') (exec_load_part 24 _ rfl gs 130 h0 ((x.once).map bv) _ HCd.sd.onceC Tryz.underlying24 rfl (keyI HCd.sd.k4.b)) ⟨_,rfl,rfl,Below.refl _ _⟩⟩
    ·cases ho
     have h0:A.tmps[0]?.getD undef = .pointer (some ⟨gs,0,none⟩):=slotv ((hA.keep 0 (by kernel_rfl)).trans rfl)
     exact ⟨rfl,oper_val (v:=.pointer (some ⟨gs,0,none⟩)) (w':=W') (by go_simp) ⟨_,rfl,rfl,Below.refl _ _⟩⟩
    ·cases ho
     have h0:A.tmps[22]?.getD undef = .pointer (some ⟨gs,0,none⟩):=slotv ((hA.got hdep 5 22 (by decide) (by kernel_rfl) rfl (of_decide_eq_true (by kernel_rfl))).trans (hv 5 (by decide) (vdone hdep 5 (by kernel_rfl))))
     exact ⟨rfl,oper_val (v:=.pointer (some ⟨gs,0,none⟩)) (w':=W') (by go_simp) ⟨_,rfl,rfl,Below.refl _ _⟩⟩
    ·cases ho
     have h0:A.tmps[23]?.getD undef = .pointer (some ⟨gs,0,none⟩):=slotv ((hA.got hdep 6 23 (by decide) (by kernel_rfl) rfl (of_decide_eq_true (by kernel_rfl))).trans (hv 6 (by decide) (vdone hdep 6 (by kernel_rfl))))
     exact ⟨rfl,oper_val (v:=.pointer (some ⟨gs,162,none⟩)) (w':=W') (by go_simp) ⟨_,rfl,rfl,Below.refl _ _⟩⟩
    ·cases ho
     have h0:A.eval (.tmp 24) = .pointer (some ⟨gs,162,none⟩):=(hA.got hdep 7 24 (by decide) (by kernel_rfl) rfl (of_decide_eq_true (by kernel_rfl))).trans (hv 7 (by decide) (vdone hdep 7 (by kernel_rfl)))
     exact ⟨rfl,oper_val (v:=.agg ((x.S).map bv).toArray) (w':=W') (exec_load_part 24 _ rfl gs 162 h0 ((x.S).map bv) _ HCd.sd.otherC Tryz.underlying24 rfl (keyI HCd.sd.k4.c)) ⟨_,rfl,rfl,Below.refl _ _⟩⟩
   ·intro v2_ W' hv hb
    have hCd:=(HC.out.later ((Below.refl _ _).drew)).later hb
    have hbb:=drew_below hb
    replace HO1:=ohid (own_but HO1.out (grown_below hbb) (fun b' _ e => by cases e))
    clear hbb
    have e0:=hv 0 (by decide)
    have e4:=hv 4 (by decide)
    have e8:=hv 8 (by decide)
    have HD:=ohid hCd
    clear hCd hv hb HC
    refine vtail (a':={ tmps:=#[.pointer (some ⟨gs,0,none⟩),.pointer (some ⟨pb,0,none⟩),undef,.slice none 0 0,vt,.pointer (some ⟨gs,0,none⟩),vt,.pointer (some ⟨gs,0,none⟩),v1_ 1,v1_ 2,v1_ 3,.agg ((x.once).map bv).toArray,v1_ 5,v1_ 6,v1_ 7,.agg ((x.R).map bv).toArray,u1,v2_ 0,v2_ 1,v2_ 2,v2_ 3,v2_ 4,v2_ 5,v2_ 6,v2_ 7,v2_ 8,undef,undef,undef,undef,undef,undef],defers:=[] }) rfl (by kernel_rfl) ?_
    rw [e0,e4,e8]
    clear e0 e4 e8
    go_wp2_with fail
    by_cases h0:mK (x.once) (x.S) = 0
    ·have HEr:Hid (EE = 4):=by
      show _ = _
      rw [← hEE.out]
      unfold sE
      rw [if_neg (fun h => h.2 h0)]
     refine (nmix_no gs m2 [] [] [] [] (x.once) (x.S) W' HD.out.sd.k4.b HD.out.sd.k4.c HD.out.tab h0).mono ?_
     rintro e w2 ⟨rfl,hb2⟩
     have HG2:=ohid (HD.out.later hb2).g
     clear hb2 HD h0
     go_wp2_with fail
     exact ⟨rfl,Clo.no HEr.out (by decide) HG2.out⟩
    ·have H2:=ohid h0
     refine (nmix_ok gs m2 _ _ _ _ (x.once) (x.S) W' HD.out.sd HD.out.sd.k4.b HD.out.sd.k4.c HD.out.tab HD.out.cw.k h0).mono ?_
     clear h0
     rintro e w2 ⟨⟨u2,rfl⟩,hG,hS⟩
     obtain ⟨m4,hm4⟩:∃ m,m2.key (secB x.once x.S) = m:=⟨_,rfl⟩
     rw [hm4] at hS
     have hf2:NS.s1 x = m4:=by unfold NS.s1;rw [Hm1.out,Hm2.out,hm4]
     have Hf2:=ohid hf2
     have hm4n:m4.n = 0:=by rw [← hm4];rfl
     have hl4:(m4.out b).length = lc + 16:=by rw [← hm4,NS.key_out_len,hbl]
     clear hm4 hf2
     have HC:=ohid (HD.out.step hG hS)
     replace HO1:=ohid (HD.out.ownr hG HO1.out)
     clear hG hS HD
     have hcell:=HC.out.cell
     go_wp2_with fail
     clear hcell
     refine (ntell_any gs m4 _ _ _ _ c lc cc b w2 HC.out.sd (by omega) HC.out.byt HC.out.cw.bn (by omega) HC.out.cw.lcc HC.out.cw.ccm HC.out.tab HC.out.cw.k).mono ?_
     rintro e w7 ⟨v7,rfl,hG,hS,own7⟩
     replace HO1:=ohid (HC.out.ownr hG HO1.out)
     replace HC:=ohid (HC.out.step hG hS)
     obtain ⟨O3,hO3⟩:∃ O,m4.out b = O:=⟨_,rfl⟩
     rw [hO3] at hl4 own7
     rw [hl4] at own7
     obtain ⟨a7,c7,rfl,hB7,hc7,hm7,hn7⟩:=own_parts own7
     obtain ⟨v8,w8,hap8,own8,hg8⟩:=append_own_any w7 w.heap.size vt 32 (pubB x.once) HO1.out a7 (lc + 16) c7 O3 hB7 hn7 HC.out.g.size (by omega)
     have HAp8:=ohid hap8
     have hrow:∀ g',vt.ownBlock = some g' → w.heap.size ≤ g':=fun g' h => (own_base HO1.out g' h).1
     replace HC:=ohid (HC.out.row hg8 hrow)
     have HO8:Hid (w8.ownsRow w.heap.size 5 1 v8 (32 + (lc + 16)) (O.map bv)):=by
      rw [← hO.out]
      unfold NS.secondOut
      rw [Hf2.out,hO3]
      exact own8
     have HMe:Hid (m4.sealed b = M5):=by rw [← hM5.out,Hf2.out];exact rfl
     have HE0:Hid (EE = 0):=by
      rw [← hEE.out]
      show (if _ then _ else _) = _
      rw [if_pos ⟨H1.out,H2.out⟩]
     clear hG hS own7 hO3 hB7 hc7 hm7 hn7 hap8 own8 hg8 hrow
     go_wp2_with (at_builtin;refine wpList_append_run rfl (.tmp 27) (.tmp 30) 22 rfl _ _ _ _ rfl rfl HAp8.out ?_)
     go_ret
     exact Clo.ok HE0.out HC.out.g (by rw [← HMe.out];exact HC.out.sd) HO8.out
end Go.Proofs.YthmkhdnnljdglaaGreatDoor
