import Derived.Test.YthmkhdnnljdglaaGreatDoorQah
import Derived.Recover
import Derived.Test.YthmkhdnnljdglaaGreatDoorQbj
import Derived.Test.YthmkhdnnljdglaaGreatDoorQbk
namespace Go.Proofs.YthmkhdnnljdglaaGreatDoor
set_option linter.unusedVariables false
set_option maxRecDepth 100000
open Go.RowKit
theorem nassert (er:Nat) (w:World):(Instr.typeAssert (.iface 36 (.int .i64 (er:Int))) 20 36 true).run Tryz.prog w = .ok (.tuple #[.int .i64 (er:Int),.bool true]) w:=by
 have h:Tryz.prog.underlying 36 = some (.int .i64):=Tryz.underlying36
 simp [Instr.typeAssert,run_underlying Tryz.underlying36]
set_option maxHeartbeats 1000000 in
theorem ncatch_no (p ph gh er:Nat) (older:List PanicEntry) (w:World) (h1:w.cell? ⟨p,0,none⟩ = some (.int .i64 0)) (f1:w.frozen? ⟨p,0,none⟩ = false) (h2:w.cell? ⟨ph,0,none⟩ = some (.pointer (some ⟨gh,0,none⟩))) (hne:ph ≠ p) (hgp:gh ≠ p) (nx:Int) (h3:w.cell? ⟨gh,226,none⟩ = some (.int .i64 nx)) (f3:w.frozen? ⟨gh,226,none⟩ = false) :
  CallsD Tryz.prog 66 #[.pointer (some ⟨p,0,none⟩),.pointer (some ⟨ph,0,none⟩)] (.panicking ({ v:=.iface 36 (.int .i64 (er:Int)),recovered:=false } :: older)) w fun e u' w' =>
   e = .returned (.tuple #[]) ∧ u' = .panicking ({ v:=.iface 36 (.int .i64 (er:Int)),recovered:=true } :: older) ∧ w' = (w.setCell ⟨p,0,none⟩ (.int .i64 (er:Int))).setCell ⟨gh,226,none⟩ (.int .i64 0):=by
 have hta:=nassert er
 refine callsD_of_wpS Tryz.func66 rfl fun c₀ cs hu => ?_
 apply wpS_seq
 apply wpS_seq
 apply wpS_region
 simp [wpOpsS,go_sem,recoverD,hu,Tryz.ntmps66,Exit.thenS]
 refine wpS_of_wp ?_
 have ht:(#[Value.pointer (some ⟨p,0,none⟩),Value.pointer (some ⟨ph,0,none⟩)] ++ (Array.replicate 12 undef).setIfInBounds 3 (Value.iface 36 (Value.int IntKind.i64 (er:Int)))) = #[Value.pointer (some ⟨p,0,none⟩),Value.pointer (some ⟨ph,0,none⟩),undef,undef,undef,Value.iface 36 (Value.int IntKind.i64 (er:Int)),undef,undef,undef,undef,undef,undef,undef,undef]:=rfl
 rw [ht]
 go_wp2
 simp only [Exit.thenS]
 refine wpS_of_wp ?_
 go_wp2
 simp [bodyPostS,results,Tryz.results66]
theorem ncatch_ok (p ph:Nat) (w:World):CallsD Tryz.prog 66 #[.pointer (some ⟨p,0,none⟩),.pointer (some ⟨ph,0,none⟩)] .returning w fun e u' w' => e = .returned (.tuple #[]) ∧ u' = .returning ∧ w' = w:=by
 refine callsD_of_wpS Tryz.func66 rfl fun c₀ cs hu => ?_
 apply wpS_seq
 apply wpS_seq
 apply wpS_region
 simp [wpOpsS,go_sem,recoverD,hu,Tryz.ntmps66,Exit.thenS]
 refine wpS_of_wp ?_
 have ht:(#[Value.pointer (some ⟨p,0,none⟩),Value.pointer (some ⟨ph,0,none⟩)] ++ (Array.replicate 12 undef).setIfInBounds 3 Value.nilIface) = #[Value.pointer (some ⟨p,0,none⟩),Value.pointer (some ⟨ph,0,none⟩),undef,undef,undef,Value.nilIface,undef,undef,undef,undef,undef,undef,undef,undef]:=rfl
 rw [ht]
 go_wp2
 simp [Exit.thenS,bodyPostS,results,Tryz.results66]
 cases c₀
 simp_all
theorem HaS.fail {w W:World} {gh:Nat} {x:NS} {seen:List UInt8} (h:HaS w gh x seen) (hb:Below w.heap.size w W):HaIs (W.setCell ⟨gh,226,none⟩ (.int .i64 0)) gh x.fails ∧ w.grownBy (W.setCell ⟨gh,226,none⟩ (.int .i64 0)) (some gh):=
 ⟨⟨seen,(h.sd.later hb).setNext 0,.inr (.inr (.inr rfl)),(fun _ e => absurd (show (9:Nat) = 1 from e) (by decide)),h.n⟩,World.grownBy.trans (But.below gh hb) (But.setCell W gh 226 _)⟩
theorem vw_cell {w W:World} {L:List (Nat × TypeId × List Value)} (h:Vw w W L) {g:Nat} {t:TypeId} {v:Value} (hp:(g,t,[v]) ∈ L):W.cell? ⟨g,0,none⟩ = some v ∧ W.frozen? ⟨g,0,none⟩ = false:=by
 have:=h.cell _ hp
 exact ⟨by rw [cell_of_row W g 0 _ _ (0,0) this];rfl,frozen_of_row W g 0 _ _ this⟩
def tkL (w:World) (gh:Nat) (e:Int):List (Nat × TypeId × List Value):=[(w.heap.size,28,[.pointer (some ⟨gh,0,none⟩)]),(w.heap.size + 1,36,[.int .i64 e])]
theorem tk_new (w:World) (gh:Nat):Vw w ((w.alloc (.cells #[.pointer (some ⟨gh,0,none⟩)] 28)).alloc (.cells #[.int .i64 0] 36)) (tkL w gh 0):=by
 have h:=((Vw.none w).alloc 28 [.pointer (some ⟨gh,0,none⟩)]).alloc 36 [.int .i64 0]
 simp only [World.size_alloc] at h
 exact h
theorem tk_box {w W:World} {gh:Nat} {e:Int} (h:Vw w W (tkL w gh e)):W.cell? ⟨w.heap.size,0,none⟩ = some (.pointer (some ⟨gh,0,none⟩)) ∧ W.frozen? ⟨w.heap.size,0,none⟩ = false:=vw_cell h (t:=28) (by unfold tkL;exact List.mem_cons_self ..)
theorem tk_err {w W:World} {gh:Nat} {e:Int} (h:Vw w W (tkL w gh e)):W.cell? ⟨w.heap.size + 1,0,none⟩ = some (.int .i64 e) ∧ W.frozen? ⟨w.heap.size + 1,0,none⟩ = false:=vw_cell h (t:=36) (by unfold tkL;exact List.mem_cons_of_mem _ (List.mem_cons_self ..))
theorem tk_set {w W:World} {gh:Nat} {e:Int} (h:Vw w W (tkL w gh e)) (k:Int):Vw w (W.setCell ⟨w.heap.size + 1,0,none⟩ (.int .i64 k)) (tkL w gh k):=
 h.setCell 1 (w.heap.size + 1) 36 [.int .i64 e] 0 (.int .i64 k) rfl
theorem tk_but {w W W':World} {gh:Nat} {e:Int} (h:Vw w W (tkL w gh e)) (hG:W.grownBy W' (some gh)) (hg:gh < w.heap.size):W'.cell? ⟨w.heap.size,0,none⟩ = some (.pointer (some ⟨gh,0,none⟩)) ∧ W'.cell? ⟨w.heap.size + 1,0,none⟩ = some (.int .i64 e) ∧ W'.frozen? ⟨w.heap.size + 1,0,none⟩ = false:=by
 have h1:=h.cell (w.heap.size,28,[.pointer (some ⟨gh,0,none⟩)]) (List.mem_cons_self ..)
 have h2:=h.cell (w.heap.size + 1,36,[.int .i64 e]) (List.mem_cons_of_mem _ (List.mem_cons_self ..))
 have l1:w.heap.size < W.heap.size:=(Array.getElem?_eq_some_iff.1 h1).1
 have l2:w.heap.size + 1 < W.heap.size:=(Array.getElem?_eq_some_iff.1 h2).1
 have e1:=(hG.block _ l1 (fun e => by cases e;omega)).trans h1
 have e2:=(hG.block _ l2 (fun e => by cases e;omega)).trans h2
 exact ⟨by rw [cell_of_row W' _ 0 _ _ (0,0) e1];rfl,by rw [cell_of_row W' _ 0 _ _ (0,0) e2];rfl,frozen_of_row W' _ 0 _ _ e2⟩
def HdE (w w':World) (gh:Nat) (e:Ending) (er:Nat) (y:NS) (out:List UInt8):Prop:=
 ∃ v q,e = .returned (.tuple #[v,.int .i64 (er:Int)]) ∧ w.grownBy w' (some gh) ∧ HaIs w' gh y ∧ w'.ownsRow w.heap.size 5 1 v q ((if er = 0 then out else []).map bv)
def TkE (w w':World) (gh:Nat) (x:NS) (e:Ending) (er nx:Nat) (M:MS) (own once other seen out:List UInt8):Prop:=
 ∃ v q,e = .returned (.tuple #[v,.int .i64 (er:Int)]) ∧ w.grownBy w' (some gh) ∧ w'.ownsRow w.heap.size 5 1 v q ((if er = 0 then out else []).map bv) ∧
  ((er = 0 ∧ SdT w' gh 71 [.int .i64 (nx:Int)] M own once other seen) ∨ (er ≠ 0 ∧ HaIs w' gh x.fails))
set_option maxHeartbeats 4000000 in
theorem ntake_state (gh:Nat) (x:NS) (due:Nat) (fv:Value) (w:World) (hH:HaIs w gh x) (hc:x.code ≠ due) :
  Calls Tryz.prog 33 #[.pointer (some ⟨gh,0,none⟩),.int .i64 (due:Int),fv] w fun e w' => e = .returned (.tuple #[.slice none 0 0,.int .i64 10]) ∧ w.grownBy w' (some gh) ∧ HaIs w' gh x.fails:=by
 obtain ⟨seen,hS⟩:=hH
 have hgl:=hS.sd.lt
 have HS:=ohid hS
 have HV0:=ohid (tk_new w gh)
 have hci:¬ (x.code:Int) = (due:Int):=by omega
 have hmf:∀ (fn:Fn) (first cap:Array Value) (w:World),(Instr.makeFunc fn first cap).run Tryz.prog w = .ok (.func fn first cap) w:=fun _ _ _ _ => rfl
 clear hS hc
 go_enter_defers Tryz.func33,Tryz.ntmps33
 refine wp_seq (wp_cut (fun a W => a = { tmps:=#[.pointer (some ⟨gh,0,none⟩),.int .i64 (due:Int),fv,.pointer (some ⟨w.heap.size,0,none⟩),undef,undef,.slice none 0 0,.pointer (some ⟨w.heap.size + 1,0,none⟩),undef,undef,undef,undef,undef,undef,undef,undef,undef,undef,undef,undef,undef,undef,undef,undef,undef,undef,undef,undef,undef,undef,undef,undef,undef],defers:=[] } ∧ Hid (Vw w W (tkL w gh 0))) ?_ ?_)
 ·go_wp2
  all_goals first | exact HV0 | exact ⟨rfl,HV0⟩ | exact ⟨rfl,rfl,HV0⟩
 ·rintro a W0 ⟨rfl,HV⟩
  simp only [Exit.then]
  obtain ⟨q1,f1⟩:=tk_box HV.out
  obtain ⟨q2,f2⟩:=tk_err HV.out
  have hS0:=HS.out.sd.later HV.out.bel
  have q3:=hS0.next
  have f3:=hS0.frozen 226
  have HF:=ohid (HS.out.fail (tk_set HV.out 10).bel)
  have HC2:Hid (((W0.setCell ⟨w.heap.size + 1,0,none⟩ (.int .i64 10)).setCell ⟨gh,226,none⟩ (.int .i64 0)).cell? ⟨w.heap.size + 1,0,none⟩ = some (.int .i64 10)):=(tk_but (tk_set HV.out 10) (But.setCell _ gh 226 _) hgl).2.1
  clear hS0 HV0
  go_wp2
  refine leaves_cons (f:=66) (args:=#[.pointer (some ⟨w.heap.size + 1,0,none⟩),.pointer (some ⟨w.heap.size,0,none⟩)]) (by simp) (by simp [go_sem]) ?_
  refine (ncatch_no (w.heap.size + 1) w.heap.size gh 10 [] W0 q2 f2 q1 (by omega) (by omega) (x.code:Int) q3 f3).mono ?_
  rintro e u' w'' ⟨rfl,rfl,rfl⟩
  have hc2:=HC2.out
  have hh:=HF.out
  have hII:(Int.ofNat 10) = (10:Int):=rfl
  obtain ⟨Z,hZ⟩:∃ Z,(W0.setCell ⟨w.heap.size + 1,0,none⟩ (.int .i64 10)).setCell ⟨gh,226,none⟩ (.int .i64 0) = Z:=⟨_,rfl⟩
  rw [hZ] at hc2 hh
  have hZ':(W0.setCell ⟨w.heap.size + 1,0,none⟩ (.int .i64 ((10:Nat):Int))).setCell ⟨gh,226,none⟩ (.int .i64 0) = Z:=hZ
  rw [hZ']
  clear hZ hZ' HF HC2 HV q1 q2 q3 f1 f2 f3
  simp [Leaves,settle,results,Tryz.results33,go_sem,hc2]
  exact ⟨hh.2,hh.1⟩
theorem key_opened_n (m:MS) (u b:List UInt8):((m.key u).opened b).n ≤ 100:=by
 show oNum _ true 0 _ b ≤ 100
 unfold oNum
 rw [if_neg (by decide),if_neg (by decide)]
 split <;> omega
theorem cell_set_same {Z:World} {p:Nat} {v u:Value} (h:Z.cell? ⟨p,0,none⟩ = some u):(Z.setCell ⟨p,0,none⟩ v).cell? ⟨p,0,none⟩ = some v:=by
 simp [go_sem,h]
set_option maxHeartbeats 8000000 in
theorem ntake_first (gh pb:Nat) (x:NS) (seen:List UInt8) (c:Option Addr) (lc cc:Nat) (b:List UInt8) (w:World) (hH:HaS w gh x seen) (hd:x.code = 1) (hp:w.heap[pb]? = some (.cells #[.slice c lc cc] 22 (0,0))) (hB:Byt w c lc b) (hBn:c = none → cc = 0) (hlc:lc ≤ 800) (hcc:lc ≤ cc) (hccm:cc ≤ maxLen) (hcw:0 < lc → ∀ y o f,c = some ⟨y,o,f⟩ → y < w.heap.size) (hT:TT w) (hg:Gok gh) :
  Calls Tryz.prog 33 #[.pointer (some ⟨gh,0,none⟩),.int .i64 1,.func (.func 34) #[] #[.pointer (some ⟨pb,0,none⟩)]] w fun e w' => TkE w w' gh x e (fE x) 2 ((NS.f2 x).sealed b) x.own x.once x.S seen (NS.firstOut x b):=by
 have hgl:=hH.sd.lt
 have hpl:pb < w.heap.size:=(Array.getElem?_eq_some_iff.1 hp).1
 have HS:=ohid hH
 have HV0:=ohid (tk_new w gh)
 have HP:=ohid hp
 have HB:=ohid hB
 have HT:=ohid hT
 have HG:=ohid hg
 have HCw:=ohid hcw
 have hci:(x.code:Int) = 1:=by omega
 have hmf:∀ (fn:Fn) (first cap:Array Value) (w:World),(Instr.makeFunc fn first cap).run Tryz.prog w = .ok (.func fn first cap) w:=fun _ _ _ _ => rfl
 clear hH hp hB hT hg hcw
 go_enter_defers Tryz.func33,Tryz.ntmps33
 refine wp_seq (wp_cut (fun a W => a = { tmps:=#[.pointer (some ⟨gh,0,none⟩),.int .i64 1,.func (.func 34) #[] #[.pointer (some ⟨pb,0,none⟩)],.pointer (some ⟨w.heap.size,0,none⟩),undef,undef,.slice none 0 0,.pointer (some ⟨w.heap.size + 1,0,none⟩),undef,undef,undef,undef,undef,undef,undef,undef,undef,undef,undef,undef,undef,undef,undef,undef,undef,undef,undef,undef,undef,undef,undef,undef,undef],defers:=[] } ∧ Hid (Vw w W (tkL w gh 0))) ?_ ?_)
 ·go_wp2
  all_goals first | exact HV0 | exact ⟨rfl,HV0⟩ | exact ⟨rfl,rfl,HV0⟩
 ·rintro a W0 ⟨rfl,HV⟩
  simp only [Exit.then]
  obtain ⟨q1,f1⟩:=tk_box HV.out
  have hS0:=HS.out.sd.later HV.out.bel
  have q3:=hS0.next
  have HS0:=ohid hS0
  obtain ⟨L,hL⟩:∃ L,SV x.M x.own x.once x.S seen = L:=⟨_,rfl⟩
  have hlen:L.length = 226:=by rw [← hL];exact hS0.slen
  have HI:Hid ((Tryz.prog.info? 67).map (·.size) = some L.length):=by show _ = _;rw [← hL];exact sd_info hS0.slen
  have HL:Hid (∀ j v,L[j]? = some v → W0.cell? ⟨gh,0 + j,none⟩ = some v):=by rw [← hL];exact hS0.allC
  have hone:∀ v ∈ L,v.oneCell' = true:=by rw [← hL];exact SV_one _ _ _ _ _
  have hst:=run_store_new W0 67 L 226 hlen (by kernel_rfl) hone sdZ.toArray (by simpa using sdZ_length)
  have hbX:Below W0.heap.size W0 (W0.alloc (.cells L.toArray 67)):=(Below.refl _ _).alloc (Nat.le_refl _) _
  have hrowX:=heap_alloc_new W0 (.cells L.toArray 67)
  obtain ⟨X,hX⟩:∃ X,W0.alloc (.cells L.toArray 67) = X:=⟨_,rfl⟩
  rw [hX] at hst hbX hrowX
  have hsX:X.heap.size = W0.heap.size + 1:=by rw [← hX];simp
  have hs0:=HV.out.bel.size
  obtain ⟨gs,hgs⟩:∃ gs,W0.heap.size = gs:=⟨_,rfl⟩
  rw [hgs] at hst hrowX hsX hs0
  have hSX:Sd X gs x.M x.own x.once x.S seen:=SdT.of (by rw [List.append_nil,hL];exact hrowX) hS0.mi.c hS0.mi.h hS0.mi.k hS0.k4
  have hwX:Below w.heap.size w X:=HV.out.bel.trans (hbX.mono HV.out.bel.size)
  have HVX:=ohid (HV.out.later hbX)
  have hl0:=(HV.out.vr.lt (w.heap.size + 1,36,[.int .i64 0]) (List.mem_cons_of_mem _ (List.mem_cons_self ..)))
  have hsw:w.heap.size + 1 < gs:=by rw [← hgs];exact hl0
  have HCl:Hid (Cl X X gs pb c lc cc b x.M x.own x.once x.S seen):=⟨⟨(hwX.block pb hpl).trans HP.out,HB.out.later hwX,hBn,hcc,hccm,(by omega),(fun h0 y o f e => by have:=HCw.out h0 y o f e;omega),HT.out.later hwX,HT.out.new (by omega),(by omega)⟩,hSX,grownBy_refl _ _⟩
  have HWX:=ohid hwX
  have hgr0:=hS0
  clear hS0 HV0 hgr0 hSX hbX hrowX hone hX hL HV hs0 hl0 hwX HP HB HS0 HCw
  go_wp2_with (first | (refine wpList_load_part rfl 67 (.tmp 19) rfl gh 0 rfl L _ ?_ Tryz.underlying67 rfl HI.out ?_;exact HL.out) | refine wpList_alloc_sd rfl rfl ?_ | fail)
  clear hst q1 f1 q3 HI HL hgs
  refine (nfirst1_any gs pb x seen c lc cc b X HCl.out HS.out.n hlc).mono ?_
  intro e w5 hClo
  have HQ:=ohid hClo
  clear hClo
  have HSX:=ohid (HS.out.sd.later HWX.out)
  rcases HQ.out with ⟨h0,v,q,rfl,hG5,hS5,own5⟩ | ⟨h0,rfl,hG5⟩
  ·clear HQ HCl
   have hb5:Below w.heap.size w w5:=below_but HWX.out hG5 (by omega)
   have HB5:=ohid hb5
   have hsz5:=hG5.size
   have HV5:Hid (Vw w w5 (tkL w gh 0)):=by
    refine ⟨⟨fun p hp => ?_,?_⟩,HVX.out.lo,hb5⟩
    ·have h1:=HVX.out.cell p hp
     have h2:=HVX.out.vr.lt p hp
     rw [hG5.block p.1 h2 (fun e => by
      have h3:p.1 = gs:=by cases e;rfl
      simp only [tkL,List.mem_cons,List.not_mem_nil,or_false] at hp
      rcases hp with rfl | rfl
      ·simp at h3;omega
      ·simp at h3;omega)]
     exact h1
    ·exact HVX.out.vr.2
   have HH5:=ohid (HSX.out.but hG5 (by omega))
   have HO5:=ohid own5
   obtain ⟨L5,hL5⟩:∃ L,SV ((NS.f2 x).sealed b) x.own x.once x.S seen = L:=⟨_,rfl⟩
   have hlen5:L5.length = 226:=by rw [← hL5];exact hS5.slen
   have hrow5:w5.heap[gs]? = some (.cells L5.toArray 67 (0,0)):=by have:=hS5.row;rw [List.append_nil,hL5] at this;exact this
   have HI5:Hid ((Tryz.prog.info? 67).map (·.size) = some L5.toArray.size):=by show _ = _;have:=sd_info hS5.slen;rw [hL5] at this;simpa using this
   obtain ⟨Y,hY⟩:∃ Y,w5.drew = Y:=⟨_,rfl⟩
   have hgr:Below w5.heap.size w5 Y:=by rw [← hY];exact (Below.refl _ _).drew
   have HYe:=ohid hY
   have HVY:=ohid (HV5.out.later hgr)
   have HrowY:=ohid (row_later9 hrow5 hgr)
   have HHY:=ohid (HH5.out.later hgr)
   have HOY:=ohid (own_but HO5.out (grown_below hgr) (fun b' _ e => by cases e))
   have HBY:=ohid (HB5.out.trans (hgr.mono HB5.out.size))
   have hgsY:gs < Y.heap.size:=(Array.getElem?_eq_some_iff.1 HrowY.out).1
   obtain ⟨Y1,t1,hS1,hG1⟩:=HHY.out.putAll ((NS.f2 x).sealed b) x.own x.once x.S seen hS5.mi.c hS5.mi.h hS5.mi.k hS5.k4
   rw [hL5] at t1
   have HS1:=ohid hS1
   have HG1:=ohid hG1
   have q6:=HS1.out.next
   have f6:=HS1.out.frozen 226
   have HCY:Hid (∀ w',But gh Y w' → w'.cell? ⟨w.heap.size,0,none⟩ = some (.pointer (some ⟨gh,0,none⟩))):=fun w' hw' => (tk_but HVY.out hw' hgl).1
   have HRY:Hid (∀ w',But gh Y w' → w'.heap[gs]? = some (.cells L5.toArray 67 (0,0))):=fun w' hw' => (hw'.block gs hgsY (fun e => by cases e;omega)).trans HrowY.out
   have HGY:Hid (∀ w',But gh Y w' → w.grownBy w' (some gh)):=fun w' hw' => World.grownBy.trans (But.below gh HBY.out) hw'
   clear hG5 hS5 own5 hL5 hrow5 hY hgr hS1 hG1 hb5 HV5 HH5 HO5 HB5 HrowY HHY HSX HVX
   go_wp2_with fail
   refine wp_region_sched' (G:=But gh) (by kernel_rfl) (But.refl gh) (But.trans gh) (by kernel_rfl) [(0,true),(1,true),(2,true),(3,true),(4,true),(5,true),(6,true),(7,false),(8,true),(9,true),(10,false)] rfl (by kernel_rfl) ?_
   intro KK hKK
   rw [HYe.out]
   iterate 2 (refine sched_take rfl (by rfl) (v:=?_) ?_ ?_;rotate_left;(intro w' hw';have qq:=HCY.out w' hw';clear hw';go_simp;with_reducible rfl);go_simp)
   refine sched_take rfl (by rfl) (v:=.agg L5.toArray) (fun w' hw' => exec_load_row 67 _ rfl gs rfl 67 _ (0,0) _ (HRY.out w' hw') Tryz.underlying67 rfl HI5.out) ?_
   go_simp
   iterate 4 (refine sched_take rfl (by rfl) (v:=?_) ?_ ?_;rotate_left;(intro w' hw';clear hw';go_simp;with_reducible rfl);go_simp)
   refine sched_put rfl (by rfl) (w':=Y1) (by go_simp) HG1.out ?_
   clear t1
   go_simp
   iterate 2 (refine sched_take rfl (by rfl) (v:=?_) ?_ ?_;rotate_left;(intro w' hw';clear hw';go_simp;with_reducible rfl);go_simp)
   refine sched_put rfl (by rfl) (w':=Y1.setCell ⟨gh,226,none⟩ (.int .i64 2)) (by go_simp;rfl) (But.setCell _ gh 226 _) ?_
   clear q6 f6
   have hG2:But gh Y (Y1.setCell ⟨gh,226,none⟩ (.int .i64 2)):=But.trans gh _ _ _ HG1.out (But.setCell Y1 gh 226 _)
   have hS2:SdT (Y1.setCell ⟨gh,226,none⟩ (.int .i64 2)) gh 71 [.int .i64 ((2:Nat):Int)] ((NS.f2 x).sealed b) x.own x.once x.S seen:=HS1.out.setNext 2
   obtain ⟨Z,hZ⟩:∃ Z,Y1.setCell ⟨gh,226,none⟩ (.int .i64 2) = Z:=⟨_,rfl⟩
   rw [hZ] at hG2 hS2
   rw [hZ]
   obtain ⟨_,q7,f7⟩:=tk_but HVY.out hG2 hgl
   have HG2:=ohid hG2
   have HS2:=ohid hS2
   clear hG2 hS2 hZ HS1 HG1 HCY HRY
   go_simp
   refine sched_done hKK ?_
   clear hKK
   go_wp2
   have hG3:Z.grownBy (Z.setCell ⟨w.heap.size + 1,0,none⟩ (.int .i64 0)) (some (w.heap.size + 1)):=But.setCell Z (w.heap.size + 1) 0 _
   have hc3:(Z.setCell ⟨w.heap.size + 1,0,none⟩ (.int .i64 0)).cell? ⟨w.heap.size + 1,0,none⟩ = some (.int .i64 0):=cell_set_same q7
   have hS3:SdT (Z.setCell ⟨w.heap.size + 1,0,none⟩ (.int .i64 0)) gh _ _ _ _ _ _ _:=HS2.out.but hG3 (by omega)
   have hO3:=own_but (own_but HOY.out HG2.out (fun b' hb' e => by have:=(own_base HOY.out b' hb').1;cases e;omega)) hG3 (fun b' hb' e => by have:=(own_base HOY.out b' hb').1;cases e;omega)
   have hB3:w.grownBy (Z.setCell ⟨w.heap.size + 1,0,none⟩ (.int .i64 0)) (some gh):=by
    have h1:=HGY.out Z HG2.out
    exact ⟨hG3.os.trans h1.os,hG3.tape.trans h1.tape,hG3.output.trans h1.output,Nat.le_trans h1.size hG3.size,fun k hk hne => (hG3.block k (Nat.lt_of_lt_of_le hk h1.size) (fun e => by cases e;omega)).trans (h1.block k hk hne)⟩
   have hO4:=own_lower hO3 (show w.heap.size ≤ X.heap.size by omega)
   obtain ⟨U,hU⟩:∃ U,Z.setCell ⟨w.heap.size + 1,0,none⟩ (.int .i64 0) = U:=⟨_,rfl⟩
   rw [hU] at hc3 hS3 hO4 hB3
   rw [hU]
   clear hG3 hO3 hU q7 f7 HG2 HS2 HOY
   refine leaves_cons (f:=66) (args:=#[.pointer (some ⟨w.heap.size + 1,0,none⟩),.pointer (some ⟨w.heap.size,0,none⟩)]) (by simp) (by simp [go_sem]) ?_
   refine (ncatch_ok (w.heap.size + 1) w.heap.size U).mono ?_
   rintro e u' w'' ⟨rfl,rfl,rfl⟩
   simp only [settle,Leaves]
   refine ⟨.tuple #[v,.int .i64 0],?_,?_⟩
   ·simp [results,Tryz.results33,go_sem,hc3]
   unfold TkE
   refine ⟨v,q,?_,hB3,?_,.inl ⟨h0,hS3⟩⟩
   ·rw [h0];rfl
   ·rw [if_pos h0];exact hO4
  ·clear HQ HCl
   have hb5:Below w.heap.size w w5:=below_but HWX.out hG5 (by omega)
   have HV5:Hid (Vw w w5 (tkL w gh 0)):=by
    refine ⟨⟨fun p hp => ?_,?_⟩,HVX.out.lo,hb5⟩
    ·have h1:=HVX.out.cell p hp
     have h2:=HVX.out.vr.lt p hp
     rw [hG5.block p.1 h2 (fun e => by
      have h3:p.1 = gs:=by cases e;rfl
      simp only [tkL,List.mem_cons,List.not_mem_nil,or_false] at hp
      rcases hp with rfl | rfl
      ·simp at h3;omega
      ·simp at h3;omega)]
     exact h1
    ·exact HVX.out.vr.2
   obtain ⟨er,her⟩:∃ er,fE x = er:=⟨_,rfl⟩
   rw [her] at h0 ⊢
   obtain ⟨q1,_⟩:=tk_box HV5.out
   obtain ⟨q2,f2⟩:=tk_err HV5.out
   have hS0:=HSX.out.but hG5 (by omega)
   have q3:=hS0.next
   have f3:=hS0.frozen 226
   have HF:=ohid (HS.out.fail (tk_set HV5.out (er:Int)).bel)
   have HC2:Hid (((w5.setCell ⟨w.heap.size + 1,0,none⟩ (.int .i64 (er:Int))).setCell ⟨gh,226,none⟩ (.int .i64 0)).cell? ⟨w.heap.size + 1,0,none⟩ = some (.int .i64 (er:Int))):=(tk_but (tk_set HV5.out (er:Int)) (But.setCell _ gh 226 _) hgl).2.1
   have HE:=ohid (And.intro her h0)
   clear hS0 hG5 hb5 HVX HSX HV5 her h0
   go_wp2_with fail
   refine leaves_cons (f:=66) (args:=#[.pointer (some ⟨w.heap.size + 1,0,none⟩),.pointer (some ⟨w.heap.size,0,none⟩)]) (by simp) (by simp [go_sem]) ?_
   refine (ncatch_no (w.heap.size + 1) w.heap.size gh er [] w5 q2 f2 q1 (by omega) (by omega) (x.code:Int) q3 f3).mono ?_
   rintro e u' w'' ⟨rfl,rfl,rfl⟩
   have hc2:=HC2.out
   have hh:=HF.out
   obtain ⟨Z,hZ⟩:∃ Z,(w5.setCell ⟨w.heap.size + 1,0,none⟩ (.int .i64 (er:Int))).setCell ⟨gh,226,none⟩ (.int .i64 0) = Z:=⟨_,rfl⟩
   rw [hZ] at hc2 hh
   rw [hZ]
   clear hZ HF HC2 q1 q2 q3 f2 f3
   simp only [settle,Leaves,List.dropWhile_nil]
   refine ⟨.tuple #[.slice none 0 0,.int .i64 (er:Int)],?_,?_⟩
   ·simp [results,Tryz.results33,go_sem,hc2]
   unfold TkE
   rw [HE.out.1]
   refine ⟨.slice none 0 0,0,?_,hh.2,?_,.inr ⟨HE.out.2,hh.1⟩⟩
   ·rfl
   ·rw [if_neg HE.out.2];exact ⟨rfl,.inl ⟨rfl,rfl⟩⟩
set_option maxHeartbeats 4000000 in
theorem nFirst_any (gh:Nat) (x:NS) (c:Option Addr) (lc cc:Nat) (b:List UInt8) (w:World) (hH:HaIs w gh x) (hB:Byt w c lc b) (hBn:c = none → cc = 0) (hlc:lc ≤ 800) (hcc:lc ≤ cc) (hccm:cc ≤ maxLen) (hcw:0 < lc → ∀ y o f,c = some ⟨y,o,f⟩ → y < w.heap.size) (hT:TT w) (hg:Gok gh) :
  Calls Tryz.prog 14 #[.pointer (some ⟨gh,0,none⟩),.slice c lc cc] w fun e w' => HdE w w' gh e (NS.firstErr x) (NS.first x b) (NS.firstOut x b):=by
 have hgl:=hH.lt
 have HH:=ohid hH
 have HB:=ohid hB
 have HT:=ohid hT
 have HG:=ohid hg
 have HCw:=ohid hcw
 have hmf:∀ (fn:Fn) (first cap:Array Value) (w:World),(Instr.makeFunc fn first cap).run Tryz.prog w = .ok (.func fn first cap) w:=fun _ _ _ _ => rfl
 have hb1:Below w.heap.size w (w.alloc (.cells #[.slice c lc cc] 22)):=(Below.refl _ _).alloc (Nat.le_refl _) _
 have hrow:=heap_alloc_new w (.cells #[.slice c lc cc] 22)
 have HB1:Hid (∀ w',w' = w.alloc (.cells #[.slice c lc cc] 22) → Below w.heap.size w w' ∧ w'.heap[w.heap.size]? = some (.cells #[.slice c lc cc] 22 (0,0))):=fun w' e => by rw [e];exact ⟨hb1,hrow⟩
 clear hH hB hT hg hcw hb1 hrow
 go_enter Tryz.func14,Tryz.ntmps14
 go_wp2_with fail
 obtain ⟨W,hW⟩:∃ W,w.alloc (.cells #[.slice c lc cc] 22) = W:=⟨_,rfl⟩
 obtain ⟨hb1,hrow⟩:=HB1.out W hW.symm
 have HW:=ohid hb1
 have HR:=ohid hrow
 rw [hW]
 clear hW hb1 hrow HB1 hmf
 by_cases hs:x.starts = true ∧ x.st = 0
 ·obtain ⟨seen,hHS⟩:=HH.out.later HW.out
  have hcode:x.code = 1:=by unfold NS.code;rw [hs.1,hs.2];rfl
  have hE:NS.firstErr x = fE x:=by unfold NS.firstErr;rw [if_pos hs];rfl
  have hn:=hHS.n
  have HE:=ohid hE
  have HS:=ohid hs
  refine (ntake_first gh w.heap.size x seen c lc cc b W hHS hcode HR.out (HB.out.later HW.out) hBn hlc hcc hccm (fun h0 y o f e => Nat.lt_of_lt_of_le (HCw.out h0 y o f e) HW.out.size) (HT.out.later HW.out) HG.out).mono ?_
  intro e w2 hT2
  unfold TkE at hT2
  obtain ⟨v,q,rfl,hG2,own2,hor⟩:=hT2
  have HG2:Hid (w.grownBy w2 (some gh)):=World.grownBy.trans (But.below gh HW.out) hG2
  have HO2:=ohid (own_lower own2 HW.out.size)
  have HI2:Hid (HaIs w2 gh (NS.first x b)):=by
   show HaIs _ _ _
   unfold NS.first
   rw [hE]
   rcases hor with ⟨h0,hS2⟩ | ⟨h0,hS2⟩
   ·rw [if_pos h0]
    exact ⟨_,⟨by show SdT _ _ _ [.int .i64 ((NS.code _:Nat):Int)] _ _ _ _ _;rw [show NS.code _ = 2 by unfold NS.code;rw [hs.1];rfl];exact hS2,.inr (.inl rfl),(fun h => absurd (hs.1.symm.trans h) (by decide)),Nat.le_trans (Nat.le_of_eq (MS.sealed_n _ _ _)) (by omega)⟩⟩
   ·rw [if_neg h0];exact hS2
  clear hG2 own2 hor hE hs hcode hHS
  obtain ⟨er,her⟩:∃ er,fE x = er:=⟨_,rfl⟩
  rw [her] at HE HO2
  rw [her]
  clear her
  go_wp2_with fail
  go_ret2
  unfold HdE
  refine ⟨v,q,?_,HG2.out,HI2.out,?_⟩
  ·exact congrArg (fun k:Nat => Ending.returned (.tuple #[v,.int .i64 (k:Int)])) HE.out.symm
  ·rw [HE.out];exact HO2.out
 ·have hE:NS.firstErr x = 10:=by unfold NS.firstErr;rw [if_neg hs]
  have hst:NS.first x b = x.fails:=by unfold NS.first;rw [hE];rfl
  have hcode:x.code ≠ 1:=by
   obtain ⟨seen,hHS⟩:=HH.out
   have h1:=hHS.st
   unfold NS.code
   cases hx:x.starts <;> rw [hx] at hs <;> simp at hs ⊢ <;> (try split) <;> omega
  have HE:=ohid (And.intro hE hst)
  clear hE hst hs
  refine (ntake_state gh x 1 _ W (HH.out.later HW.out) hcode).mono ?_
  rintro e w2 ⟨rfl,hG2,hI2⟩
  have HG2:Hid (w.grownBy w2 (some gh)):=World.grownBy.trans (But.below gh HW.out) hG2
  have HI2:=ohid hI2
  clear hG2 hI2 hcode
  go_wp2_with fail
  go_ret2
  unfold HdE
  rw [HE.out.1,HE.out.2]
  exact ⟨.slice none 0 0,0,rfl,HG2.out,HI2.out,⟨rfl,.inl ⟨rfl,rfl⟩⟩⟩
set_option maxHeartbeats 8000000 in
theorem ntake_hear (gh pb:Nat) (x:NS) (seen:List UInt8) (c:Option Addr) (lc cc:Nat) (b:List UInt8) (w:World) (hH:HaS w gh x seen) (hd:x.code = 4) (hp:w.heap[pb]? = some (.cells #[.slice c lc cc] 22 (0,0))) (hB:Byt w c lc b) (hBn:c = none → cc = 0) (hlc:lc ≤ 900) (hcc:lc ≤ cc) (hccm:cc ≤ maxLen) (hcw:0 < lc → ∀ y o f,c = some ⟨y,o,f⟩ → y < w.heap.size) (hT:TT w) (hg:Gok gh) :
  Calls Tryz.prog 33 #[.pointer (some ⟨gh,0,none⟩),.int .i64 4,.func (.func 41) #[] #[.pointer (some ⟨pb,0,none⟩)]] w fun e w' => TkE w w' gh x e (hE x b) 5 ((NS.h2 x b).opened (b.drop 80)) x.own x.once (NS.hS x b) (NS.hR b) (NS.hearOut x b):=by
 have hgl:=hH.sd.lt
 have hpl:pb < w.heap.size:=(Array.getElem?_eq_some_iff.1 hp).1
 have HS:=ohid hH
 have HV0:=ohid (tk_new w gh)
 have HP:=ohid hp
 have HB:=ohid hB
 have HT:=ohid hT
 have HG:=ohid hg
 have HCw:=ohid hcw
 have hci:(x.code:Int) = 4:=by omega
 have hmf:∀ (fn:Fn) (first cap:Array Value) (w:World),(Instr.makeFunc fn first cap).run Tryz.prog w = .ok (.func fn first cap) w:=fun _ _ _ _ => rfl
 clear hH hp hB hT hg hcw
 go_enter_defers Tryz.func33,Tryz.ntmps33
 refine wp_seq (wp_cut (fun a W => a = { tmps:=#[.pointer (some ⟨gh,0,none⟩),.int .i64 4,.func (.func 41) #[] #[.pointer (some ⟨pb,0,none⟩)],.pointer (some ⟨w.heap.size,0,none⟩),undef,undef,.slice none 0 0,.pointer (some ⟨w.heap.size + 1,0,none⟩),undef,undef,undef,undef,undef,undef,undef,undef,undef,undef,undef,undef,undef,undef,undef,undef,undef,undef,undef,undef,undef,undef,undef,undef,undef],defers:=[] } ∧ Hid (Vw w W (tkL w gh 0))) ?_ ?_)
 ·go_wp2
  all_goals first | exact HV0 | exact ⟨rfl,HV0⟩ | exact ⟨rfl,rfl,HV0⟩
 ·rintro a W0 ⟨rfl,HV⟩
  simp only [Exit.then]
  obtain ⟨q1,f1⟩:=tk_box HV.out
  have hS0:=HS.out.sd.later HV.out.bel
  have q3:=hS0.next
  have HS0:=ohid hS0
  obtain ⟨L,hL⟩:∃ L,SV x.M x.own x.once x.S seen = L:=⟨_,rfl⟩
  have hlen:L.length = 226:=by rw [← hL];exact hS0.slen
  have HI:Hid ((Tryz.prog.info? 67).map (·.size) = some L.length):=by show _ = _;rw [← hL];exact sd_info hS0.slen
  have HL:Hid (∀ j v,L[j]? = some v → W0.cell? ⟨gh,0 + j,none⟩ = some v):=by rw [← hL];exact hS0.allC
  have hone:∀ v ∈ L,v.oneCell' = true:=by rw [← hL];exact SV_one _ _ _ _ _
  have hst:=run_store_new W0 67 L 226 hlen (by kernel_rfl) hone sdZ.toArray (by simpa using sdZ_length)
  have hbX:Below W0.heap.size W0 (W0.alloc (.cells L.toArray 67)):=(Below.refl _ _).alloc (Nat.le_refl _) _
  have hrowX:=heap_alloc_new W0 (.cells L.toArray 67)
  obtain ⟨X,hX⟩:∃ X,W0.alloc (.cells L.toArray 67) = X:=⟨_,rfl⟩
  rw [hX] at hst hbX hrowX
  have hsX:X.heap.size = W0.heap.size + 1:=by rw [← hX];simp
  have hs0:=HV.out.bel.size
  obtain ⟨gs,hgs⟩:∃ gs,W0.heap.size = gs:=⟨_,rfl⟩
  rw [hgs] at hst hrowX hsX hs0
  have hSX:Sd X gs x.M x.own x.once x.S seen:=SdT.of (by rw [List.append_nil,hL];exact hrowX) hS0.mi.c hS0.mi.h hS0.mi.k hS0.k4
  have hwX:Below w.heap.size w X:=HV.out.bel.trans (hbX.mono HV.out.bel.size)
  have HVX:=ohid (HV.out.later hbX)
  have hl0:=(HV.out.vr.lt (w.heap.size + 1,36,[.int .i64 0]) (List.mem_cons_of_mem _ (List.mem_cons_self ..)))
  have hsw:w.heap.size + 1 < gs:=by rw [← hgs];exact hl0
  have HCl:Hid (Cl X X gs pb c lc cc b x.M x.own x.once x.S seen):=⟨⟨(hwX.block pb hpl).trans HP.out,HB.out.later hwX,hBn,hcc,hccm,(by omega),(fun h0 y o f e => by have:=HCw.out h0 y o f e;omega),HT.out.later hwX,HT.out.new (by omega),(by omega)⟩,hSX,grownBy_refl _ _⟩
  have HWX:=ohid hwX
  have hgr0:=hS0
  clear hS0 HV0 hgr0 hSX hbX hrowX hone hX hL HV hs0 hl0 hwX HP HB HS0 HCw
  go_wp2_with (first | (refine wpList_load_part rfl 67 (.tmp 19) rfl gh 0 rfl L _ ?_ Tryz.underlying67 rfl HI.out ?_;exact HL.out) | refine wpList_alloc_sd rfl rfl ?_ | fail)
  clear hst q1 f1 q3 HI HL hgs
  refine (nhear1_any gs pb x seen c lc cc b X HCl.out HS.out.n hlc).mono ?_
  intro e w5 hClo
  have HQ:=ohid hClo
  clear hClo
  have HSX:=ohid (HS.out.sd.later HWX.out)
  rcases HQ.out with ⟨h0,v,q,rfl,hG5,hS5,own5⟩ | ⟨h0,rfl,hG5⟩
  ·clear HQ HCl
   have hb5:Below w.heap.size w w5:=below_but HWX.out hG5 (by omega)
   have HB5:=ohid hb5
   have hsz5:=hG5.size
   have HV5:Hid (Vw w w5 (tkL w gh 0)):=by
    refine ⟨⟨fun p hp => ?_,?_⟩,HVX.out.lo,hb5⟩
    ·have h1:=HVX.out.cell p hp
     have h2:=HVX.out.vr.lt p hp
     rw [hG5.block p.1 h2 (fun e => by
      have h3:p.1 = gs:=by cases e;rfl
      simp only [tkL,List.mem_cons,List.not_mem_nil,or_false] at hp
      rcases hp with rfl | rfl
      ·simp at h3;omega
      ·simp at h3;omega)]
     exact h1
    ·exact HVX.out.vr.2
   have HH5:=ohid (HSX.out.but hG5 (by omega))
   have HO5:=ohid own5
   obtain ⟨L5,hL5⟩:∃ L,SV ((NS.h2 x b).opened (b.drop 80)) x.own x.once (NS.hS x b) (NS.hR b) = L:=⟨_,rfl⟩
   have hlen5:L5.length = 226:=by rw [← hL5];exact hS5.slen
   have hrow5:w5.heap[gs]? = some (.cells L5.toArray 67 (0,0)):=by have:=hS5.row;rw [List.append_nil,hL5] at this;exact this
   have HI5:Hid ((Tryz.prog.info? 67).map (·.size) = some L5.toArray.size):=by show _ = _;have:=sd_info hS5.slen;rw [hL5] at this;simpa using this
   obtain ⟨Y,hY⟩:∃ Y,w5.drew = Y:=⟨_,rfl⟩
   have hgr:Below w5.heap.size w5 Y:=by rw [← hY];exact (Below.refl _ _).drew
   have HYe:=ohid hY
   have HVY:=ohid (HV5.out.later hgr)
   have HrowY:=ohid (row_later9 hrow5 hgr)
   have HHY:=ohid (HH5.out.later hgr)
   have HOY:=ohid (own_but HO5.out (grown_below hgr) (fun b' _ e => by cases e))
   have HBY:=ohid (HB5.out.trans (hgr.mono HB5.out.size))
   have hgsY:gs < Y.heap.size:=(Array.getElem?_eq_some_iff.1 HrowY.out).1
   obtain ⟨Y1,t1,hS1,hG1⟩:=HHY.out.putAll ((NS.h2 x b).opened (b.drop 80)) x.own x.once (NS.hS x b) (NS.hR b) hS5.mi.c hS5.mi.h hS5.mi.k hS5.k4
   rw [hL5] at t1
   have HS1:=ohid hS1
   have HG1:=ohid hG1
   have q6:=HS1.out.next
   have f6:=HS1.out.frozen 226
   have HCY:Hid (∀ w',But gh Y w' → w'.cell? ⟨w.heap.size,0,none⟩ = some (.pointer (some ⟨gh,0,none⟩))):=fun w' hw' => (tk_but HVY.out hw' hgl).1
   have HRY:Hid (∀ w',But gh Y w' → w'.heap[gs]? = some (.cells L5.toArray 67 (0,0))):=fun w' hw' => (hw'.block gs hgsY (fun e => by cases e;omega)).trans HrowY.out
   have HGY:Hid (∀ w',But gh Y w' → w.grownBy w' (some gh)):=fun w' hw' => World.grownBy.trans (But.below gh HBY.out) hw'
   clear hG5 hS5 own5 hL5 hrow5 hY hgr hS1 hG1 hb5 HV5 HH5 HO5 HB5 HrowY HHY HSX HVX
   go_wp2_with fail
   refine wp_region_sched' (G:=But gh) (by kernel_rfl) (But.refl gh) (But.trans gh) (by kernel_rfl) [(0,true),(1,true),(2,true),(3,true),(4,true),(5,true),(6,true),(7,false),(8,true),(9,true),(10,false)] rfl (by kernel_rfl) ?_
   intro KK hKK
   rw [HYe.out]
   iterate 2 (refine sched_take rfl (by rfl) (v:=?_) ?_ ?_;rotate_left;(intro w' hw';have qq:=HCY.out w' hw';clear hw';go_simp;with_reducible rfl);go_simp)
   refine sched_take rfl (by rfl) (v:=.agg L5.toArray) (fun w' hw' => exec_load_row 67 _ rfl gs rfl 67 _ (0,0) _ (HRY.out w' hw') Tryz.underlying67 rfl HI5.out) ?_
   go_simp
   iterate 4 (refine sched_take rfl (by rfl) (v:=?_) ?_ ?_;rotate_left;(intro w' hw';clear hw';go_simp;with_reducible rfl);go_simp)
   refine sched_put rfl (by rfl) (w':=Y1) (by go_simp) HG1.out ?_
   clear t1
   go_simp
   iterate 2 (refine sched_take rfl (by rfl) (v:=?_) ?_ ?_;rotate_left;(intro w' hw';clear hw';go_simp;with_reducible rfl);go_simp)
   refine sched_put rfl (by rfl) (w':=Y1.setCell ⟨gh,226,none⟩ (.int .i64 5)) (by go_simp;rfl) (But.setCell _ gh 226 _) ?_
   clear q6 f6
   have hG2:But gh Y (Y1.setCell ⟨gh,226,none⟩ (.int .i64 5)):=But.trans gh _ _ _ HG1.out (But.setCell Y1 gh 226 _)
   have hS2:SdT (Y1.setCell ⟨gh,226,none⟩ (.int .i64 5)) gh 71 [.int .i64 ((5:Nat):Int)] ((NS.h2 x b).opened (b.drop 80)) x.own x.once (NS.hS x b) (NS.hR b):=HS1.out.setNext 5
   obtain ⟨Z,hZ⟩:∃ Z,Y1.setCell ⟨gh,226,none⟩ (.int .i64 5) = Z:=⟨_,rfl⟩
   rw [hZ] at hG2 hS2
   rw [hZ]
   obtain ⟨_,q7,f7⟩:=tk_but HVY.out hG2 hgl
   have HG2:=ohid hG2
   have HS2:=ohid hS2
   clear hG2 hS2 hZ HS1 HG1 HCY HRY
   go_simp
   refine sched_done hKK ?_
   clear hKK
   go_wp2
   have hG3:Z.grownBy (Z.setCell ⟨w.heap.size + 1,0,none⟩ (.int .i64 0)) (some (w.heap.size + 1)):=But.setCell Z (w.heap.size + 1) 0 _
   have hc3:(Z.setCell ⟨w.heap.size + 1,0,none⟩ (.int .i64 0)).cell? ⟨w.heap.size + 1,0,none⟩ = some (.int .i64 0):=cell_set_same q7
   have hS3:SdT (Z.setCell ⟨w.heap.size + 1,0,none⟩ (.int .i64 0)) gh _ _ _ _ _ _ _:=HS2.out.but hG3 (by omega)
   have hO3:=own_but (own_but HOY.out HG2.out (fun b' hb' e => by have:=(own_base HOY.out b' hb').1;cases e;omega)) hG3 (fun b' hb' e => by have:=(own_base HOY.out b' hb').1;cases e;omega)
   have hB3:w.grownBy (Z.setCell ⟨w.heap.size + 1,0,none⟩ (.int .i64 0)) (some gh):=by
    have h1:=HGY.out Z HG2.out
    exact ⟨hG3.os.trans h1.os,hG3.tape.trans h1.tape,hG3.output.trans h1.output,Nat.le_trans h1.size hG3.size,fun k hk hne => (hG3.block k (Nat.lt_of_lt_of_le hk h1.size) (fun e => by cases e;omega)).trans (h1.block k hk hne)⟩
   have hO4:=own_lower hO3 (show w.heap.size ≤ X.heap.size by omega)
   obtain ⟨U,hU⟩:∃ U,Z.setCell ⟨w.heap.size + 1,0,none⟩ (.int .i64 0) = U:=⟨_,rfl⟩
   rw [hU] at hc3 hS3 hO4 hB3
   rw [hU]
   clear hG3 hO3 hU q7 f7 HG2 HS2 HOY
   refine leaves_cons (f:=66) (args:=#[.pointer (some ⟨w.heap.size + 1,0,none⟩),.pointer (some ⟨w.heap.size,0,none⟩)]) (by simp) (by simp [go_sem]) ?_
   refine (ncatch_ok (w.heap.size + 1) w.heap.size U).mono ?_
   rintro e u' w'' ⟨rfl,rfl,rfl⟩
   simp only [settle,Leaves]
   refine ⟨.tuple #[v,.int .i64 0],?_,?_⟩
   ·simp [results,Tryz.results33,go_sem,hc3]
   unfold TkE
   refine ⟨v,q,?_,hB3,?_,.inl ⟨h0,hS3⟩⟩
   ·rw [h0];rfl
   ·rw [if_pos h0];exact hO4
  ·clear HQ HCl
   have hb5:Below w.heap.size w w5:=below_but HWX.out hG5 (by omega)
   have HV5:Hid (Vw w w5 (tkL w gh 0)):=by
    refine ⟨⟨fun p hp => ?_,?_⟩,HVX.out.lo,hb5⟩
    ·have h1:=HVX.out.cell p hp
     have h2:=HVX.out.vr.lt p hp
     rw [hG5.block p.1 h2 (fun e => by
      have h3:p.1 = gs:=by cases e;rfl
      simp only [tkL,List.mem_cons,List.not_mem_nil,or_false] at hp
      rcases hp with rfl | rfl
      ·simp at h3;omega
      ·simp at h3;omega)]
     exact h1
    ·exact HVX.out.vr.2
   obtain ⟨er,her⟩:∃ er,hE x b = er:=⟨_,rfl⟩
   rw [her] at h0 ⊢
   obtain ⟨q1,_⟩:=tk_box HV5.out
   obtain ⟨q2,f2⟩:=tk_err HV5.out
   have hS0:=HSX.out.but hG5 (by omega)
   have q3:=hS0.next
   have f3:=hS0.frozen 226
   have HF:=ohid (HS.out.fail (tk_set HV5.out (er:Int)).bel)
   have HC2:Hid (((w5.setCell ⟨w.heap.size + 1,0,none⟩ (.int .i64 (er:Int))).setCell ⟨gh,226,none⟩ (.int .i64 0)).cell? ⟨w.heap.size + 1,0,none⟩ = some (.int .i64 (er:Int))):=(tk_but (tk_set HV5.out (er:Int)) (But.setCell _ gh 226 _) hgl).2.1
   have HE:=ohid (And.intro her h0)
   clear hS0 hG5 hb5 HVX HSX HV5 her h0
   go_wp2_with fail
   refine leaves_cons (f:=66) (args:=#[.pointer (some ⟨w.heap.size + 1,0,none⟩),.pointer (some ⟨w.heap.size,0,none⟩)]) (by simp) (by simp [go_sem]) ?_
   refine (ncatch_no (w.heap.size + 1) w.heap.size gh er [] w5 q2 f2 q1 (by omega) (by omega) (x.code:Int) q3 f3).mono ?_
   rintro e u' w'' ⟨rfl,rfl,rfl⟩
   have hc2:=HC2.out
   have hh:=HF.out
   obtain ⟨Z,hZ⟩:∃ Z,(w5.setCell ⟨w.heap.size + 1,0,none⟩ (.int .i64 (er:Int))).setCell ⟨gh,226,none⟩ (.int .i64 0) = Z:=⟨_,rfl⟩
   rw [hZ] at hc2 hh
   rw [hZ]
   clear hZ HF HC2 q1 q2 q3 f2 f3
   simp only [settle,Leaves,List.dropWhile_nil]
   refine ⟨.tuple #[.slice none 0 0,.int .i64 (er:Int)],?_,?_⟩
   ·simp [results,Tryz.results33,go_sem,hc2]
   unfold TkE
   rw [HE.out.1]
   refine ⟨.slice none 0 0,0,?_,hh.2,?_,.inr ⟨HE.out.2,hh.1⟩⟩
   ·rfl
   ·rw [if_neg HE.out.2];exact ⟨rfl,.inl ⟨rfl,rfl⟩⟩
set_option maxHeartbeats 4000000 in
theorem nHear_any (gh:Nat) (x:NS) (c:Option Addr) (lc cc:Nat) (b:List UInt8) (w:World) (hH:HaIs w gh x) (hB:Byt w c lc b) (hBn:c = none → cc = 0) (hlc:lc ≤ 900) (hcc:lc ≤ cc) (hccm:cc ≤ maxLen) (hcw:0 < lc → ∀ y o f,c = some ⟨y,o,f⟩ → y < w.heap.size) (hT:TT w) (hg:Gok gh) :
  Calls Tryz.prog 16 #[.pointer (some ⟨gh,0,none⟩),.slice c lc cc] w fun e w' => HdE w w' gh e (NS.hearErr x b) (NS.hear x b) (NS.hearOut x b):=by
 have hgl:=hH.lt
 have HH:=ohid hH
 have HB:=ohid hB
 have HT:=ohid hT
 have HG:=ohid hg
 have HCw:=ohid hcw
 have hmf:∀ (fn:Fn) (first cap:Array Value) (w:World),(Instr.makeFunc fn first cap).run Tryz.prog w = .ok (.func fn first cap) w:=fun _ _ _ _ => rfl
 have hb1:Below w.heap.size w (w.alloc (.cells #[.slice c lc cc] 22)):=(Below.refl _ _).alloc (Nat.le_refl _) _
 have hrow:=heap_alloc_new w (.cells #[.slice c lc cc] 22)
 have HB1:Hid (∀ w',w' = w.alloc (.cells #[.slice c lc cc] 22) → Below w.heap.size w w' ∧ w'.heap[w.heap.size]? = some (.cells #[.slice c lc cc] 22 (0,0))):=fun w' e => by rw [e];exact ⟨hb1,hrow⟩
 clear hH hB hT hg hcw hb1 hrow
 go_enter Tryz.func16,Tryz.ntmps16
 go_wp2_with fail
 obtain ⟨W,hW⟩:∃ W,w.alloc (.cells #[.slice c lc cc] 22) = W:=⟨_,rfl⟩
 obtain ⟨hb1,hrow⟩:=HB1.out W hW.symm
 have HW:=ohid hb1
 have HR:=ohid hrow
 rw [hW]
 clear hW hb1 hrow HB1 hmf
 by_cases hs:x.starts = false ∧ x.st = 0
 ·obtain ⟨seen,hHS⟩:=HH.out.later HW.out
  have hcode:x.code = 4:=by unfold NS.code;rw [hs.1,hs.2];rfl
  have hE:NS.hearErr x b = hE x b:=by unfold NS.hearErr;rw [if_pos hs];rfl
  have hn:=hHS.n
  have HE:=ohid hE
  have HS:=ohid hs
  refine (ntake_hear gh w.heap.size x seen c lc cc b W hHS hcode HR.out (HB.out.later HW.out) hBn hlc hcc hccm (fun h0 y o f e => Nat.lt_of_lt_of_le (HCw.out h0 y o f e) HW.out.size) (HT.out.later HW.out) HG.out).mono ?_
  intro e w2 hT2
  unfold TkE at hT2
  obtain ⟨v,q,rfl,hG2,own2,hor⟩:=hT2
  have HG2:Hid (w.grownBy w2 (some gh)):=World.grownBy.trans (But.below gh HW.out) hG2
  have HO2:=ohid (own_lower own2 HW.out.size)
  have HI2:Hid (HaIs w2 gh (NS.hear x b)):=by
   show HaIs _ _ _
   unfold NS.hear
   rw [hE]
   rcases hor with ⟨h0,hS2⟩ | ⟨h0,hS2⟩
   ·rw [if_pos h0]
    exact ⟨_,⟨by show SdT _ _ _ [.int .i64 ((NS.code _:Nat):Int)] _ _ _ _ _;rw [show NS.code _ = 5 by unfold NS.code;rw [hs.1];rfl];exact hS2,.inr (.inl rfl),(fun _ _ => rfl),key_opened_n _ _ _⟩⟩
   ·rw [if_neg h0];exact hS2
  clear hG2 own2 hor hE hs hcode hHS
  obtain ⟨er,her⟩:∃ er,hE x b = er:=⟨_,rfl⟩
  rw [her] at HE HO2
  rw [her]
  clear her
  go_wp2_with fail
  go_ret2
  unfold HdE
  refine ⟨v,q,?_,HG2.out,HI2.out,?_⟩
  ·exact congrArg (fun k:Nat => Ending.returned (.tuple #[v,.int .i64 (k:Int)])) HE.out.symm
  ·rw [HE.out];exact HO2.out
 ·have hE:NS.hearErr x b = 10:=by unfold NS.hearErr;rw [if_neg hs]
  have hst:NS.hear x b = x.fails:=by unfold NS.hear;rw [hE];rfl
  have hcode:x.code ≠ 4:=by
   obtain ⟨seen,hHS⟩:=HH.out
   have h1:=hHS.st
   unfold NS.code
   cases hx:x.starts <;> rw [hx] at hs <;> simp at hs ⊢ <;> (try split) <;> omega
  have HE:=ohid (And.intro hE hst)
  clear hE hst hs
  refine (ntake_state gh x 4 _ W (HH.out.later HW.out) hcode).mono ?_
  rintro e w2 ⟨rfl,hG2,hI2⟩
  have HG2:Hid (w.grownBy w2 (some gh)):=World.grownBy.trans (But.below gh HW.out) hG2
  have HI2:=ohid hI2
  clear hG2 hI2 hcode
  go_wp2_with fail
  go_ret2
  unfold HdE
  rw [HE.out.1,HE.out.2]
  exact ⟨.slice none 0 0,0,rfl,HG2.out,HI2.out,⟨rfl,.inl ⟨rfl,rfl⟩⟩⟩
set_option maxHeartbeats 8000000 in
theorem ntake_second (gh pb:Nat) (x:NS) (seen:List UInt8) (c:Option Addr) (lc cc:Nat) (b:List UInt8) (w:World) (hH:HaS w gh x seen) (hd:x.code = 5) (hse:seen = x.R) (hp:w.heap[pb]? = some (.cells #[.slice c lc cc] 22 (0,0))) (hB:Byt w c lc b) (hBn:c = none → cc = 0) (hlc:lc ≤ 800) (hcc:lc ≤ cc) (hccm:cc ≤ maxLen) (hcw:0 < lc → ∀ y o f,c = some ⟨y,o,f⟩ → y < w.heap.size) (hT:TT w) (hg:Gok gh) :
  Calls Tryz.prog 33 #[.pointer (some ⟨gh,0,none⟩),.int .i64 5,.func (.func 45) #[] #[.pointer (some ⟨pb,0,none⟩)]] w fun e w' => TkE w w' gh x e (sE x) 6 ((NS.s1 x).sealed b) x.own x.once x.S seen (NS.secondOut x b):=by
 have hgl:=hH.sd.lt
 have hpl:pb < w.heap.size:=(Array.getElem?_eq_some_iff.1 hp).1
 have HS:=ohid hH
 have HV0:=ohid (tk_new w gh)
 have HP:=ohid hp
 have HB:=ohid hB
 have HT:=ohid hT
 have HG:=ohid hg
 have HCw:=ohid hcw
 have hci:(x.code:Int) = 5:=by omega
 have hmf:∀ (fn:Fn) (first cap:Array Value) (w:World),(Instr.makeFunc fn first cap).run Tryz.prog w = .ok (.func fn first cap) w:=fun _ _ _ _ => rfl
 clear hH hp hB hT hg hcw
 go_enter_defers Tryz.func33,Tryz.ntmps33
 refine wp_seq (wp_cut (fun a W => a = { tmps:=#[.pointer (some ⟨gh,0,none⟩),.int .i64 5,.func (.func 45) #[] #[.pointer (some ⟨pb,0,none⟩)],.pointer (some ⟨w.heap.size,0,none⟩),undef,undef,.slice none 0 0,.pointer (some ⟨w.heap.size + 1,0,none⟩),undef,undef,undef,undef,undef,undef,undef,undef,undef,undef,undef,undef,undef,undef,undef,undef,undef,undef,undef,undef,undef,undef,undef,undef,undef],defers:=[] } ∧ Hid (Vw w W (tkL w gh 0))) ?_ ?_)
 ·go_wp2
  all_goals first | exact HV0 | exact ⟨rfl,HV0⟩ | exact ⟨rfl,rfl,HV0⟩
 ·rintro a W0 ⟨rfl,HV⟩
  simp only [Exit.then]
  obtain ⟨q1,f1⟩:=tk_box HV.out
  have hS0:=HS.out.sd.later HV.out.bel
  have q3:=hS0.next
  have HS0:=ohid hS0
  obtain ⟨L,hL⟩:∃ L,SV x.M x.own x.once x.S seen = L:=⟨_,rfl⟩
  have hlen:L.length = 226:=by rw [← hL];exact hS0.slen
  have HI:Hid ((Tryz.prog.info? 67).map (·.size) = some L.length):=by show _ = _;rw [← hL];exact sd_info hS0.slen
  have HL:Hid (∀ j v,L[j]? = some v → W0.cell? ⟨gh,0 + j,none⟩ = some v):=by rw [← hL];exact hS0.allC
  have hone:∀ v ∈ L,v.oneCell' = true:=by rw [← hL];exact SV_one _ _ _ _ _
  have hst:=run_store_new W0 67 L 226 hlen (by kernel_rfl) hone sdZ.toArray (by simpa using sdZ_length)
  have hbX:Below W0.heap.size W0 (W0.alloc (.cells L.toArray 67)):=(Below.refl _ _).alloc (Nat.le_refl _) _
  have hrowX:=heap_alloc_new W0 (.cells L.toArray 67)
  obtain ⟨X,hX⟩:∃ X,W0.alloc (.cells L.toArray 67) = X:=⟨_,rfl⟩
  rw [hX] at hst hbX hrowX
  have hsX:X.heap.size = W0.heap.size + 1:=by rw [← hX];simp
  have hs0:=HV.out.bel.size
  obtain ⟨gs,hgs⟩:∃ gs,W0.heap.size = gs:=⟨_,rfl⟩
  rw [hgs] at hst hrowX hsX hs0
  have hSX:Sd X gs x.M x.own x.once x.S seen:=SdT.of (by rw [List.append_nil,hL];exact hrowX) hS0.mi.c hS0.mi.h hS0.mi.k hS0.k4
  have hwX:Below w.heap.size w X:=HV.out.bel.trans (hbX.mono HV.out.bel.size)
  have HVX:=ohid (HV.out.later hbX)
  have hl0:=(HV.out.vr.lt (w.heap.size + 1,36,[.int .i64 0]) (List.mem_cons_of_mem _ (List.mem_cons_self ..)))
  have hsw:w.heap.size + 1 < gs:=by rw [← hgs];exact hl0
  have HCl:Hid (Cl X X gs pb c lc cc b x.M x.own x.once x.S seen):=⟨⟨(hwX.block pb hpl).trans HP.out,HB.out.later hwX,hBn,hcc,hccm,(by omega),(fun h0 y o f e => by have:=HCw.out h0 y o f e;omega),HT.out.later hwX,HT.out.new (by omega),(by omega)⟩,hSX,grownBy_refl _ _⟩
  have HWX:=ohid hwX
  have hgr0:=hS0
  clear hS0 HV0 hgr0 hSX hbX hrowX hone hX hL HV hs0 hl0 hwX HP HB HS0 HCw
  go_wp2_with (first | (refine wpList_load_part rfl 67 (.tmp 19) rfl gh 0 rfl L _ ?_ Tryz.underlying67 rfl HI.out ?_;exact HL.out) | refine wpList_alloc_sd rfl rfl ?_ | fail)
  clear hst q1 f1 q3 HI HL hgs
  refine (nsecond1_any gs pb x seen c lc cc b X HCl.out HS.out.n hlc hse).mono ?_
  intro e w5 hClo
  have HQ:=ohid hClo
  clear hClo
  have HSX:=ohid (HS.out.sd.later HWX.out)
  rcases HQ.out with ⟨h0,v,q,rfl,hG5,hS5,own5⟩ | ⟨h0,rfl,hG5⟩
  ·clear HQ HCl
   have hb5:Below w.heap.size w w5:=below_but HWX.out hG5 (by omega)
   have HB5:=ohid hb5
   have hsz5:=hG5.size
   have HV5:Hid (Vw w w5 (tkL w gh 0)):=by
    refine ⟨⟨fun p hp => ?_,?_⟩,HVX.out.lo,hb5⟩
    ·have h1:=HVX.out.cell p hp
     have h2:=HVX.out.vr.lt p hp
     rw [hG5.block p.1 h2 (fun e => by
      have h3:p.1 = gs:=by cases e;rfl
      simp only [tkL,List.mem_cons,List.not_mem_nil,or_false] at hp
      rcases hp with rfl | rfl
      ·simp at h3;omega
      ·simp at h3;omega)]
     exact h1
    ·exact HVX.out.vr.2
   have HH5:=ohid (HSX.out.but hG5 (by omega))
   have HO5:=ohid own5
   obtain ⟨L5,hL5⟩:∃ L,SV ((NS.s1 x).sealed b) x.own x.once x.S seen = L:=⟨_,rfl⟩
   have hlen5:L5.length = 226:=by rw [← hL5];exact hS5.slen
   have hrow5:w5.heap[gs]? = some (.cells L5.toArray 67 (0,0)):=by have:=hS5.row;rw [List.append_nil,hL5] at this;exact this
   have HI5:Hid ((Tryz.prog.info? 67).map (·.size) = some L5.toArray.size):=by show _ = _;have:=sd_info hS5.slen;rw [hL5] at this;simpa using this
   obtain ⟨Y,hY⟩:∃ Y,w5.drew = Y:=⟨_,rfl⟩
   have hgr:Below w5.heap.size w5 Y:=by rw [← hY];exact (Below.refl _ _).drew
   have HYe:=ohid hY
   have HVY:=ohid (HV5.out.later hgr)
   have HrowY:=ohid (row_later9 hrow5 hgr)
   have HHY:=ohid (HH5.out.later hgr)
   have HOY:=ohid (own_but HO5.out (grown_below hgr) (fun b' _ e => by cases e))
   have HBY:=ohid (HB5.out.trans (hgr.mono HB5.out.size))
   have hgsY:gs < Y.heap.size:=(Array.getElem?_eq_some_iff.1 HrowY.out).1
   obtain ⟨Y1,t1,hS1,hG1⟩:=HHY.out.putAll ((NS.s1 x).sealed b) x.own x.once x.S seen hS5.mi.c hS5.mi.h hS5.mi.k hS5.k4
   rw [hL5] at t1
   have HS1:=ohid hS1
   have HG1:=ohid hG1
   have q6:=HS1.out.next
   have f6:=HS1.out.frozen 226
   have HCY:Hid (∀ w',But gh Y w' → w'.cell? ⟨w.heap.size,0,none⟩ = some (.pointer (some ⟨gh,0,none⟩))):=fun w' hw' => (tk_but HVY.out hw' hgl).1
   have HRY:Hid (∀ w',But gh Y w' → w'.heap[gs]? = some (.cells L5.toArray 67 (0,0))):=fun w' hw' => (hw'.block gs hgsY (fun e => by cases e;omega)).trans HrowY.out
   have HGY:Hid (∀ w',But gh Y w' → w.grownBy w' (some gh)):=fun w' hw' => World.grownBy.trans (But.below gh HBY.out) hw'
   clear hG5 hS5 own5 hL5 hrow5 hY hgr hS1 hG1 hb5 HV5 HH5 HO5 HB5 HrowY HHY HSX HVX
   go_wp2_with fail
   refine wp_region_sched' (G:=But gh) (by kernel_rfl) (But.refl gh) (But.trans gh) (by kernel_rfl) [(0,true),(1,true),(2,true),(3,true),(4,true),(5,true),(6,true),(7,false),(8,true),(9,true),(10,false)] rfl (by kernel_rfl) ?_
   intro KK hKK
   rw [HYe.out]
   iterate 2 (refine sched_take rfl (by rfl) (v:=?_) ?_ ?_;rotate_left;(intro w' hw';have qq:=HCY.out w' hw';clear hw';go_simp;with_reducible rfl);go_simp)
   refine sched_take rfl (by rfl) (v:=.agg L5.toArray) (fun w' hw' => exec_load_row 67 _ rfl gs rfl 67 _ (0,0) _ (HRY.out w' hw') Tryz.underlying67 rfl HI5.out) ?_
   go_simp
   iterate 4 (refine sched_take rfl (by rfl) (v:=?_) ?_ ?_;rotate_left;(intro w' hw';clear hw';go_simp;with_reducible rfl);go_simp)
   refine sched_put rfl (by rfl) (w':=Y1) (by go_simp) HG1.out ?_
   clear t1
   go_simp
   iterate 2 (refine sched_take rfl (by rfl) (v:=?_) ?_ ?_;rotate_left;(intro w' hw';clear hw';go_simp;with_reducible rfl);go_simp)
   refine sched_put rfl (by rfl) (w':=Y1.setCell ⟨gh,226,none⟩ (.int .i64 6)) (by go_simp;rfl) (But.setCell _ gh 226 _) ?_
   clear q6 f6
   have hG2:But gh Y (Y1.setCell ⟨gh,226,none⟩ (.int .i64 6)):=But.trans gh _ _ _ HG1.out (But.setCell Y1 gh 226 _)
   have hS2:SdT (Y1.setCell ⟨gh,226,none⟩ (.int .i64 6)) gh 71 [.int .i64 ((6:Nat):Int)] ((NS.s1 x).sealed b) x.own x.once x.S seen:=HS1.out.setNext 6
   obtain ⟨Z,hZ⟩:∃ Z,Y1.setCell ⟨gh,226,none⟩ (.int .i64 6) = Z:=⟨_,rfl⟩
   rw [hZ] at hG2 hS2
   rw [hZ]
   obtain ⟨_,q7,f7⟩:=tk_but HVY.out hG2 hgl
   have HG2:=ohid hG2
   have HS2:=ohid hS2
   clear hG2 hS2 hZ HS1 HG1 HCY HRY
   go_simp
   refine sched_done hKK ?_
   clear hKK
   go_wp2
   have hG3:Z.grownBy (Z.setCell ⟨w.heap.size + 1,0,none⟩ (.int .i64 0)) (some (w.heap.size + 1)):=But.setCell Z (w.heap.size + 1) 0 _
   have hc3:(Z.setCell ⟨w.heap.size + 1,0,none⟩ (.int .i64 0)).cell? ⟨w.heap.size + 1,0,none⟩ = some (.int .i64 0):=cell_set_same q7
   have hS3:SdT (Z.setCell ⟨w.heap.size + 1,0,none⟩ (.int .i64 0)) gh _ _ _ _ _ _ _:=HS2.out.but hG3 (by omega)
   have hO3:=own_but (own_but HOY.out HG2.out (fun b' hb' e => by have:=(own_base HOY.out b' hb').1;cases e;omega)) hG3 (fun b' hb' e => by have:=(own_base HOY.out b' hb').1;cases e;omega)
   have hB3:w.grownBy (Z.setCell ⟨w.heap.size + 1,0,none⟩ (.int .i64 0)) (some gh):=by
    have h1:=HGY.out Z HG2.out
    exact ⟨hG3.os.trans h1.os,hG3.tape.trans h1.tape,hG3.output.trans h1.output,Nat.le_trans h1.size hG3.size,fun k hk hne => (hG3.block k (Nat.lt_of_lt_of_le hk h1.size) (fun e => by cases e;omega)).trans (h1.block k hk hne)⟩
   have hO4:=own_lower hO3 (show w.heap.size ≤ X.heap.size by omega)
   obtain ⟨U,hU⟩:∃ U,Z.setCell ⟨w.heap.size + 1,0,none⟩ (.int .i64 0) = U:=⟨_,rfl⟩
   rw [hU] at hc3 hS3 hO4 hB3
   rw [hU]
   clear hG3 hO3 hU q7 f7 HG2 HS2 HOY
   refine leaves_cons (f:=66) (args:=#[.pointer (some ⟨w.heap.size + 1,0,none⟩),.pointer (some ⟨w.heap.size,0,none⟩)]) (by simp) (by simp [go_sem]) ?_
   refine (ncatch_ok (w.heap.size + 1) w.heap.size U).mono ?_
   rintro e u' w'' ⟨rfl,rfl,rfl⟩
   simp only [settle,Leaves]
   refine ⟨.tuple #[v,.int .i64 0],?_,?_⟩
   ·simp [results,Tryz.results33,go_sem,hc3]
   unfold TkE
   refine ⟨v,q,?_,hB3,?_,.inl ⟨h0,hS3⟩⟩
   ·rw [h0];rfl
   ·rw [if_pos h0];exact hO4
  ·clear HQ HCl
   have hb5:Below w.heap.size w w5:=below_but HWX.out hG5 (by omega)
   have HV5:Hid (Vw w w5 (tkL w gh 0)):=by
    refine ⟨⟨fun p hp => ?_,?_⟩,HVX.out.lo,hb5⟩
    ·have h1:=HVX.out.cell p hp
     have h2:=HVX.out.vr.lt p hp
     rw [hG5.block p.1 h2 (fun e => by
      have h3:p.1 = gs:=by cases e;rfl
      simp only [tkL,List.mem_cons,List.not_mem_nil,or_false] at hp
      rcases hp with rfl | rfl
      ·simp at h3;omega
      ·simp at h3;omega)]
     exact h1
    ·exact HVX.out.vr.2
   obtain ⟨er,her⟩:∃ er,sE x = er:=⟨_,rfl⟩
   rw [her] at h0 ⊢
   obtain ⟨q1,_⟩:=tk_box HV5.out
   obtain ⟨q2,f2⟩:=tk_err HV5.out
   have hS0:=HSX.out.but hG5 (by omega)
   have q3:=hS0.next
   have f3:=hS0.frozen 226
   have HF:=ohid (HS.out.fail (tk_set HV5.out (er:Int)).bel)
   have HC2:Hid (((w5.setCell ⟨w.heap.size + 1,0,none⟩ (.int .i64 (er:Int))).setCell ⟨gh,226,none⟩ (.int .i64 0)).cell? ⟨w.heap.size + 1,0,none⟩ = some (.int .i64 (er:Int))):=(tk_but (tk_set HV5.out (er:Int)) (But.setCell _ gh 226 _) hgl).2.1
   have HE:=ohid (And.intro her h0)
   clear hS0 hG5 hb5 HVX HSX HV5 her h0
   go_wp2_with fail
   refine leaves_cons (f:=66) (args:=#[.pointer (some ⟨w.heap.size + 1,0,none⟩),.pointer (some ⟨w.heap.size,0,none⟩)]) (by simp) (by simp [go_sem]) ?_
   refine (ncatch_no (w.heap.size + 1) w.heap.size gh er [] w5 q2 f2 q1 (by omega) (by omega) (x.code:Int) q3 f3).mono ?_
   rintro e u' w'' ⟨rfl,rfl,rfl⟩
   have hc2:=HC2.out
   have hh:=HF.out
   obtain ⟨Z,hZ⟩:∃ Z,(w5.setCell ⟨w.heap.size + 1,0,none⟩ (.int .i64 (er:Int))).setCell ⟨gh,226,none⟩ (.int .i64 0) = Z:=⟨_,rfl⟩
   rw [hZ] at hc2 hh
   rw [hZ]
   clear hZ HF HC2 q1 q2 q3 f2 f3
   simp only [settle,Leaves,List.dropWhile_nil]
   refine ⟨.tuple #[.slice none 0 0,.int .i64 (er:Int)],?_,?_⟩
   ·simp [results,Tryz.results33,go_sem,hc2]
   unfold TkE
   rw [HE.out.1]
   refine ⟨.slice none 0 0,0,?_,hh.2,?_,.inr ⟨HE.out.2,hh.1⟩⟩
   ·rfl
   ·rw [if_neg HE.out.2];exact ⟨rfl,.inl ⟨rfl,rfl⟩⟩
set_option maxHeartbeats 4000000 in
theorem nSecond_any (gh:Nat) (x:NS) (c:Option Addr) (lc cc:Nat) (b:List UInt8) (w:World) (hH:HaIs w gh x) (hB:Byt w c lc b) (hBn:c = none → cc = 0) (hlc:lc ≤ 800) (hcc:lc ≤ cc) (hccm:cc ≤ maxLen) (hcw:0 < lc → ∀ y o f,c = some ⟨y,o,f⟩ → y < w.heap.size) (hT:TT w) (hg:Gok gh) :
  Calls Tryz.prog 18 #[.pointer (some ⟨gh,0,none⟩),.slice c lc cc] w fun e w' => HdE w w' gh e (NS.secondErr x) (NS.second x b) (NS.secondOut x b):=by
 have hgl:=hH.lt
 have HH:=ohid hH
 have HB:=ohid hB
 have HT:=ohid hT
 have HG:=ohid hg
 have HCw:=ohid hcw
 have hmf:∀ (fn:Fn) (first cap:Array Value) (w:World),(Instr.makeFunc fn first cap).run Tryz.prog w = .ok (.func fn first cap) w:=fun _ _ _ _ => rfl
 have hb1:Below w.heap.size w (w.alloc (.cells #[.slice c lc cc] 22)):=(Below.refl _ _).alloc (Nat.le_refl _) _
 have hrow:=heap_alloc_new w (.cells #[.slice c lc cc] 22)
 have HB1:Hid (∀ w',w' = w.alloc (.cells #[.slice c lc cc] 22) → Below w.heap.size w w' ∧ w'.heap[w.heap.size]? = some (.cells #[.slice c lc cc] 22 (0,0))):=fun w' e => by rw [e];exact ⟨hb1,hrow⟩
 clear hH hB hT hg hcw hb1 hrow
 go_enter Tryz.func18,Tryz.ntmps18
 go_wp2_with fail
 obtain ⟨W,hW⟩:∃ W,w.alloc (.cells #[.slice c lc cc] 22) = W:=⟨_,rfl⟩
 obtain ⟨hb1,hrow⟩:=HB1.out W hW.symm
 have HW:=ohid hb1
 have HR:=ohid hrow
 rw [hW]
 clear hW hb1 hrow HB1 hmf
 by_cases hs:x.starts = false ∧ x.st = 1
 ·obtain ⟨seen,hHS⟩:=HH.out.later HW.out
  have hcode:x.code = 5:=by unfold NS.code;rw [hs.1,hs.2];rfl
  have hE:NS.secondErr x = sE x:=by unfold NS.secondErr;rw [if_pos hs];rfl
  have hn:=hHS.n
  have HE:=ohid hE
  have HS:=ohid hs
  refine (ntake_second gh w.heap.size x seen c lc cc b W hHS hcode (hHS.se hs.1 hs.2) HR.out (HB.out.later HW.out) hBn hlc hcc hccm (fun h0 y o f e => Nat.lt_of_lt_of_le (HCw.out h0 y o f e) HW.out.size) (HT.out.later HW.out) HG.out).mono ?_
  intro e w2 hT2
  unfold TkE at hT2
  obtain ⟨v,q,rfl,hG2,own2,hor⟩:=hT2
  have HG2:Hid (w.grownBy w2 (some gh)):=World.grownBy.trans (But.below gh HW.out) hG2
  have HO2:=ohid (own_lower own2 HW.out.size)
  have HI2:Hid (HaIs w2 gh (NS.second x b)):=by
   show HaIs _ _ _
   unfold NS.second
   rw [hE]
   rcases hor with ⟨h0,hS2⟩ | ⟨h0,hS2⟩
   ·rw [if_pos h0]
    exact ⟨_,⟨by show SdT _ _ _ [.int .i64 ((NS.code _:Nat):Int)] _ _ _ _ _;rw [show NS.code _ = 6 by unfold NS.code;rw [hs.1];rfl];exact hS2,.inr (.inr (.inl rfl)),(fun _ h => absurd (show (2:Nat) = 1 from h) (by decide)),Nat.le_trans (Nat.le_of_eq (MS.sealed_n _ _ _)) (by omega)⟩⟩
   ·rw [if_neg h0];exact hS2
  clear hG2 own2 hor hE hs hcode hHS
  obtain ⟨er,her⟩:∃ er,sE x = er:=⟨_,rfl⟩
  rw [her] at HE HO2
  rw [her]
  clear her
  go_wp2_with fail
  go_ret2
  unfold HdE
  refine ⟨v,q,?_,HG2.out,HI2.out,?_⟩
  ·exact congrArg (fun k:Nat => Ending.returned (.tuple #[v,.int .i64 (k:Int)])) HE.out.symm
  ·rw [HE.out];exact HO2.out
 ·have hE:NS.secondErr x = 10:=by unfold NS.secondErr;rw [if_neg hs]
  have hst:NS.second x b = x.fails:=by unfold NS.second;rw [hE];rfl
  have hcode:x.code ≠ 5:=by
   obtain ⟨seen,hHS⟩:=HH.out
   have h1:=hHS.st
   unfold NS.code
   cases hx:x.starts <;> rw [hx] at hs <;> simp at hs ⊢ <;> (try split) <;> omega
  have HE:=ohid (And.intro hE hst)
  clear hE hst hs
  refine (ntake_state gh x 5 _ W (HH.out.later HW.out) hcode).mono ?_
  rintro e w2 ⟨rfl,hG2,hI2⟩
  have HG2:Hid (w.grownBy w2 (some gh)):=World.grownBy.trans (But.below gh HW.out) hG2
  have HI2:=ohid hI2
  clear hG2 hI2 hcode
  go_wp2_with fail
  go_ret2
  unfold HdE
  rw [HE.out.1,HE.out.2]
  exact ⟨.slice none 0 0,0,rfl,HG2.out,HI2.out,⟨rfl,.inl ⟨rfl,rfl⟩⟩⟩
end Go.Proofs.YthmkhdnnljdglaaGreatDoor
