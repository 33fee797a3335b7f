import Derived.Test.YtbkfildnijjioaaGreatA11
import Derived.Test.YtbkfildnijjioaaGreatA08
import Derived.Test.YtbkfildnijjioaaGreatA10
namespace Go.Proofs.YtbkfildnijjioaaGreat
open Go.RowKit
section
variable {F:Nat->Prop} {w w':World} {kb:Nat} {h:KH} {s:RS} {tk wt:List Nat} {ws:List Int}
theorem KFit.got (f:KFit s) (t:Nat) (v:Int):KFit (R.gets s t v):=by
 have hth:∀ u,(R.th (R.gets s t v).T u).for_=(R.th s.T u).for_/\(R.th (R.gets s t v).T u).of_=(R.th s.T u).of_:=fun u=>by
  unfold R.gets
  dsimp only
  rw [Ln.th_modify]
  split <;> exact ⟨rfl,rfl⟩
 refine ⟨by simpa [R.gets] using f.few,f.m8,f.ok.len,fun i hi=>by simpa [R.gets] using f.ok.own i hi,fun u hu hf=>?_,f.ok.kind⟩
 rw [(hth u).2]
 exact f.ok.of1 u (by simpa [R.gets] using hu) (by rw [<- (hth u).1]; exact hf)
theorem Ln.Aux.got (a:Ln.Aux s tk wt) (f:KFit s) (t:Nat) (v:Int):Ln.Aux (R.gets s t v) tk wt:=a.modify f.ok t _ (fun _=>⟨rfl,rfl,rfl,rfl,id⟩)
theorem boxAt_is (k:Nat) (hk:k < s.box.length):R.boxAt s k=s.box[k]:=by simp [R.boxAt,List.getD,hk]
set_option linter.unusedSimpArgs false in
set_option maxRecDepth 100000 in
set_option maxHeartbeats 4000000 in
theorem kSend_any (m:KMem F w kb h s tk wt ws) (f:KFit s) (a:Ln.Aux s tk wt) (k:Nat) (hk:k < s.box.length) (h8:s.box.length<=8) (hq0:(s.box[k].length:Int)<=s.set.queues.getD k 0) (hq1:s.set.queues.getD k 0<=1000) (v:Int) :
  Calls Tryz.prog 161 #[.pointer (some ⟨kb,0,none⟩),.int .i64 k,.int .i64 v] w fun e w'=>e=.returned (.int .i64 (R.sendC s k))/\∃ h' tk' wt',KMem F w' kb h' (R.sendS s k v) tk' wt' ws/\Ln.Aux (R.sendS s k v) tk' wt'/\Only (kW kb h) w w'/\KUp w h h':=by
 have eb:=boxAt_is k hk
 have EC:Hid (R.sendC s k=if 0<=R.giveT s 3 (k:Int) then 0 else if (s.box[k].length:Int)=s.set.queues.getD k 0 then 7 else 0):=by unfold R.sendC; rw [eb]; exact hid rfl
 have ES:Hid (R.sendS s k v=if 0<=R.giveT s 3 (k:Int) then R.gets (R.giveS s 3 (k:Int)) (R.giveT s 3 (k:Int)).toNat v else if (s.box[k].length:Int)=s.set.queues.getD k 0 then s else { s with box:=s.box.set k (s.box[k] ++ [v]) }):=by unfold R.sendS; rw [eb]; exact hid rfl
 have hkI:(k:Int) < (s.box.length:Int):=by omega
 have CG:=hid (kGive_any m f a 3 (k:Int) (by decide))
 obtain ⟨e1,e2,e3⟩:=giveS_stores s 3 (k:Int)
 have E3:=hid e3
 have hbd:=giveT_bd' s 3 (k:Int)
 have hsl:=(giveS_owner s 3 (k:Int)).2.2
 have FT:=hid f
 have FG:=hid (f.give 3 (k:Int))
 have hfew:=f.few
 obtain ⟨i3,hi3,hz30,hz31,hz32⟩:=info_parts Tryz.infoInt
 have HI3:=hid (And.intro hi3 (And.intro hz30 (And.intro hz31 hz32)))
 clear hi3 hz30 hz31 hz32
 clear m a eb e1 e2 e3 f
 generalize R.sendS s k v=ss at *
 generalize R.sendC s k=cc at *
 generalize R.giveS s 3 (k:Int)=sg at *
 generalize R.giveT s 3 (k:Int)=tg at *
 go_enter Tryz.func161,Tryz.ntmps161
 go_wp2_with fail
 refine CG.out.mono ?_
 rintro e w1 ⟨rfl,h1,tk1,wt1,m1,a1,o1,u1⟩
 have M1:=hid m1
 have A1:=hid a1
 have O1:=hid (o1.mono kW_give)
 have U1:=hid u1
 clear m1 a1 o1 u1 CG
 by_cases hg:tg=-1
 ·have hsg:sg=s:=E3.out (by omega)
  subst hsg
  rw [if_neg (by omega)] at EC ES
  subst hg
  have c3:=M1.out.blk.cell 4
  simp [kCells] at c3
  have b3:w1.cell? ⟨h1.gQ,k * 2,none⟩=some (.int .i64 (sg.set.queues.getD k 0)):=M1.out.qcell hk 0 (by decide)
  have b4:=M1.out.qcell hk 1 (by decide)
  simp [kqCells] at b4
  have f3:=M1.out.qfrozen (k * 2 + 1)
  have ROW:=hid (M1.out.st.boxes k hk)
  have hnq:k < h1.nq:=by rw [M1.out.st.nq]; exact hk
  obtain ⟨ao,ca,hv,hla,hna⟩:=ListAt.of_row ROW.out
  have HV:=hid hv
  rw [hv] at b4
  clear hla hna hv E3
  obtain ⟨room,HMO⟩:∃ x,Hid (sg.set.queues.getD k 0=x):=⟨_,hid rfl⟩
  rw [HMO.out] at hq0 hq1 b3 EC ES
  clear HMO
  by_cases hfull:(sg.box[k].length:Int)=room
  ·have HC:Hid (cc=7):=by rw [EC.out,if_pos hfull]; exact hid rfl
   have HS:Hid (ss=sg):=by rw [ES.out,if_pos hfull]; exact hid rfl
   subst hfull
   clear EC ES ROW
   generalize sg.box[k]=bx at *
   go_wp2_with fail
   go_quiet (fail)
   go_wp2
   go_ret
   refine ⟨ret_int HC.out.symm,h1,tk1,wt1,?_,?_,O1.out.drewN _,U1.out⟩
   ·rw [HS.out]; exact M1.out.drewN _
   ·rw [HS.out]; exact A1.out
  ·have HC:Hid (cc=0):=by rw [EC.out,if_neg hfull]; exact hid rfl
   have HS:Hid (ss={ sg with box:=sg.box.set k (sg.box[k] ++ [v]) }):=by rw [ES.out,if_neg hfull]; exact hid rfl
   have hlt:(sg.box[k].length:Int) < room:=by omega
   have A2:Hid (Ln.Aux { sg with box:=sg.box.set k (sg.box[k] ++ [v]) } tk1 wt1):=A1.out.stores FT.out sg.count _
   clear EC ES
   obtain ⟨B,HB⟩:∃ x,Hid (sg.box[k]=x):=⟨_,hid rfl⟩
   rw [HB.out] at HV ROW b4 hlt HS hq0 A2
   clear hfull
   have hB8:(B.length:Int) < 1000:=by omega
   go_wp2_with fail
   go_quiet (fail)
   go_wp2_with fail
   have m1q:=M1.out.drewN nq
   have o1q:=O1.out.drewN nq
   clear b4 ROW M1 O1 f3 b3 c3
   generalize w1.drewN nq=wq at m1q o1q ⊢
   have ROWq:Hid (wq.ownsRow 0 3 1 (h1.qv k) B.length (intCells B)):=by
    have:=m1q.st.boxes k hk
    rw [HB.out] at this
    exact hid this
   have c3:=m1q.blk.cell 4
   simp [kCells] at c3
   have b4q:wq.cell? ⟨h1.gQ,k * 2 + 1,none⟩=some (.slice ao B.length ca):=by
    have:=m1q.qcell hk 1 (by decide)
    simp [kqCells] at this
    rw [this,HV.out]
   have M1q:=hid m1q
   have O1q:=hid o1q
   clear m1q o1q
   have hbA:Below wq.heap.size wq (wq.drew.alloc (.cells #[.int .i64 v] 3)):=(Below.refl _ _).drew.alloc (Nat.le_refl _) _
   have HBA:=hid hbA
   have MD:=hid (M1q.out.below hbA)
   have ROWD:=hid (MD.out.st.boxes k hk)
   rw [HB.out,HV.out] at ROWD
   have SQ:=hid (fun (w3:World) (v3:Value)=>M1q.out.setQ' (w1:=w3) k hk (v:=v3) (l:=B ++ [v]))
   have HGN:Hid (∀ b e,Typ wq b e->e ≠ 3->(Value.slice ao B.length ca).ownBlock ≠ some b):=fun b e ht he hx=>by
    have:=own_typ ROWq.out (g:=b) (by rw [HV.out]; exact hx)
    exact this.ne ht (Ne.symm he) rfl
   have HNK:=hid (HGN.out kb _ M1q.out.kT (by decide))
   have HNQ:=hid (HGN.out h1.gQ _ (own_typ M1q.out.st.qrow rfl) (by decide))
   have hkbl:=M1q.out.kT.lt
   have hgQl:h1.gQ < wq.heap.size:=(own_typ M1q.out.st.qrow rfl).lt
   have hkq:h1.gQ ≠ kb:=fun e=>((own_typ M1q.out.st.qrow rfl:Typ wq h1.gQ _).ne M1q.out.kT (by decide) e)
   have ka1:(wq.alloc (.cells #[.int .i64 v] 3)).cell? ⟨kb,4,none⟩=some (.slice (some ⟨h1.gQ,0,none⟩) sg.box.length h1.cQ):=by
    rw [((Below.refl _ _).alloc (Nat.le_refl _) _).cell (p:=⟨kb,4,none⟩) hkbl]; exact c3
   have ka4:(wq.alloc (.cells #[.int .i64 v] 3)).cell? ⟨h1.gQ,k * 2 + 1,none⟩=some (.slice ao B.length ca):=by
    rw [((Below.refl _ _).alloc (Nat.le_refl _) _).cell (p:=⟨h1.gQ,k * 2 + 1,none⟩) hgQl]; exact b4q
   have ka5:(wq.drew.alloc (.cells #[.int .i64 v] 3)).cell? ⟨h1.gQ,k * 2 + 1,none⟩=some (.slice ao B.length ca):=ka4
   have HQB:Hid (h1.qv k=.slice ao B.length ca):=HV.out
   have FIN:Hid (∀ (w5:World) (tv5:Option Addr) (tc5:Nat),w5.ownsRow 0 3 1 (.slice tv5 (B.length + 1) tc5) (B.length + 1) (intCells B ++ [.int .i64 v])->(wq.drew.alloc (.cells #[.int .i64 v] 3)).grownBy w5 (Value.slice ao B.length ca).ownBlock->((Value.slice tv5 (B.length + 1) tc5).ownBlock=(Value.slice ao B.length ca).ownBlock\/(Value.slice tv5 (B.length + 1) tc5).ownBlock=some (wq.drew.alloc (.cells #[.int .i64 v] 3)).heap.size) ->
     ∃ h',KMem F (w5.setCell ⟨h1.gQ,k * 2 + 1,none⟩ (.slice tv5 (B.length + 1) tc5)) kb h' { sg with box:=sg.box.set k (B ++ [v]) } tk1 wt1 ws/\KUp w h h'/\Only (kW kb h) w (w5.setCell ⟨h1.gQ,k * 2 + 1,none⟩ (.slice tv5 (B.length + 1) tc5))):=by
    intro w5 tv5 tc5 hown hgr hat
    have hszA:=HBA.out.size
    have hr5:w5.ownsRow 0 3 1 (.slice tv5 (B.length + 1) tc5) (B ++ [v]).length (intCells (B ++ [v])):=by
     rw [intCells_append,List.length_append]
     exact hown
    obtain ⟨h2,m2,u2⟩:=SQ.out w5 (.slice tv5 (B.length + 1) tc5) (fun b hb hn=>by
      rw [hgr.block b (Nat.lt_of_lt_of_le hb hszA) (fun e=>hn (by rw [HQB.out]; exact e.symm)),HBA.out.block b hb]) hr5 (fun g hg=>by
      rcases hat with e | e
      ·rw [e] at hg
       exact .inl (by rw [HQB.out]; exact hg)
      ·rw [e] at hg
       cases hg
       exact .inr hszA)
    have oA:Only (kW kb h) w (wq.drew.alloc (.cells #[.int .i64 v] 3)):=O1q.out.trans (Only.of_below HBA.out)
    have o5:Only (kW kb h) w w5:=by
     refine ⟨hgr.os.trans oA.os,hgr.tape.trans oA.tape,hgr.output.trans oA.output,Nat.le_trans oA.size hgr.size,fun b hb hn=>?_⟩
     rw [hgr.block b (Nat.lt_of_lt_of_le hb oA.size) (fun e=>?_)]
     ·exact oA.block b hb hn
     ·have hkk:KSB h1 b:=.inr (.inr ⟨k,hnq,by rw [HQB.out]; exact e.symm⟩)
      rcases U1.out.st b hkk with e' | e'
      ·rcases e' with e' | e' | ⟨i,hi,e'⟩
       ·exact hn (by rw [e']; exact kW_gS)
       ·exact hn (by rw [e']; exact kW_gQ)
       ·exact hn (kW_q hi e')
      ·omega
    exact ⟨h2,m2,U1.out.trans u2 O1q.out.size,o5.setCell (.inl (by rw [U1.out.gQ]; exact kW_gQ)) _⟩
   clear hbA SQ HGN HQB HV ROWq
   refine wp_region_held_drew (S:=(fun w'=>w'.cell? ⟨kb,4,none⟩=some (.slice (some ⟨h1.gQ,0,none⟩) sg.box.length h1.cQ))) (by kernel_rfl) ?_ (fun hHeld=>?_)
   ·exact c3
   (refine wpAnyH_take (i:=0) (v:=?_) rfl (by kernel_rfl) (by kernel_rfl) (by kernel_rfl) (fun _ _ _ h=>h) (Or.inl ⟨by rfl,?_⟩) (by assumption) ?_; rotate_left 1; (intro w hSw; (try dsimp only at hSw); go_simp); (try with_reducible rfl); (try simp only [Act.put,List.setIfInBounds_toArray,List.set_cons_zero,List.set_cons_succ]))
   (refine wpAnyH_take (i:=1) (v:=?_) rfl (by kernel_rfl) (by kernel_rfl) (by kernel_rfl) (fun _ _ _ h=>h) (Or.inl ⟨by rfl,?_⟩) (by assumption) ?_; rotate_left 1; (intro w hSw; (try dsimp only at hSw); go_simp); (try with_reducible rfl); (try simp only [Act.put,List.setIfInBounds_toArray,List.set_cons_zero,List.set_cons_succ]))
   (refine wpAnyH_take (i:=2) (v:=?_) rfl (by kernel_rfl) (by kernel_rfl) (by kernel_rfl) (fun _ _ _ h=>h) (Or.inl ⟨by rfl,?_⟩) (by assumption) ?_; rotate_left 1; (intro w hSw; (try dsimp only at hSw); go_simp); (try with_reducible rfl); (try simp only [Act.put,List.setIfInBounds_toArray,List.set_cons_zero,List.set_cons_succ]))
   (refine wpAnyH_take (i:=3) (v:=?_) rfl (by kernel_rfl) (by kernel_rfl) (by kernel_rfl) (fun _ _ _ h=>h) (Or.inl ⟨by rfl,?_⟩) (by assumption) ?_; rotate_left 1; (intro w hSw; (try dsimp only at hSw); go_simp); (try with_reducible rfl); (try simp only [Act.put,List.setIfInBounds_toArray,List.set_cons_zero,List.set_cons_succ]))
   (refine wpAnyH_take (i:=4) (v:=?_) rfl (by kernel_rfl) (by kernel_rfl) (by kernel_rfl) (fun _ _ _ h=>h) (Or.inl ⟨by rfl,?_⟩) (by assumption) ?_; rotate_left 1; (intro w hSw; (try dsimp only at hSw); go_simp); (try with_reducible rfl); (try simp only [Act.put,List.setIfInBounds_toArray,List.set_cons_zero,List.set_cons_succ]))
   (refine wpAnyH_take (i:=5) (v:=?_) rfl (by kernel_rfl) (by kernel_rfl) (by kernel_rfl) (fun _ _ _ h=>h) (Or.inl ⟨by rfl,?_⟩) (by assumption) ?_; rotate_left 1; (intro w hSw; (try dsimp only at hSw); go_simp); (try with_reducible rfl); (try simp only [Act.put,List.setIfInBounds_toArray,List.set_cons_zero,List.set_cons_succ]))
   (refine wpAnyH_take (i:=6) (v:=?_) rfl (by kernel_rfl) (by kernel_rfl) (by kernel_rfl) (fun _ _ _ h=>h) (Or.inl ⟨by rfl,?_⟩) (by assumption) ?_; rotate_left 1; (intro w hSw; (try dsimp only at hSw); go_simp); (try with_reducible rfl); (try simp only [Act.put,List.setIfInBounds_toArray,List.set_cons_zero,List.set_cons_succ]))
   (refine wpAnyH_take (i:=7) (v:=?_) rfl (by kernel_rfl) (by kernel_rfl) (by kernel_rfl) (fun _ _ _ h=>h) (Or.inl ⟨by rfl,?_⟩) (by assumption) ?_; rotate_left 1; (intro w hSw; (try dsimp only at hSw); go_simp); (try with_reducible rfl); (try simp only [Act.put,List.setIfInBounds_toArray,List.set_cons_zero,List.set_cons_succ]))
   (refine wpAnyH_take (i:=8) (v:=?_) rfl (by kernel_rfl) (by kernel_rfl) (by kernel_rfl) (fun _ _ _ h=>h) (Or.inl ⟨by rfl,?_⟩) (by assumption) ?_; rotate_left 1; (intro w hSw; (try dsimp only at hSw); go_simp); (try with_reducible rfl); (try simp only [Act.put,List.setIfInBounds_toArray,List.set_cons_zero,List.set_cons_succ]))
   (refine wpAnyH_take (i:=9) (v:=?_) rfl (by kernel_rfl) (by kernel_rfl) (by kernel_rfl) (fun _ _ _ h=>h) (Or.inl ⟨by rfl,?_⟩) (by assumption) ?_; rotate_left 1; (intro w hSw; (try dsimp only at hSw); go_simp); (try with_reducible rfl); (try simp only [Act.put,List.setIfInBounds_toArray,List.set_cons_zero,List.set_cons_succ]))
   (refine wpAnyH_take (i:=10) (v:=?_) rfl (by kernel_rfl) (by kernel_rfl) (by kernel_rfl) (fun _ _ _ h=>h) (Or.inl ⟨by rfl,?_⟩) (by assumption) ?_; rotate_left 1; (intro w hSw; (try dsimp only at hSw); go_simp); (try with_reducible rfl); (try simp only [Act.put,List.setIfInBounds_toArray,List.set_cons_zero,List.set_cons_succ]))
   (refine wpAnyH_take (i:=11) (v:=?_) rfl (by kernel_rfl) (by kernel_rfl) (by kernel_rfl) (fun _ _ _ h=>h) (Or.inl ⟨by rfl,?_⟩) (by assumption) ?_; rotate_left 1; (intro w hSw; (try dsimp only at hSw); go_simp); (try with_reducible rfl); (try simp only [Act.put,List.setIfInBounds_toArray,List.set_cons_zero,List.set_cons_succ]))
   (refine wpAnyH_take (i:=13) (v:=?_) rfl (by kernel_rfl) (by kernel_rfl) (by kernel_rfl) (fun _ _ _ h=>h) (Or.inl ⟨by rfl,?_⟩) (by assumption) ?_; rotate_left 1; (intro w hSw; (try dsimp only at hSw); go_simp); (try with_reducible rfl); (try simp only [Act.put,List.setIfInBounds_toArray,List.set_cons_zero,List.set_cons_succ]))
   refine wpAnyH_ready (rs:=[12,14]) (by kernel_rfl) (by simp) ?_
   refine AllReadyH.cons (i:=12) rfl (fun K hK=>?_) (AllReadyH.cons (i:=14) rfl (fun K hK=>?_) AllReadyH.nil)
   ·go_simp
    refine hK.out _ _ ?_ (fun hHeld=>?_)
    ·exact c3
    clear hK K
    try simp only [Act.put,List.setIfInBounds_toArray,List.set_cons_zero,List.set_cons_succ]
    refine wpAnyH_ready (rs:=[14]) (by kernel_rfl) (by simp) ?_
    refine AllReadyH.cons (i:=14) rfl (fun K hK=>?_) AllReadyH.nil
    go_simp
    refine hK.out _ _ ?_ (fun hHeld=>?_)
    ·exact ka1
    clear hK K
    try simp only [Act.put,List.setIfInBounds_toArray,List.set_cons_zero,List.set_cons_succ]
    refine wpAnyH_ready (rs:=[15]) (by kernel_rfl) (by simp) ?_
    refine AllReadyH.cons (i:=15) rfl (fun K hK=>?_) AllReadyH.nil
    refine step_append_own_at rfl (.tmp 53) (.tmp 55) 25 rfl 0 3 i3 (.int .i64 0) 1 8 Tryz.underlying25 HI3.out.1 HI3.out.2.1 HI3.out.2.2.1 HI3.out.2.2.2 rfl (by decide) (.slice ao B.length ca) B.length (intCells B) (by simp [Act.eval]) ROWD.out ⟨wq.heap.size,0,none⟩ 1 1 [.int .i64 v] (by simp [Act.eval]) rfl (fun j u hj=>(by rw [Addr.add_lit,Nat.zero_add]; exact ((Blk.new wq.drew #[.int .i64 v] 3).cell j).trans (by simpa using hj))) (by intro u hu; simp at hu; subst hu; rfl) (by unfold maxLen; omega) (by omega) (Nat.zero_le _) ?_; intro v' w5 hown5 hg5 hat5; obtain ⟨tv5,tc5,rfl,_,_⟩:=owns_cells hown5; have z5:w5.frozen? ⟨h1.gQ,k * 2 + 1,none⟩=false:=(by rw [World.frozen?_of_block (hg5.block h1.gQ (by simp; omega) (fun e=>HNQ.out e.symm))]; exact MD.out.qfrozen _); have y5:w5.cell? ⟨h1.gQ,k * 2 + 1,none⟩=some (.slice ao B.length ca):=(by rw [World.cell?_of_block (hg5.block h1.gQ (by simp; omega) (fun e=>HNQ.out e.symm))]; exact ka4); have s5:w5.cell? ⟨kb,4,none⟩=some (.slice (some ⟨h1.gQ,0,none⟩) sg.box.length h1.cQ):=(by rw [World.cell?_of_block (hg5.block kb (by simp; omega) (fun e=>HNK.out e.symm))]; exact ka1); have O5:=hid hown5; have G5:=hid hg5; have A5:=hid hat5; clear hown5 hg5 hat5
    refine hK.out _ _ ?_ (fun hHeld=>?_)
    ·exact s5
    clear hK K
    try simp only [Act.put,List.setIfInBounds_toArray,List.set_cons_zero,List.set_cons_succ]
    (refine wpAnyH_take (i:=16) (v:=?_) rfl (by kernel_rfl) (by kernel_rfl) (by kernel_rfl) (fun _ _ _ h=>h) (Or.inl ⟨by rfl,?_⟩) (by assumption) ?_; rotate_left 1; (intro w hSw; (try dsimp only at hSw); go_simp); (try with_reducible rfl); (try simp only [Act.put,List.setIfInBounds_toArray,List.set_cons_zero,List.set_cons_succ]))
    (refine wpAnyH_take (i:=17) (v:=?_) rfl (by kernel_rfl) (by kernel_rfl) (by kernel_rfl) (fun _ _ _ h=>h) (Or.inl ⟨by rfl,?_⟩) (by assumption) ?_; rotate_left 1; (intro w hSw; (try dsimp only at hSw); go_simp); (try with_reducible rfl); (try simp only [Act.put,List.setIfInBounds_toArray,List.set_cons_zero,List.set_cons_succ]))
    refine wpAnyH_ready (rs:=[18]) (by kernel_rfl) (by simp) ?_
    refine AllReadyH.cons (i:=18) rfl (fun K hK=>?_) AllReadyH.nil
    go_simp
    refine hK.out _ _ ?_ (fun hHeld=>?_)
    ·exact (World.cell?_of_block (Below.heap_setCell _ _ _ _ hkq.symm)).trans s5
    clear hK K
    try simp only [Act.put,List.setIfInBounds_toArray,List.set_cons_zero,List.set_cons_succ]
    refine wpAnyH_done (by kernel_rfl) ?_ _
    go_wp2
    go_ret
    obtain ⟨h2,m2,u2,o2⟩:=FIN.out w5 tv5 tc5 O5.out G5.out A5.out
    refine ⟨ret_int HC.out.symm,h2,tk1,wt1,?_,?_,o2,u2⟩
    ·rw [HS.out]; exact m2
    ·rw [HS.out]; exact A2.out
   ·go_simp
    refine hK.out _ _ ?_ (fun hHeld=>?_)
    ·exact ka1
    clear hK K
    try simp only [Act.put,List.setIfInBounds_toArray,List.set_cons_zero,List.set_cons_succ]
    refine wpAnyH_ready (rs:=[12]) (by kernel_rfl) (by simp) ?_
    refine AllReadyH.cons (i:=12) rfl (fun K hK=>?_) AllReadyH.nil
    go_simp
    refine hK.out _ _ ?_ (fun hHeld=>?_)
    ·exact ka1
    clear hK K
    try simp only [Act.put,List.setIfInBounds_toArray,List.set_cons_zero,List.set_cons_succ]
    refine wpAnyH_ready (rs:=[15]) (by kernel_rfl) (by simp) ?_
    refine AllReadyH.cons (i:=15) rfl (fun K hK=>?_) AllReadyH.nil
    refine step_append_own_at rfl (.tmp 53) (.tmp 55) 25 rfl 0 3 i3 (.int .i64 0) 1 8 Tryz.underlying25 HI3.out.1 HI3.out.2.1 HI3.out.2.2.1 HI3.out.2.2.2 rfl (by decide) (.slice ao B.length ca) B.length (intCells B) (by simp [Act.eval]) ROWD.out ⟨wq.heap.size,0,none⟩ 1 1 [.int .i64 v] (by simp [Act.eval]) rfl (fun j u hj=>(by rw [Addr.add_lit,Nat.zero_add]; exact ((Blk.new wq.drew #[.int .i64 v] 3).cell j).trans (by simpa using hj))) (by intro u hu; simp at hu; subst hu; rfl) (by unfold maxLen; omega) (by omega) (Nat.zero_le _) ?_; intro v' w5 hown5 hg5 hat5; obtain ⟨tv5,tc5,rfl,_,_⟩:=owns_cells hown5; have z5:w5.frozen? ⟨h1.gQ,k * 2 + 1,none⟩=false:=(by rw [World.frozen?_of_block (hg5.block h1.gQ (by simp; omega) (fun e=>HNQ.out e.symm))]; exact MD.out.qfrozen _); have y5:w5.cell? ⟨h1.gQ,k * 2 + 1,none⟩=some (.slice ao B.length ca):=(by rw [World.cell?_of_block (hg5.block h1.gQ (by simp; omega) (fun e=>HNQ.out e.symm))]; exact ka4); have s5:w5.cell? ⟨kb,4,none⟩=some (.slice (some ⟨h1.gQ,0,none⟩) sg.box.length h1.cQ):=(by rw [World.cell?_of_block (hg5.block kb (by simp; omega) (fun e=>HNK.out e.symm))]; exact ka1); have O5:=hid hown5; have G5:=hid hg5; have A5:=hid hat5; clear hown5 hg5 hat5
    refine hK.out _ _ ?_ (fun hHeld=>?_)
    ·exact s5
    clear hK K
    try simp only [Act.put,List.setIfInBounds_toArray,List.set_cons_zero,List.set_cons_succ]
    (refine wpAnyH_take (i:=16) (v:=?_) rfl (by kernel_rfl) (by kernel_rfl) (by kernel_rfl) (fun _ _ _ h=>h) (Or.inl ⟨by rfl,?_⟩) (by assumption) ?_; rotate_left 1; (intro w hSw; (try dsimp only at hSw); go_simp); (try with_reducible rfl); (try simp only [Act.put,List.setIfInBounds_toArray,List.set_cons_zero,List.set_cons_succ]))
    (refine wpAnyH_take (i:=17) (v:=?_) rfl (by kernel_rfl) (by kernel_rfl) (by kernel_rfl) (fun _ _ _ h=>h) (Or.inl ⟨by rfl,?_⟩) (by assumption) ?_; rotate_left 1; (intro w hSw; (try dsimp only at hSw); go_simp); (try with_reducible rfl); (try simp only [Act.put,List.setIfInBounds_toArray,List.set_cons_zero,List.set_cons_succ]))
    refine wpAnyH_ready (rs:=[18]) (by kernel_rfl) (by simp) ?_
    refine AllReadyH.cons (i:=18) rfl (fun K hK=>?_) AllReadyH.nil
    go_simp
    refine hK.out _ _ ?_ (fun hHeld=>?_)
    ·exact (World.cell?_of_block (Below.heap_setCell _ _ _ _ hkq.symm)).trans s5
    clear hK K
    try simp only [Act.put,List.setIfInBounds_toArray,List.set_cons_zero,List.set_cons_succ]
    refine wpAnyH_done (by kernel_rfl) ?_ _
    go_wp2
    go_ret
    obtain ⟨h2,m2,u2,o2⟩:=FIN.out w5 tv5 tc5 O5.out G5.out A5.out
    refine ⟨ret_int HC.out.symm,h2,tk1,wt1,?_,?_,o2,u2⟩
    ·rw [HS.out]; exact m2
    ·rw [HS.out]; exact A2.out
 ·have HC:Hid (cc=0):=by rw [EC.out,if_pos (by omega)]; exact hid rfl
  obtain ⟨u,hu⟩:=Int.eq_ofNat_of_zero_le (show 0<=tg by omega)
  subst hu
  have hul:u < sg.T.length:=by rw [hsl]; omega
  have HS:Hid (ss=R.gets sg u v):=by rw [ES.out,if_pos (by omega)]; exact hid rfl
  have hg':((u:Int) == -1)=false:=by simp
  have c1:=M1.out.blk.cell 1
  simp [kCells] at c1
  have a7:=M1.out.tcell hul 7 (by decide)
  simp [ktCells] at a7
  have f7:=M1.out.tfrozen (u * 13 + 7)
  obtain ⟨h2,m2,u2⟩:=M1.out.setT' hul (j:=7) (by decide) (.int .i64 v) (fun x=>{ x with got:=v }) (ktCells_got _ _ _ _ _)
  have M2:=hid m2
  have U2:=hid (U1.out.trans u2 O1.out.size)
  have O2:Hid (Only (kW kb h) w (w1.setCell ⟨h1.gT,u * 13 + 7,none⟩ (.int .i64 v))):=O1.out.setCell (.inl (by rw [U1.out.gT]; exact kW_gT)) _
  have A2:Hid (Ln.Aux (R.gets sg u v) tk1 wt1):=A1.out.got FG.out u v
  have huI:(u:Int) < (sg.T.length:Int):=by omega
  have hf16:sg.T.length<=16:=by omega
  clear EC ES E3 m2 u2
  generalize sg.T[u].got=og at *
  go_wp2
  go_ret
  refine ⟨ret_int HC.out.symm,h2,tk1,wt1,?_,?_,O2.out,U2.out⟩
  ·rw [HS.out]; exact M2.out
  ·rw [HS.out]; exact A2.out
set_option linter.unusedSimpArgs false in
set_option maxRecDepth 100000 in
set_option maxHeartbeats 4000000 in
theorem kReceive_any (m:KMem F w kb h s tk wt ws) (f:KFit s) (a:Ln.Aux s tk wt) (t k:Nat) (ht:t < s.T.length) (hf0:s.T[t].for_=0) (hk:k < s.box.length) (_h8:s.box.length<=8) (hq0:s.box[k].length<=1000) (n:Int) (hn0:-1<=n) (hn1:n<=1000) (g0:0<=s.now) (g1:s.now<=1000000000) :
  Calls Tryz.prog 162 #[.pointer (some ⟨kb,0,none⟩),.int .i64 t,.int .i64 k,.int .i64 n] w fun e w'=>e=.returned (.int .i64 (R.recvC s k n))/\∃ h' tk' wt',KMem F w' kb h' (R.recvS s t k n) tk' wt' ws/\Ln.Aux (R.recvS s t k n) tk' wt'/\Only (kW kb h) w w'/\KUp w h h':=by
 have eb:=boxAt_is k hk
 have EC:Hid (R.recvC s k n=if 0 < s.box[k].length then 0 else if n=0 then 2 else 1):=by unfold R.recvC; rw [eb]; exact hid rfl
 have ES:Hid (R.recvS s t k n=if R.recvC s k n=0 then { R.gets s t (s.box[k].getD 0 0) with box:=s.box.set k (s.box[k].drop 1) } else if R.recvC s k n=1 then R.beginW s t 3 (k:Int) n else s):=by unfold R.recvS; rw [eb]; exact hid rfl
 have hkI:(k:Int) < (s.box.length:Int):=by omega
 have htI:(t:Int) < (s.T.length:Int):=by omega
 have hfew:=f.few
 have hf0':(R.th s.T t).for_=0:=by rw [th_ext ht]; exact hf0
 have AB:=hid (a.beginW f.ok t ht hf0' 3 (k:Int) n (by decide) (fun hh=>absurd hh (by decide)))
 have BW:=hid (kWaitFor_any m t ht f.few (a.few f.few).2 3 (k:Int) n hn0 hn1 g0 g1)
 have AG:=hid (fun v=>(a.got f t v).stores (f.got t v) s.count (s.box.set k (s.box[k].drop 1)))
 have c4:=m.blk.cell 4
 have c1:=m.blk.cell 1
 simp [kCells] at c4 c1
 have b4:=m.qcell hk 1 (by decide)
 simp [kqCells] at b4
 have ROW:=hid (m.st.boxes k hk)
 obtain ⟨ao,ca,hv,hla,hna⟩:=ListAt.of_row ROW.out
 have HV:=hid hv
 rw [hv] at b4
 have M:=hid m
 have AX:=hid a
 clear m f a eb hf0 hf0' hv hna
 generalize R.recvS s t k n=ss at *
 generalize R.recvC s k n=cc at *
 generalize R.beginW s t 3 (k:Int) n=sb at *
 by_cases hz:s.box[k].length=0
 ·have HC:Hid (cc=if n=0 then 2 else 1):=by rw [EC.out,if_neg (by omega)]; exact hid rfl
  have HS:Hid (ss=if n=0 then s else sb):=by
   rw [ES.out,HC.out]
   by_cases hz:n=0
   ·simp only [if_pos hz]
    exact hid rfl
   ·simp only [if_neg hz]
    exact hid rfl
  have HA:Hid (Ln.Aux (if n=0 then s else sb) tk (if n=0 then wt else wt ++ [t])):=by
   by_cases hz:n=0
   ·simp only [if_pos hz]
    exact hid AX.out
   ·simp only [if_neg hz]
    exact hid AB.out
  rw [hz] at b4
  clear ES EC AB AG hla HV ROW hq0 hz
  generalize (if n=0 then s else sb)=s4 at *
  generalize (if n=0 then wt else wt ++ [t])=wt4 at *
  generalize (if n=0 then (2:Int) else 1)=c4' at *
  go_enter Tryz.func162,Tryz.ntmps162
  go_wp2_with fail
  refine BW.out.mono ?_
  rintro e w3 ⟨rfl,h3,m3,o3,u3⟩
  have M3:=hid m3
  have U3:=hid u3
  have O3:=hid (o3.mono kW_wait)
  clear m3 o3 u3 BW
  go_wp2
  go_ret
  refine ⟨ret_int HC.out.symm,h3,tk,wt4,?_,?_,O3.out,U3.out⟩
  ·rw [HS.out]; exact M3.out
  ·rw [HS.out]; exact HA.out
 ·have HC:Hid (cc=0):=by rw [EC.out,if_pos (by omega)]; exact hid rfl
  obtain ⟨bv,HBV⟩:∃ x,Hid (s.box[k].getD 0 0=x):=⟨_,hid rfl⟩
  have HS:Hid (ss={ R.gets s t bv with box:=s.box.set k (s.box[k].drop 1) }):=by rw [ES.out,if_pos HC.out,HBV.out]; exact hid rfl
  have AG2:=hid (AG.out bv)
  obtain ⟨gq,oq,eao,hgl,hq0c⟩:=hla 0 (.int .i64 bv) (by
   have h0:0 < s.box[k].length:=by omega
   have:=HBV.out
   simp [List.getD,h0] at this
   simp [intCells,h0,this])
  have hoq:oq=0:=by
   rcases ROW.out.2 with ⟨e,_⟩ | ⟨g',cap,cur,e,_⟩
   ·rw [HV.out,eao] at e; cases e
   ·rw [HV.out,eao] at e; cases e; rfl
  subst hoq
  rw [Nat.zero_add] at hq0c
  rw [eao] at b4 HV
  have hBn:(s.box[k].length == 0)=false:=by simpa using hz
  have a7:=M.out.tcell ht 7 (by decide)
  simp [ktCells] at a7
  have f7:=M.out.tfrozen (t * 13 + 7)
  obtain ⟨h2,HM2⟩:∃ h2,Hid (KMem F (w.setCell ⟨h.gT,t * 13 + 7,none⟩ (.int .i64 bv)) kb h2 (R.gets s t bv) tk wt ws/\h2.qv=h.qv/\h2.gQ=h.gQ/\h2.nq=h.nq/\h2.cQ=h.cQ/\KUp w h h2) :=
   ⟨_,hid ⟨M.out.setT ht (by decide) (.int .i64 bv) (fun x=>{ x with got:=bv }) (ktCells_got _ _ _ _ _),rfl,rfl,rfl,rfl,rfl,rfl,rfl,fun _=>.inl,fun _=>.inl,fun _=>.inl,rfl,rfl,fun _=>.inl⟩⟩
  have O2:Hid (Only (kW kb h) w (w.setCell ⟨h.gT,t * 13 + 7,none⟩ (.int .i64 bv))):=(Only.refl _ _).setCell (.inl kW_gT) _
  clear EC ES AB AG BW eao
  obtain ⟨B,HB⟩:∃ x,Hid (s.box[k]=x):=⟨_,hid rfl⟩
  rw [HB.out] at ROW HV b4 hBn hq0 HS AG2 hz
  have hB0:0 < B.length:=by omega
  generalize s.T[t].got=og at *
  go_enter Tryz.func162,Tryz.ntmps162
  go_wp2_with fail
  go_region
  obtain ⟨m2,eqv,egQ,_,ecQ,u2⟩:=HM2.out
  have o2:=O2.out.drewN 1
  have m2':=m2.drewN 1
  clear HM2 O2 m2 c1 c4 b4 a7 f7 hq0c
  have e1:(w.setCell ⟨h.gT,t * 13 + 7,none⟩ (.int .i64 bv)).drewN 1=(w.setCell ⟨h.gT,t * 13 + 7,none⟩ (.int .i64 bv)).drew:=rfl
  rw [e1] at o2 m2'
  clear e1
  generalize (w.setCell ⟨h.gT,t * 13 + 7,none⟩ (.int .i64 bv)).drew=wB at o2 m2' ⊢
  have hk2:k < (R.gets s t bv).box.length:=hk
  have U2:=hid u2
  have M2:=hid m2'
  have O2:=hid o2
  have HV2:Hid (h2.qv k=.slice (some ⟨gq,0,none⟩) B.length ca):=by rw [eqv]; exact hid HV.out
  have ROWB:Hid (wB.ownsRow 0 3 1 (.slice (some ⟨gq,0,none⟩) B.length ca) B.length (intCells B)):=by
   have h1:=m2'.st.boxes k hk2
   have h3:(R.gets s t bv).box[k]=B:=HB.out
   rw [h3,HV2.out] at h1
   exact hid h1
  have hcq:B.length<=ca:=by
   rcases ROWB.out.2 with ⟨e,_⟩ | ⟨g',cap,cur,e,_,_,h4,h5,_⟩
   ·cases e
   ·cases e
    exact h4
  have hcq2:ca<=maxLen:=by
   rcases ROWB.out.2 with ⟨e,_⟩ | ⟨g',cap,cur,e,_,_,h4,h5,_⟩
   ·cases e
   ·cases e
    exact h5
  have hgl2:gq < wB.heap.size:=(own_typ ROWB.out rfl).lt
  have c4:=m2'.blk.cell 4
  simp [kCells] at c4
  have c4':wB.cell? ⟨kb,4,none⟩=some (.slice (some ⟨h2.gQ,0,none⟩) s.box.length h2.cQ):=c4
  have HNEWS:=hid (drop_news ROWB.out)
  have hDl:(B.drop 1).length=B.length - 1:=List.length_drop
  clear c4 m2' o2 u2 eqv egQ ecQ HV ROW HBV hla
  by_cases hc1:ca=1
  ·subst hc1
   have hB1:B.length=1:=by omega
   have hD0:B.drop 1=[]:=by apply List.eq_nil_of_length_eq_zero; omega
   rw [hD0] at HS AG2
   clear HNEWS hDl hD0
   obtain ⟨D,HD⟩:∃ D:List Int,Hid (([]:List Int)=D):=⟨_,hid rfl⟩
   have CO:=hid (fun ao=>kCopyOf_any wB.drew ao 0 [] (fun j u hj=>by simp [intCells] at hj) (fun _=>rfl) (by decide))
   rw [HD.out] at HS AG2
   have CO2:Hid (∀ ao,Calls Tryz.prog 106 #[.slice ao 0 0] wB.drew fun e w'=>∃ v,e=.returned v/\w'.ownsRow wB.drew.heap.size 3 1 v D.length (intCells D)/\Below wB.drew.heap.size wB.drew w'):=by
    rw [<- HD.out]
    exact hid CO.out
   have hkq:h2.gQ ≠ kb:=fun e=>((own_typ M2.out.st.qrow rfl:Typ wB h2.gQ _).ne M2.out.kT (by decide) e)
   clear CO HD
   go_wp2_with fail
   go_region_held3 (fun w'=>w'.cell? ⟨kb,4,none⟩=some (.slice (some ⟨h2.gQ,0,none⟩) s.box.length h2.cQ)) (go_keep)
    (first
     | (go_at_call 106; refine (CO2.out _).mono ?_; rintro e w3 ⟨v3,rfl,hr3,hb3⟩; obtain ⟨tv3,tc3,rfl,_,_⟩:=owns_cells hr3; have m3:=M2.out.below (via (Below.refl _ _).drew (Nat.le_refl _) hb3); have k0:w3.cell? ⟨kb,4,none⟩=some (.slice (some ⟨h2.gQ,0,none⟩) s.box.length h2.cQ):=m3.blk.cell 4; have y3:w3.cell? ⟨h2.gQ,k * 2 + 1,none⟩=some (h2.qv k):=m3.qcell hk2 1 (by decide); have z3:=m3.qfrozen (k * 2 + 1); have R3:=hid hr3; have HB3:=hid hb3; clear hr3 hb3 m3))
   go_wp2
   go_ret
   obtain ⟨h4,m4,u4⟩:=M2.out.setQ' (w1:=w3) k hk2 (v:=.slice tv3 _ tc3) (l:=D) (fun b hb _=>HB3.out.block b (by simpa using hb)) (ownsRow_mono R3.out (Nat.zero_le _)) (fun g hg=>.inr (by have:=(ownsRow_block R3.out hg).1; simpa using this))
   refine ⟨ret_int HC.out.symm,h4,tk,wt,?_,?_,?_,U2.out.trans u4 O2.out.size⟩
   ·rw [HS.out]; exact m4
   ·rw [HS.out]; exact AG2.out
   ·refine (O2.out.trans (Only.of_below (via (Below.refl _ _).drew (Nat.le_refl _) HB3.out))).setCell (.inl ?_) _
    rw [U2.out.gQ]
    exact kW_gQ
  ·have hc1d:(ca == 1)=false:=by simpa using hc1
   have hi1:(1:Int)<=(B.length:Int):=by omega
   have hi2:(B.length:Int)<=(ca:Int):=by omega
   have hi3:(0:Int)<=1:=by decide
   have hi4:1<=B.length:=by omega
   generalize B.drop 1=D at *
   have hla:ListAt wB.drew (some ⟨gq,1,none⟩) D:=fun j u hj=>by
    obtain ⟨ad,e1,e2⟩:=HNEWS.out j u hj
    cases e1
    rw [Addr.add_lit] at e2
    exact ⟨gq,1,rfl,hgl2,e2⟩
   have CO:=hid (kCopyOf_any wB.drew (some ⟨gq,1,none⟩) (ca - 1) D hla (fun hh=>by cases hh) (by omega))
   rw [hDl] at CO
   have CO2:Hid (Calls Tryz.prog 106 #[.slice (some ⟨gq,1,none⟩) (B.length - 1) (ca - 1)] wB.drew fun e w'=>∃ v,e=.returned v/\w'.ownsRow wB.drew.heap.size 3 1 v D.length (intCells D)/\Below wB.drew.heap.size wB.drew w'):=by
    rw [hDl]
    exact hid CO.out
   have hkq:h2.gQ ≠ kb:=fun e=>((own_typ M2.out.st.qrow rfl:Typ wB h2.gQ _).ne M2.out.kT (by decide) e)
   clear hla HNEWS CO hDl
   go_wp2_with fail
   go_region_held3 (fun w'=>w'.cell? ⟨kb,4,none⟩=some (.slice (some ⟨h2.gQ,0,none⟩) s.box.length h2.cQ)) (go_keep)
    (first
     | (go_at_call 106; refine CO2.out.mono ?_; rintro e w3 ⟨v3,rfl,hr3,hb3⟩; obtain ⟨tv3,tc3,rfl,_,_⟩:=owns_cells hr3; have m3:=M2.out.below (via (Below.refl _ _).drew (Nat.le_refl _) hb3); have k0:w3.cell? ⟨kb,4,none⟩=some (.slice (some ⟨h2.gQ,0,none⟩) s.box.length h2.cQ):=m3.blk.cell 4; have y3:w3.cell? ⟨h2.gQ,k * 2 + 1,none⟩=some (h2.qv k):=m3.qcell hk2 1 (by decide); have z3:=m3.qfrozen (k * 2 + 1); have R3:=hid hr3; have HB3:=hid hb3; clear hr3 hb3 m3))
   go_wp2
   go_ret
   obtain ⟨h4,m4,u4⟩:=M2.out.setQ' (w1:=w3) k hk2 (v:=.slice tv3 _ tc3) (l:=D) (fun b hb _=>HB3.out.block b (by simpa using hb)) (ownsRow_mono R3.out (Nat.zero_le _)) (fun g hg=>.inr (by have:=(ownsRow_block R3.out hg).1; simpa using this))
   refine ⟨ret_int HC.out.symm,h4,tk,wt,?_,?_,?_,U2.out.trans u4 O2.out.size⟩
   ·rw [HS.out]; exact m4
   ·rw [HS.out]; exact AG2.out
   ·refine (O2.out.trans (Only.of_below (via (Below.refl _ _).drew (Nat.le_refl _) HB3.out))).setCell (.inl ?_) _
    rw [U2.out.gQ]
    exact kW_gQ
end
end Go.Proofs.YtbkfildnijjioaaGreat

namespace Go.Proofs.YtbkfildnijjioaaGreat
open Go.RowKit
structure KIns (s:RS) (i:InstrD):Prop where
 prio:i.op=4->0<=i.a/\i.a < s.T.length
 sleep:i.op=5->1<=i.a/\i.a<=1000
 mtx:i.op=6\/i.op=7->0<=i.a/\i.a < s.owner.length
 wait:i.op=6\/i.op=8\/i.op=11->-1<=i.b/\i.b<=1000
 sem:i.op=8\/i.op=9->0<=i.a/\i.a < s.count.length
 que:i.op=10\/i.op=11->0<=i.a/\i.a < s.box.length
theorem RMid.kins {s:RS} (h:RMid s) (t:Nat) (ht:t < s.set.threads.length) (i:InstrD) (hi:i ∈ s.set.threads[t].code):KIns s i:=by
 have:=ok_instr h.ok t ht i hi
 unfold P3.instrP P3.instrB P3.fitsB P3.known P3.lowA P3.highA P3.lowB P3.highB at this
 rw [Bool.and_eq_true,decide_eq_true_iff,decide_eq_true_iff] at this
 obtain ⟨⟨o0,o1⟩,ha0,ha1,hb0,hb1⟩:=this
 have l1:=h.good.len
 have l2:=h.good.own
 have l3:=h.bnd.cs
 have l4:=h.bnd.qs
 refine ⟨fun e=>?_,fun e=>?_,fun e=>?_,fun e=>?_,fun e=>?_,fun e=>?_⟩
 ·simp [e] at ha0 ha1; omega
 ·simp [e] at ha0 ha1; omega
 ·rcases e with e | e <;> simp [e] at ha0 ha1 <;> omega
 ·rcases e with e | e | e <;> simp [e] at hb0 hb1 <;> omega
 ·rcases e with e | e <;> simp [e] at ha0 ha1 <;> omega
 ·rcases e with e | e <;> simp [e] at ha0 ha1 <;> omega
structure KSto (s:RS):Prop where
 c8:s.count.length<=8
 cb:∀ k (hk:k < s.count.length),0<=s.count[k]/\s.count[k]<=(s.set.sems.getD k R.pair0).y
 cy:∀ k,k < s.count.length->(s.set.sems.getD k R.pair0).y<=1000000
 q8:s.box.length<=8
 qb:∀ k (hk:k < s.box.length),(s.box[k].length:Int)<=s.set.queues.getD k 0
 qy:∀ k,k < s.box.length->s.set.queues.getD k 0<=1000
theorem RMid.ksto {s:RS} (h:RMid s):KSto s:=by
 have hz:=ok_sizes h.ok
 have l3:=h.bnd.cs
 have l4:=h.bnd.qs
 refine ⟨by omega,h.bnd.cb,fun k hk=>?_,by omega,h.bnd.qb,fun k hk=>?_⟩
 ·have:=(ok_sem h.ok k (by omega)).2.1
  omega
 ·have:=(ok_queue h.ok k (by omega)).2
  omega
section
variable {F:Nat->Prop} {w w':World} {kb:Nat} {h:KH} {s:RS} {tk wt:List Nat} {ws:List Int}
theorem KMem.tick (m:KMem F w kb h s tk wt ws) (t:Nat) (n k:Int):KMem F w kb h { s with next:=n,T:=s.T.modify t (fun x=>{ x with tick:=k }) } tk wt ws:=by
 refine m.cong rfl rfl (by simp) rfl rfl rfl rfl (fun i hi=>?_)
 simp only [List.getElem_modify]
 by_cases e:t=i
 ·simp only [if_pos e]
  rfl
 ·simp only [if_neg e]
set_option maxRecDepth 100000 in
set_option maxHeartbeats 4000000 in
theorem kDo_any (m:KMem F w kb h s tk wt ws) (f:KFit s) (a:Ln.Aux s tk wt) (t:Nat) (ht:t < s.T.length) (hf0:s.T[t].for_=0) (g0:0<=s.now) (g1:s.now<=1000000000) (i:InstrD) (ki:KIns s i) (ksto:KSto s) (hop:i.op=1\/i.op=2\/i.op=4\/i.op=5\/i.op=6\/i.op=7\/i.op=8\/i.op=9\/i.op=10\/i.op=11) :
  Calls Tryz.prog 151 #[.pointer (some ⟨kb,0,none⟩),.int .i64 t,.agg #[.int .i64 i.op,.int .i64 i.a,.int .i64 i.b]] w fun e w'=>e=.returned (.int .i64 (R.doesC s t i))/\∃ h' tk' wt',KMem F w' kb h' (R.doesS s t i) tk' wt' ws/\Ln.Aux (R.doesS s t i) tk' wt'/\Only (kW kb h) w w'/\KUp w h h':=by
 have hbA:Below w.heap.size w (w.alloc (.cells #[.int .i64 i.op,.int .i64 i.a,.int .i64 i.b] 61)):=(Below.refl _ _).alloc (Nat.le_refl _) _
 have XA:=Blk.new w #[.int .i64 i.op,.int .i64 i.a,.int .i64 i.b] 61
 have hsm:=a.few f.few
 have hfew:=f.few
 have hf0':(R.th s.T t).for_=0:=by rw [th_ext ht]; exact hf0
 go_enter Tryz.func151,Tryz.ntmps151
 go_upto_region 1 with fail
 generalize w.alloc (.cells #[.int .i64 i.op,.int .i64 i.a,.int .i64 i.b] 61)=wA at hbA XA ⊢
 have MA:=hid (m.below hbA)
 have OA:Hid (Only (kW kb h) w wA):=Only.of_below hbA
 have hszA:=hbA.size
 have x0:=XA.cell 0
 have x1:=XA.cell 1
 have x2:=XA.cell 2
 simp at x0 x1 x2
 have FT:=hid f
 have AX:=hid a
 have KI:=hid ki
 have KQ:=hid ksto
 clear m f a ki hbA XA hf0 ksto
 rcases hop with hop | hop | hop | hop | hop | hop | hop | hop | hop | hop
 ·have EC:Hid (R.doesC s t i=0):=by unfold R.doesC; simp [hop]; exact hid trivial
  have ES:Hid (R.doesS s t i=s):=by unfold R.doesS; simp [hop]; exact hid trivial
  rw [hop] at x0
  clear hop
  go_wp2
  go_ret
  refine ⟨ret_int EC.out.symm,h,tk,wt,?_,?_,OA.out,KUp.refl _ _⟩
  ·rw [ES.out]; exact MA.out
  ·rw [ES.out]; exact AX.out
 ·have EC:Hid (R.doesC s t i=0):=by unfold R.doesC; simp [hop]; exact hid trivial
  have ES:Hid (R.doesS s t i={ s with next:=s.next + 1,T:=s.T.modify t (fun x=>{ x with tick:=s.next + 1 }) }):=by unfold R.doesS; rw [if_pos hop]; exact hid rfl
  rw [hop] at x0
  clear hop
  have CD:=hid (kDraw_any MA.out t hsm.1)
  go_wp2_with fail
  refine CD.out.mono ?_
  rintro e w2 ⟨rfl,h2,m2,o2,u2⟩
  have M2:=hid m2
  have U2:=hid ((KUp.refl w h).trans u2 hszA)
  have O2:=hid (OA.out.trans (o2.mono (fun b hb=>by simp at hb; rw [hb]; exact kW_kb)))
  clear m2 o2 u2 CD
  go_wp2
  go_ret
  refine ⟨ret_int EC.out.symm,h2,Ln.less tk t ++ [t],wt,?_,?_,O2.out,U2.out⟩
  ·rw [ES.out]; exact M2.out.tick t _ _
  ·rw [ES.out]; exact AX.out.draws FT.out.ok t ht _ (fun _=>⟨rfl,rfl,rfl,rfl⟩)
 ·have EC:Hid (R.doesC s t i=0):=by unfold R.doesC; simp [hop]; exact hid trivial
  have ES:Hid (R.doesS s t i={ s with T:=s.T.modify i.a.toNat (fun x=>{ x with base:=i.b }) }):=by unfold R.doesS; rw [if_neg (by omega),if_pos hop]; exact hid rfl
  obtain ⟨p0,p1⟩:=KI.out.prio hop
  obtain ⟨k,hk⟩:=Int.eq_ofNat_of_zero_le p0
  have hkl:k < s.T.length:=by omega
  have ekn:i.a.toNat=k:=by omega
  rw [ekn] at ES
  rw [hk] at x1
  rw [hop] at x0
  have c1:=MA.out.blk.cell 1
  simp [kCells] at c1
  have a1:=MA.out.tcell hkl 1 (by decide)
  simp [ktCells] at a1
  have f1:=MA.out.tfrozen (k * 13 + 1)
  obtain ⟨h2,m2,u2⟩:=MA.out.setT' hkl (j:=1) (by decide) (.int .i64 i.b) (fun x=>{ x with base:=i.b }) (ktCells_base _ _ _ _ _)
  have M2:=hid m2
  have U2:=hid ((KUp.refl w h).trans u2 hszA)
  have O2:=hid (OA.out.setCell (p:=⟨h.gT,k * 13 + 1,none⟩) (.inl kW_gT) (.int .i64 i.b))
  have hkI:(k:Int) < (s.T.length:Int):=by omega
  clear m2 u2 hop p0 p1 hk ekn
  generalize s.T[k].base=ob at *
  go_wp2_with fail
  go_region
  go_wp2
  go_ret
  refine ⟨ret_int EC.out.symm,h2,tk,wt,?_,?_,O2.out.drewN 1,U2.out⟩
  ·rw [ES.out]; exact M2.out.drewN 1
  ·rw [ES.out]; exact AX.out.modify FT.out.ok k _ (fun _=>⟨rfl,rfl,rfl,rfl,id⟩)
 ·have EC:Hid (R.doesC s t i=1):=by unfold R.doesC; rw [if_pos hop]; exact hid rfl
  have ES:Hid (R.doesS s t i=R.beginW s t 4 0 i.a):=by unfold R.doesS; rw [if_neg (by omega),if_neg (by omega),if_pos hop]; exact hid rfl
  obtain ⟨p0,p1⟩:=KI.out.sleep hop
  have BW:=hid (kBeginWait_any MA.out t ht hfew hsm.2 4 0 i.a (by omega) (by omega) g0 g1)
  have AB:=hid (AX.out.beginW FT.out.ok t ht hf0' 4 0 i.a (by decide) (fun hh=>absurd hh (by decide)))
  rw [hop] at x0
  clear hop
  generalize R.beginW s t 4 0 i.a=sb at *
  go_wp2_with fail
  refine BW.out.mono ?_
  rintro e w2 ⟨rfl,h2,m2,o2,u2⟩
  have M2:=hid m2
  have U2:=hid ((KUp.refl w h).trans u2 hszA)
  have O2:=hid (OA.out.trans (o2.mono kW_wait))
  clear m2 o2 u2 BW
  go_wp2
  go_ret
  refine ⟨ret_int EC.out.symm,h2,tk,wt ++ [t],?_,?_,O2.out,U2.out⟩
  ·rw [ES.out]; exact M2.out
  ·rw [ES.out]; exact AB.out
 ·have EC:Hid (R.doesC s t i=R.lockC s t i.a.toNat i.b):=by unfold R.doesC; rw [if_neg (by omega),if_pos hop]; exact hid rfl
  have ES:Hid (R.doesS s t i=R.lockS s t i.a.toNat i.b):=by unfold R.doesS; rw [if_neg (by omega),if_neg (by omega),if_neg (by omega),if_pos hop]; exact hid rfl
  obtain ⟨p0,p1⟩:=KI.out.mtx (.inl hop)
  obtain ⟨q0,q1⟩:=KI.out.wait (.inl hop)
  obtain ⟨k,hk⟩:=Int.eq_ofNat_of_zero_le p0
  have hkl:k < s.owner.length:=by omega
  have ekn:i.a.toNat=k:=by omega
  rw [ekn] at ES EC
  rw [hk] at x1
  rw [hop] at x0
  have CL:=hid (kLock_any MA.out FT.out AX.out t k ht (by rw [<- th_ext ht]; exact hf0') hkl i.b q0 q1 g0 g1)
  clear hop p0 p1 q0 q1 hk ekn
  generalize R.lockS s t k i.b=sl at *
  generalize R.lockC s t k i.b=cl at *
  go_wp2_with fail
  refine CL.out.mono ?_
  rintro e w2 ⟨rfl,h2,tk2,wt2,m2,a2,o2,u2⟩
  have M2:=hid m2
  have A2:=hid a2
  have U2:=hid ((KUp.refl w h).trans u2 hszA)
  have O2:=hid (OA.out.trans (o2.mono kW_lock))
  clear m2 a2 o2 u2 CL
  go_wp2
  go_ret
  refine ⟨ret_int EC.out.symm,h2,tk2,wt2,?_,?_,O2.out,U2.out⟩
  ·rw [ES.out]; exact M2.out
  ·rw [ES.out]; exact A2.out
 ·have EC:Hid (R.doesC s t i=R.unlockC s t i.a.toNat):=by unfold R.doesC; rw [if_neg (by omega),if_neg (by omega),if_pos hop]; exact hid rfl
  have ES:Hid (R.doesS s t i=R.unlockS s t i.a.toNat):=by unfold R.doesS; rw [if_neg (by omega),if_neg (by omega),if_neg (by omega),if_neg (by omega),if_pos hop]; exact hid rfl
  obtain ⟨p0,p1⟩:=KI.out.mtx (.inr hop)
  obtain ⟨k,hk⟩:=Int.eq_ofNat_of_zero_le p0
  have hkl:k < s.owner.length:=by omega
  have ekn:i.a.toNat=k:=by omega
  rw [ekn] at ES EC
  rw [hk] at x1
  rw [hop] at x0
  have CL:=hid (kUnlock_any MA.out FT.out AX.out t k hkl)
  clear hop p0 p1 hk ekn
  generalize R.unlockS s t k=sl at *
  generalize R.unlockC s t k=cl at *
  go_wp2_with fail
  refine CL.out.mono ?_
  rintro e w2 ⟨rfl,h2,tk2,wt2,m2,a2,o2,u2⟩
  have M2:=hid m2
  have A2:=hid a2
  have U2:=hid ((KUp.refl w h).trans u2 hszA)
  have O2:=hid (OA.out.trans (o2.mono (fun b hb=>kW_lock b (by simp at hb ⊢; rcases hb with h | h | h <;> simp [h]))))
  clear m2 a2 o2 u2 CL
  go_wp2
  go_ret
  refine ⟨ret_int EC.out.symm,h2,tk2,wt2,?_,?_,O2.out,U2.out⟩
  ·rw [ES.out]; exact M2.out
  ·rw [ES.out]; exact A2.out
 ·have EC:Hid (R.doesC s t i=R.downC s i.a.toNat i.b):=by unfold R.doesC; rw [if_neg (by omega),if_neg (by omega),if_neg (by omega),if_pos hop]; exact hid rfl
  have ES:Hid (R.doesS s t i=R.downS s t i.a.toNat i.b):=by unfold R.doesS; rw [if_neg (by omega),if_neg (by omega),if_neg (by omega),if_neg (by omega),if_neg (by omega),if_pos hop]; exact hid rfl
  obtain ⟨p0,p1⟩:=KI.out.sem (.inl hop)
  obtain ⟨q0,q1⟩:=KI.out.wait (.inr (.inl hop))
  obtain ⟨k,hk⟩:=Int.eq_ofNat_of_zero_le p0
  have hkl:k < s.count.length:=by omega
  have ekn:i.a.toNat=k:=by omega
  rw [ekn] at ES EC
  rw [hk] at x1
  rw [hop] at x0
  have CL:=hid (kDown_any MA.out FT.out AX.out t k ht (by rw [<- th_ext ht]; exact hf0') hkl KQ.out.c8 ⟨(KQ.out.cb k hkl).1,Int.le_trans (KQ.out.cb k hkl).2 (KQ.out.cy k hkl)⟩ i.b q0 q1 g0 g1)
  clear hop p0 p1 hk ekn
  generalize R.downS s t k i.b=sl at *
  generalize R.downC s k i.b=cl at *
  go_wp2_with fail
  refine CL.out.mono ?_
  rintro e w2 ⟨rfl,h2,tk2,wt2,m2,a2,o2,u2⟩
  have M2:=hid m2
  have A2:=hid a2
  have U2:=hid ((KUp.refl w h).trans u2 hszA)
  have O2:=hid (OA.out.trans o2)
  clear m2 a2 o2 u2 CL
  go_wp2
  go_ret
  refine ⟨ret_int EC.out.symm,h2,tk2,wt2,?_,?_,O2.out,U2.out⟩
  ·rw [ES.out]; exact M2.out
  ·rw [ES.out]; exact A2.out
 ·have EC:Hid (R.doesC s t i=R.upC s i.a.toNat):=by unfold R.doesC; rw [if_neg (by omega),if_neg (by omega),if_neg (by omega),if_neg (by omega),if_pos hop]; exact hid rfl
  have ES:Hid (R.doesS s t i=R.upS s i.a.toNat):=by unfold R.doesS; rw [if_neg (by omega),if_neg (by omega),if_neg (by omega),if_neg (by omega),if_neg (by omega),if_neg (by omega),if_pos hop]; exact hid rfl
  obtain ⟨p0,p1⟩:=KI.out.sem (.inr hop)
  obtain ⟨k,hk⟩:=Int.eq_ofNat_of_zero_le p0
  have hkl:k < s.count.length:=by omega
  have ekn:i.a.toNat=k:=by omega
  rw [ekn] at ES EC
  rw [hk] at x1
  rw [hop] at x0
  have CL:=hid (kUp_any MA.out FT.out AX.out k hkl KQ.out.c8 (KQ.out.cb k hkl) (KQ.out.cy k hkl))
  clear hop p0 p1 hk ekn
  generalize R.upS s k=sl at *
  generalize R.upC s k=cl at *
  go_wp2_with fail
  refine CL.out.mono ?_
  rintro e w2 ⟨rfl,h2,tk2,wt2,m2,a2,o2,u2⟩
  have M2:=hid m2
  have A2:=hid a2
  have U2:=hid ((KUp.refl w h).trans u2 hszA)
  have O2:=hid (OA.out.trans o2)
  clear m2 a2 o2 u2 CL
  go_wp2
  go_ret
  refine ⟨ret_int EC.out.symm,h2,tk2,wt2,?_,?_,O2.out,U2.out⟩
  ·rw [ES.out]; exact M2.out
  ·rw [ES.out]; exact A2.out
 ·have EC:Hid (R.doesC s t i=R.sendC s i.a.toNat):=by unfold R.doesC; rw [if_neg (by omega),if_neg (by omega),if_neg (by omega),if_neg (by omega),if_neg (by omega),if_pos hop]; exact hid rfl
  have ES:Hid (R.doesS s t i=R.sendS s i.a.toNat i.b):=by unfold R.doesS; rw [if_neg (by omega),if_neg (by omega),if_neg (by omega),if_neg (by omega),if_neg (by omega),if_neg (by omega),if_neg (by omega),if_pos hop]; exact hid rfl
  obtain ⟨p0,p1⟩:=KI.out.que (.inl hop)
  obtain ⟨k,hk⟩:=Int.eq_ofNat_of_zero_le p0
  have hkl:k < s.box.length:=by omega
  have ekn:i.a.toNat=k:=by omega
  rw [ekn] at ES EC
  rw [hk] at x1
  rw [hop] at x0
  have CL:=hid (kSend_any MA.out FT.out AX.out k hkl KQ.out.q8 (KQ.out.qb k hkl) (KQ.out.qy k hkl) i.b)
  clear hop p0 p1 hk ekn
  generalize R.sendS s k i.b=sl at *
  generalize R.sendC s k=cl at *
  go_wp2_with fail
  refine CL.out.mono ?_
  rintro e w2 ⟨rfl,h2,tk2,wt2,m2,a2,o2,u2⟩
  have M2:=hid m2
  have A2:=hid a2
  have U2:=hid ((KUp.refl w h).trans u2 hszA)
  have O2:=hid (OA.out.trans o2)
  clear m2 a2 o2 u2 CL
  go_wp2
  go_ret
  refine ⟨ret_int EC.out.symm,h2,tk2,wt2,?_,?_,O2.out,U2.out⟩
  ·rw [ES.out]; exact M2.out
  ·rw [ES.out]; exact A2.out
 ·have EC:Hid (R.doesC s t i=R.recvC s i.a.toNat i.b):=by unfold R.doesC; rw [if_neg (by omega),if_neg (by omega),if_neg (by omega),if_neg (by omega),if_neg (by omega),if_neg (by omega),if_pos hop]; exact hid rfl
  have ES:Hid (R.doesS s t i=R.recvS s t i.a.toNat i.b):=by unfold R.doesS; rw [if_neg (by omega),if_neg (by omega),if_neg (by omega),if_neg (by omega),if_neg (by omega),if_neg (by omega),if_neg (by omega),if_neg (by omega),if_pos hop]; exact hid rfl
  obtain ⟨p0,p1⟩:=KI.out.que (.inr hop)
  obtain ⟨q0,q1⟩:=KI.out.wait (.inr (.inr hop))
  obtain ⟨k,hk⟩:=Int.eq_ofNat_of_zero_le p0
  have hkl:k < s.box.length:=by omega
  have ekn:i.a.toNat=k:=by omega
  rw [ekn] at ES EC
  rw [hk] at x1
  rw [hop] at x0
  have CL:=hid (kReceive_any MA.out FT.out AX.out t k ht (by rw [<- th_ext ht]; exact hf0') hkl KQ.out.q8 (by have:=KQ.out.qb k hkl; have:=KQ.out.qy k hkl; omega) i.b q0 q1 g0 g1)
  clear hop p0 p1 hk ekn
  generalize R.recvS s t k i.b=sl at *
  generalize R.recvC s k i.b=cl at *
  go_wp2_with fail
  refine CL.out.mono ?_
  rintro e w2 ⟨rfl,h2,tk2,wt2,m2,a2,o2,u2⟩
  have M2:=hid m2
  have A2:=hid a2
  have U2:=hid ((KUp.refl w h).trans u2 hszA)
  have O2:=hid (OA.out.trans o2)
  clear m2 a2 o2 u2 CL
  go_wp2
  go_ret
  refine ⟨ret_int EC.out.symm,h2,tk2,wt2,?_,?_,O2.out,U2.out⟩
  ·rw [ES.out]; exact M2.out
  ·rw [ES.out]; exact A2.out
end
end Go.Proofs.YtbkfildnijjioaaGreat

namespace Go.Proofs.YtbkfildnijjioaaGreat
open Go.RowKit
end Go.Proofs.YtbkfildnijjioaaGreat

namespace Go.Proofs.YtbkfildnijjioaaGreat
open Go.RowKit
theorem toAt_self (s:RS) (t:Nat) (ht:t < s.T.length):R.toAt s t (R.th s.T t).at_=s:=by
 have e:s.T.modify t (fun x=>{ x with at_:=(R.th s.T t).at_ })=s.T:=by
  apply List.ext_getElem
  ·simp
  ·intro i h1 h2
   rw [List.getElem_modify]
   split
   ·rename_i e
    subst e
    have e2:(R.th s.T t).at_=s.T[t].at_:=by rw [th_ext ht]
    simp only [e2]
   ·rfl
 unfold R.toAt
 rw [e]
theorem doesS_len (s:RS) (t:Nat) (i:InstrD):(R.doesS s t i).T.length=s.T.length:=(R.keepW_doesS s t i).len
theorem at_doesS (s:RS) (t:Nat) (ht:t < s.T.length) (i:InstrD):(R.th (R.doesS s t i).T t).at_=(R.th s.T t).at_:=by
 have h1:=R.doesS_toAt s t (R.th s.T t).at_ i
 rw [toAt_self s t ht] at h1
 rw [h1]
 show (R.th ((R.doesS s t i).T.modify t _) t).at_=_
 rw [Ln.th_modify,if_pos ⟨rfl,by rw [doesS_len s t i]; exact ht⟩]
section
variable {F:Nat->Prop} {w w':World} {kb:Nat} {h:KH} {s:RS} {tk wt:List Nat} {ws:List Int}
theorem KFit.unmod {s s':RS} {t:Nat} {g:RT->RT} (f:KFit s') (hg:∀ x,(g x).for_=x.for_/\(g x).of_=x.of_) (h:s'={ s with T:=s.T.modify t g }:=by rfl):KFit s:=by
 subst h
 have hth:∀ u,(R.th (s.T.modify t g) u).for_=(R.th s.T u).for_/\(R.th (s.T.modify t g) u).of_=(R.th s.T u).of_:=fun u=>by
  rw [Ln.th_modify]
  split
  ·exact hg _
  ·exact ⟨rfl,rfl⟩
 refine ⟨by simpa using f.few,f.m8,f.ok.len,fun i hi=>by simpa using f.ok.own i hi,fun u hu hf=>?_,f.ok.kind⟩
 have h1:=f.ok.of1 u (by simpa using hu) (by show (R.th (s.T.modify t g) u).for_=1; rw [(hth u).1]; exact hf)
 have h2:0<=(R.th (s.T.modify t g) u).of_/\(R.th (s.T.modify t g) u).of_ < s.owner.length:=h1
 rwa [(hth u).2] at h2
set_option maxRecDepth 100000 in
set_option maxHeartbeats 4000000 in
theorem kStep_any (m:KMem F w kb h s tk wt ws) (f:KFit s) (a:Ln.Aux s tk wt) (t:Nat) (ht:t < s.T.length) (hf0:s.T[t].for_=0) (g0:0<=s.now) (g1:s.now<=1000000000) (hat:0<=s.T[t].at_/\s.T[t].at_<=1000) (hen:0<=s.T[t].ended/\s.T[t].ended<=2000000000) (hc32:(s.set.threads.getD t P3.none0).code.length<=32)
  (h0:0<=(R.instrAt s t).op) (h7:(R.instrAt s t).op<=11) (ki:KIns s (R.instrAt s t)) (ksto:KSto s) (fa:KFit (R.actS s t)) :
  Calls Tryz.prog 128 #[.pointer (some ⟨kb,0,none⟩),.int .i64 t] w fun e w'=>e=.returned (.int .i64 (R.actC s t))/\∃ h' tk' wt',KMem F w' kb h' (R.actS s t) tk' wt' ws/\Ln.Aux (R.actS s t) tk' wt'/\Only (kW kb h) w w'/\KUp w h h':=by
 have NI:=hid (kNextInstr_any m t ht f.few hat.1 hc32)
 have M:=hid m
 have FT:=hid f
 have AX:=hid a
 have hfew:=f.few
 have hm8:=f.m8
 have ACT0:Hid ((R.instrAt s t).op=0->R.actS s t=R.stop s t/\R.actC s t=0):=fun e=>by
  refine ⟨?_,?_⟩
  ·unfold R.actS
   rw [if_pos e]
  ·unfold R.actC
   rw [if_pos (.inl e)]
 have ACT3:Hid ((R.instrAt s t).op=3->R.actS s t=(if s.T[t].last=(R.instrAt s t).a then R.toAt s t (R.instrAt s t).b else R.toAt s t (s.T[t].at_ + 1))/\R.actC s t=0):=fun e=>by
  refine ⟨?_,?_⟩
  ·unfold R.actS
   rw [if_neg (by omega),if_pos e,th_ext ht]
  ·unfold R.actC
   rw [if_pos (.inr e)]
 have ACT:Hid ((R.instrAt s t).op ≠ 0->(R.instrAt s t).op ≠ 3->R.actS s t=R.toLast (R.toAt (R.doesS s t (R.instrAt s t)) t (s.T[t].at_ + 1)) t (R.doesC s t (R.instrAt s t))/\R.actC s t=R.doesC s t (R.instrAt s t)):=fun e1 e2=>by
  have:=R.actS_is s t e1 e2
  rwa [th_ext ht] at this
 have ATD:Hid ((R.th (R.doesS s t (R.instrAt s t)).T t).at_=s.T[t].at_):=by rw [at_doesS s t ht _,th_ext ht]; exact hid rfl
 have LND:=hid (doesS_len s t (R.instrAt s t))
 have DO:=hid (fun wx (hb:Below w.heap.size w wx) hop=>kDo_any (m.below hb) f a t ht hf0 g0 g1 (R.instrAt s t) ki ksto hop)
 have EJ:=hid (fun wx (hb:Below w.heap.size w wx)=>kEndJob_any (m.below hb) f a t ht hen)
 have JW:=hid (fun wx (hb:Below w.heap.size w wx)=>kJumpWhen_any (m.below hb) t ht hfew (R.instrAt s t).a (R.instrAt s t).b hat)
 have FA:=hid fa
 clear m f a ki fa
 generalize R.actS s t=sa at *
 generalize R.actC s t=ca at *
 generalize R.instrAt s t=i at *
 go_enter Tryz.func128,Tryz.ntmps128
 go_wp2_with fail
 refine NI.out.mono ?_
 rintro e w1 ⟨rfl,hb1⟩
 have HB1:=hid hb1
 have hsz1:=hb1.size
 clear hb1 NI
 go_upto_region 2 with fail
 have hbA:Below w1.heap.size w1 (w1.alloc (.cells #[.int .i64 i.op,.int .i64 i.a,.int .i64 i.b] 61)):=(Below.refl _ _).alloc (Nat.le_refl _) _
 have XA:=Blk.new w1 #[.int .i64 i.op,.int .i64 i.a,.int .i64 i.b] 61
 generalize w1.alloc (.cells #[.int .i64 i.op,.int .i64 i.a,.int .i64 i.b] 61)=wA at hbA XA ⊢
 have HBA:=hid (via HB1.out HB1.out.size hbA)
 have hszA:=HBA.out.size
 have x0:=XA.cell 0
 have x1:=XA.cell 1
 have x2:=XA.cell 2
 simp at x0 x1 x2
 clear hbA XA HB1
 by_cases e0:i.op=0
 ·obtain ⟨hs,hc⟩:=ACT0.out e0
  have HS:=hid hs
  have HC:=hid hc
  have EJA:=hid (EJ.out wA HBA.out)
  rw [e0] at x0
  clear ACT ACT0 ACT3 hs hc e0 DO JW EJ
  go_wp2_with fail
  refine EJA.out.mono ?_
  rintro e w2 ⟨rfl,h2,tk2,wt2,m2,a2,o2,u2⟩
  have M2:=hid m2
  have A2:=hid a2
  have U2:=hid ((KUp.refl w h).trans u2 hszA)
  have O2:Hid (Only (kW kb h) w w2):=(Only.of_below HBA.out).trans (o2.mono (fun b hb=>kW_lock b (by simp at hb ⊢; rcases hb with h | h | h <;> simp [h])))
  clear m2 a2 o2 u2 EJA
  go_wp2
  go_ret
  refine ⟨ret_int HC.out.symm,h2,tk2,wt2,?_,?_,O2.out,U2.out⟩
  ·rw [HS.out]; exact M2.out
  ·rw [HS.out]; exact A2.out
 ·by_cases e3:i.op=3
  ·obtain ⟨hs,hc⟩:=ACT3.out e3
   have HS:=hid hs
   have HC:=hid hc
   have JWA:=hid (JW.out wA HBA.out)
   rw [e3] at x0
   have AA:Hid (Ln.Aux (if s.T[t].last=i.a then R.toAt s t i.b else R.toAt s t (s.T[t].at_ + 1)) tk wt):=by
    split
    ·exact hid (AX.out.modify FT.out.ok t _ (fun _=>⟨rfl,rfl,rfl,rfl,id⟩))
    ·exact hid (AX.out.modify FT.out.ok t _ (fun _=>⟨rfl,rfl,rfl,rfl,id⟩))
   clear ACT ACT0 ACT3 hs hc e0 e3 DO JW EJ
   generalize (if s.T[t].last=i.a then R.toAt s t i.b else R.toAt s t (s.T[t].at_ + 1))=sj at *
   go_wp2_with fail
   refine JWA.out.mono ?_
   rintro e w2 ⟨rfl,h2,m2,o2,u2⟩
   have M2:=hid m2
   have U2:=hid ((KUp.refl w h).trans u2 hszA)
   have O2:Hid (Only (kW kb h) w w2):=(Only.of_below HBA.out).trans (o2.mono (fun b hb=>kW_lock b (by simp at hb ⊢; rcases hb with h | h <;> simp [h])))
   clear m2 o2 u2 JWA
   go_wp2
   go_ret
   refine ⟨ret_int HC.out.symm,h2,tk,wt,?_,?_,O2.out,U2.out⟩
   ·rw [HS.out]; exact M2.out
   ·rw [HS.out]; exact AA.out
  ·obtain ⟨hs,hc⟩:=ACT.out e0 e3
   have HS:=hid hs
   have HC:=hid hc
   have DOA:=hid (DO.out wA HBA.out (by omega))
   have n0:(i.op == 0)=false:=by simpa using e0
   have n3:(i.op == 3)=false:=by simpa using e3
   clear ACT ACT0 ACT3 hs hc DO JW EJ
   generalize R.doesS s t i=sd at *
   generalize R.doesC s t i=cd at *
   go_wp2_with fail
   refine DOA.out.mono ?_
   rintro e w2 ⟨rfl,h2,tk2,wt2,m2,a2,o2,u2⟩
   have M2:=hid m2
   have A2:=hid a2
   have U2:=hid ((KUp.refl w h).trans u2 hszA)
   have O2:Hid (Only (kW kb h) w w2):=(Only.of_below HBA.out).trans o2
   have ht2:t < sd.T.length:=by rw [LND.out]; exact ht
   have c1:=m2.blk.cell 1
   simp [kCells] at c1
   have a5:=m2.tcell ht2 5 (by decide)
   have a6:=m2.tcell ht2 6 (by decide)
   simp [ktCells] at a5 a6
   have eat:sd.T[t].at_=s.T[t].at_:=by have:=ATD.out; rwa [th_ext ht2] at this
   rw [eat] at a5
   have f5:=m2.tfrozen (t * 13 + 5)
   have f6:=m2.tfrozen (t * 13 + 6)
   obtain ⟨h3,m3,u3⟩:=m2.setT' ht2 (j:=5) (by decide) (.int .i64 (s.T[t].at_ + 1)) (fun x=>{ x with at_:=s.T[t].at_ + 1 }) (ktCells_at _ _ _ _ _)
   have ht3:t < (sd.T.modify t (fun x=>{ x with at_:=s.T[t].at_ + 1 })).length:=by simpa using ht2
   obtain ⟨h4,m4,u4⟩:=m3.setT' (t:=t) ht3 (j:=6) (by decide) (.int .i64 cd) (fun x=>{ x with last:=cd }) (ktCells_last _ _ _ _ _)
   have m4':KMem F ((w2.setCell ⟨h2.gT,t * 13 + 5,none⟩ (.int .i64 (s.T[t].at_ + 1))).setCell ⟨h2.gT,t * 13 + 6,none⟩ (.int .i64 cd)) kb h4 (R.toLast (R.toAt sd t (s.T[t].at_ + 1)) t cd) tk2 wt2 ws:=by
    have:=m4
    rw [u3.gT] at this
    exact this
   have M4:=hid m4'
   have U4:=hid ((U2.out.trans u3 O2.out.size).trans u4 (Nat.le_trans O2.out.size (setCell_sz _ _ _)))
   have O4:=hid ((O2.out.setCell (p:=⟨h2.gT,t * 13 + 5,none⟩) (.inl (by rw [U2.out.gT]; exact kW_gT)) (.int .i64 (s.T[t].at_ + 1))).setCell (p:=⟨h2.gT,t * 13 + 6,none⟩) (.inl (by rw [U2.out.gT]; exact kW_gT)) (.int .i64 cd))
   have htI:(t:Int) < (sd.T.length:Int):=by omega
   have hfd:sd.T.length<=16:=by rw [LND.out]; exact hfew
   clear m2 a2 o2 u2 m3 u3 m4 m4' u4 DOA
   generalize s.T[t].at_=at_ at *
   generalize sd.T[t].last=ol at *
   obtain ⟨hat0,hat1⟩:=hat
   go_wp2
   go_ret
   refine ⟨ret_int HC.out.symm,h4,tk2,wt2,?_,?_,O4.out,U4.out⟩
   ·rw [HS.out]; exact M4.out
   ·rw [HS.out]
    have f3:=FA.out
    rw [HS.out] at f3
    have f2:KFit (R.toAt sd t (at_ + 1)):=KFit.unmod (t:=t) (g:=fun x=>{ x with last:=cd }) f3 (fun _=>⟨rfl,rfl⟩)
    have f1:KFit sd:=KFit.unmod (t:=t) (g:=fun x=>{ x with at_:=at_ + 1 }) f2 (fun _=>⟨rfl,rfl⟩)
    have a3:Ln.Aux (R.toAt sd t (at_ + 1)) tk2 wt2:=A2.out.modify f1.ok t _ (fun _=>⟨rfl,rfl,rfl,rfl,id⟩)
    exact a3.modify f2.ok t _ (fun _=>⟨rfl,rfl,rfl,rfl,id⟩)
theorem WkW.of_keep {n:Nat} {s s':RS} (wk:Ln.Wk n ws s.T) (k:R.KeepW s s'):Ln.WkW n ws s'.T:=by
 refine ⟨wk.len,fun t ht=>?_,fun v hv=>?_,fun v hv t ht ha=>?_⟩
 ·have ht':t < s.T.length:=by rw [<- k.len]; exact ht
  have:=k.wkr t
  rw [th_ext ht,th_ext ht'] at this
  have hb:=wk.tb t ht'
  have:=wk.len
  rcases this with h | h <;> omega
 ·rw [k.len]
  exact wk.wb v hv
 ·have ht':t < s.T.length:=by rw [<- k.len]; exact ht
  have:=k.wkr t
  rw [th_ext ht,th_ext ht'] at this
  rcases this with h | h
  ·rw [h]
   exact wk.eq v hv t ht'
  ·rw [h.2] at ha
   cases ha
theorem step_ready {s:RS} (inv:RInv s) (hnx:s.next<=4611686018427386000) {wk:Int} (hw:¬ (wk < 0\/s.set.workers<=wk)) (hon:¬ R.on s.T wk < 0) :
  ∃ t:Nat,R.on s.T wk=(t:Int)/\∃ (ht:t < s.T.length),s.T[t].for_=0/\(0<=s.T[t].at_/\s.T[t].at_<=1000)/\(0<=s.T[t].ended/\s.T[t].ended<=2000000000)/\(s.set.threads.getD t P3.none0).code.length<=32/\0<=(R.instrAt s t).op/\(R.instrAt s t).op<=11/\KIns s (R.instrAt s t)/\RInv (R.settle (R.actS s t))/\R.pickS s wk=R.settle (R.actS s t):=by
 obtain ⟨o0,o1⟩:=R.on_bd s.T wk
 have hsp:=R.on_spec s.T wk (by omega)
 obtain ⟨t,ht0⟩:=Int.eq_ofNat_of_zero_le (show 0<=R.on s.T wk by omega)
 have ht:t < s.T.length:=by omega
 have etn:(R.on s.T wk).toNat=t:=by omega
 rw [etn,th_ext ht] at hsp
 have haw:s.T[t].awake=true:=inv.wk t ht (by rw [hsp]; omega)
 have hx:=inv.thr t ht
 have htc:t < s.set.threads.length:=by have:=inv.good.len; omega
 have ecl:R.codeLen s.set t=s.set.threads[t].code.length:=by simp [R.codeLen,List.getD,htc]
 have ecd:s.set.threads.getD t P3.none0=s.set.threads[t]:=by simp [List.getD,htc]
 have hf0:s.T[t].for_=0:=Classical.byContradiction fun hc=>by
  have:=(hx.fw hc).2
  rw [haw] at this
  cases this
 have hcl:=(inv.toRMid.code.code t htc).1
 have hat:=inv.toRMid.code.at_ t ht
 have hen:=inv.toRMid.code.ended t ht
 have hpk:R.pickS s wk=R.settle (R.actS s t):=by
  unfold R.pickS
  rw [if_neg hw,if_neg hon,etn]
 have hri:=inv.pick wk hnx
 rw [hpk] at hri
 have hins:(0<=(R.instrAt s t).op/\(R.instrAt s t).op<=11)/\KIns s (R.instrAt s t):=by
  have eI:R.instrAt s t=(s.set.threads[t].code)[s.T[t].at_.toNat]?.getD ⟨0,0,0⟩:=by
   unfold R.instrAt
   rw [th_ext ht,ecd]
  rcases Nat.lt_or_ge s.T[t].at_.toNat s.set.threads[t].code.length with h' | h'
  ·have eI2:R.instrAt s t=s.set.threads[t].code[s.T[t].at_.toNat]:=by rw [eI]; simp [h']
   rw [eI2]
   exact ⟨⟨(inv.toRMid.ins t htc _ (List.getElem_mem h')).1.op0,(inv.toRMid.ins t htc _ (List.getElem_mem h')).1.op1⟩,inv.toRMid.kins t htc _ (List.getElem_mem h')⟩
  ·have eI2:R.instrAt s t=⟨0,0,0⟩:=by rw [eI,List.getElem?_eq_none h']; rfl
   rw [eI2]
   exact ⟨⟨Int.le_refl _,by decide⟩,fun e=>(by cases e),fun e=>(by cases e),fun e=>(by rcases e with e | e <;> cases e),fun e=>(by rcases e with e | e | e <;> cases e),fun e=>(by rcases e with e | e <;> cases e),fun e=>(by rcases e with e | e <;> cases e)⟩
 exact ⟨t,ht0,ht,hf0,⟨by omega,by omega⟩,⟨by omega,by omega⟩,by rw [ecd]; exact hcl,hins.1.1,hins.1.2,hins.2,hri,hpk⟩
theorem RInv.unsettle {s:RS} (inv:RInv (R.settle s)):KFit s/\AwOk s:=by
 have f:=inv.toRMid.fit
 have hl:=settle_len s
 refine ⟨⟨by rw [<- hl]; exact f.few,f.m8,f.ok.len,fun i hi=>?_,fun u hu hf=>?_,f.ok.kind⟩,fun t ht=>?_⟩
 ·have:=f.ok.own i hi
  rw [hl] at this
  exact this
 ·obtain ⟨x,hx⟩:=settle_thr hu
  have:=f.ok.of1 u (by rw [hl]; exact hu) (by rw [hx]; exact hf)
  rw [hx] at this
  exact this
 ·have h1:=inv.toRMid.awOk t (by rw [hl]; exact ht)
  obtain ⟨x,hx⟩:=settle_get ht
  rw [hx] at h1
  exact h1
end
end Go.Proofs.YtbkfildnijjioaaGreat
