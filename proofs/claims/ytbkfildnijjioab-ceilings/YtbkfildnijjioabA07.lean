import Derived.Test.YtbkfildnijjioabA06
/-
  Walks over package donate: tickets and waits.
-/
namespace Go.Proofs.Ytbkfildnijjioab
open Go.RowKit

section
variable {F : Nat → Prop} {w : World} {kb : Nat} {h : KH} {s : RS} {tk wt : List Nat} {ws : List Int}

theorem KMem.old (m : KMem F w kb h s tk wt ws) : h.gW < w.heap.size ∧ (∀ g, h.vTk.ownBlock = some g → g < w.heap.size) ∧ (∀ g, h.vWt.ownBlock = some g → g < w.heap.size) :=
  ⟨m.wT.lt, fun _ hg => (own_typ m.tks hg).lt, fun _ hg => (own_typ m.wts hg).lt⟩

/-- The lists may lie in new blocks; the tables stay where they are. -/
structure KUp (w : World) (h h' : KH) : Prop where
  gT : h'.gT = h.gT
  gM : h'.gM = h.gM
  gW : h'.gW = h.gW
  tk : ∀ g, h'.vTk.ownBlock = some g → h.vTk.ownBlock = some g ∨ w.heap.size ≤ g
  wt : ∀ g, h'.vWt.ownBlock = some g → h.vWt.ownBlock = some g ∨ w.heap.size ≤ g
  ms : ∀ g, h'.vMs.ownBlock = some g → h.vMs.ownBlock = some g ∨ w.heap.size ≤ g
  gS : h'.gS = h.gS
  gQ : h'.gQ = h.gQ
  st : ∀ g, KSB h' g → KSB h g ∨ w.heap.size ≤ g
theorem KUp.refl (w : World) (h : KH) : KUp w h h := ⟨rfl, rfl, rfl, fun _ => .inl, fun _ => .inl, fun _ => .inl, rfl, rfl, fun _ => .inl⟩
theorem KUp.trans {w w1 : World} {h h1 h2 : KH} (u : KUp w h h1) (v : KUp w1 h1 h2) (hz : w.heap.size ≤ w1.heap.size) : KUp w h h2 := by
  refine ⟨v.gT.trans u.gT, v.gM.trans u.gM, v.gW.trans u.gW, fun g hg => ?_, fun g hg => ?_, fun g hg => ?_, v.gS.trans u.gS, v.gQ.trans u.gQ, fun g hg => ?_⟩
  · rcases v.tk g hg with h | h
    · exact u.tk g h
    · exact .inr (Nat.le_trans hz h)
  · rcases v.wt g hg with h | h
    · exact u.wt g h
    · exact .inr (Nat.le_trans hz h)
  · rcases v.ms g hg with h | h
    · exact u.ms g h
    · exact .inr (Nat.le_trans hz h)
  · rcases v.st g hg with h | h
    · exact u.st g h
    · exact .inr (Nat.le_trans hz h)
theorem KUp.blocks {F : Nat → Prop} {w : World} {kb : Nat} {h h' : KH} (u : KUp w h h') : ∀ b, KB F kb h' b → KB F kb h b ∨ w.heap.size ≤ b := by
  rintro b (hb | hb | hb | hb | hb | hb | hb | hb | hb)
  · exact .inl (.inl hb)
  · exact .inl (.inr (.inl hb))
  · exact .inl (.inr (.inr (.inl (hb.trans u.gT))))
  · exact .inl (.inr (.inr (.inr (.inl (hb.trans u.gM)))))
  · exact .inl (.inr (.inr (.inr (.inr (.inl (hb.trans u.gW))))))
  · exact (u.tk b hb).elim (fun x => .inl (.inr (.inr (.inr (.inr (.inr (.inl x))))))) .inr
  · exact (u.wt b hb).elim (fun x => .inl (.inr (.inr (.inr (.inr (.inr (.inr (.inl x)))))))) .inr
  · exact (u.ms b hb).elim (fun x => .inl (.inr (.inr (.inr (.inr (.inr (.inr (.inr (.inl x))))))))) .inr
  · exact (u.st b hb).elim (fun x => .inl (.inr (.inr (.inr (.inr (.inr (.inr (.inr (.inr x))))))))) .inr

/-- New lists of tickets and of those who wait. -/
theorem KMem.setTk {w2 : World} (m : KMem F w kb h s tk wt ws) (hb : Below w.heap.size w w2) {v : Value} {tk' : List Nat} (hv : w2.ownsRow w.heap.size 3 1 v tk'.length (intCells (Ln.ints tk'))) :
    ∃ h', KMem F (w2.setCell ⟨kb, 6, none⟩ v) kb h' s tk' wt ws ∧ KUp w h h' := by
  obtain ⟨o1, o2, o3⟩ := m.old
  have m2 := m.below hb
  refine ⟨{ h with vTk := v }, m2.setK 6 v rfl rfl (by simp [kCells]) (ownsRow_mono hv (Nat.zero_le _)) m2.wts m2.mss (fun g hg => ?_) (fun g hg => ⟨(m.dWt g hg).1, fun e => ?_⟩) (fun g hg => ⟨fun e => ?_, (m.dSt g hg).2.2⟩), rfl, rfl, rfl, fun g hg => .inr (ownsRow_block hv hg).1, fun _ => .inl, fun _ => .inl, rfl, rfl, fun _ => .inl⟩
  · have := (ownsRow_block hv hg).1
    omega
  · have := (ownsRow_block hv e).1
    have := o3 g hg
    omega
  · have := (ownsRow_block hv e).1
    have := m.st.lt hg
    omega
theorem KMem.setWt {w2 : World} (m : KMem F w kb h s tk wt ws) (hb : Below w.heap.size w w2) {v : Value} {wt' : List Nat} (hv : w2.ownsRow w.heap.size 3 1 v wt'.length (intCells (Ln.ints wt'))) :
    ∃ h', KMem F (w2.setCell ⟨kb, 7, none⟩ v) kb h' s tk wt' ws ∧ KUp w h h' := by
  obtain ⟨o1, o2, o3⟩ := m.old
  have m2 := m.below hb
  refine ⟨{ h with vWt := v }, m2.setK 7 v rfl rfl (by simp [kCells]) m2.tks (ownsRow_mono hv (Nat.zero_le _)) m2.mss m.dTk (fun g hg => ⟨?_, fun e => ?_⟩) (fun g hg => ⟨(m.dSt g hg).2.1, fun e => ?_⟩), rfl, rfl, rfl, fun _ => .inl, fun g hg => .inr (ownsRow_block hv hg).1, fun _ => .inl, rfl, rfl, fun _ => .inl⟩
  · have := (ownsRow_block hv hg).1
    omega
  · have := (ownsRow_block hv hg).1
    have := o2 g e
    omega
  · have := (ownsRow_block hv e).1
    have := m.st.lt hg
    omega

set_option maxRecDepth 100000 in
set_option maxHeartbeats 1000000 in
theorem kDraw_any (m : KMem F w kb h s tk wt ws) (t : Nat) (hll : tk.length ≤ 16) :
    Calls Try.prog 96 #[.pointer (some ⟨kb, 0, none⟩), .int .i64 t] w fun e w' => e = .returned (.tuple #[]) ∧ ∃ h', KMem F w' kb h' s (Ln.less tk t ++ [t]) wt ws ∧ Only [kb] w w' ∧ KUp w h h' := by
  obtain ⟨ao, ca, hv, hin⟩ := m.tkIn
  have c6 := m.blk.cell 6
  simp [kCells] at c6
  rw [hv] at c6
  have CW := hid (kWithout_any w ao ca tk t hin hll)
  have hlf : (Ln.less tk t).length ≤ tk.length := List.length_filter_le _ _
  have M := hid m
  clear m hv hin
  generalize Ln.less tk t = f at *
  obtain ⟨i3, hi3, hz30, hz31, hz32⟩ := info_parts Try.infoInt
  have HI3 := hid (And.intro hi3 (And.intro hz30 (And.intro hz31 hz32)))
  clear hi3 hz30 hz31 hz32
  go_enter Try.func96, Try.ntmps96
  go_wp2_with fail
  refine CW.out.mono ?_
  rintro e w1 ⟨v1, rfl, hr1, hb1⟩
  have ROW1 := hid hr1
  have HB1 := hid hb1
  have hsz1 := hb1.size
  clear hr1 hb1 CW c6
  go_upto_region 2 with (at_builtin; refine wpList_append_src rfl (.tmp 11) (.tmp 13) 25 rfl w.heap.size 3 i3 (.int .i64 0) 1 8 Try.underlying25 HI3.out.1 HI3.out.2.1 HI3.out.2.2.1 HI3.out.2.2.2 rfl (by decide) v1 f.length (intCells (Ln.ints f)) rfl (ROW1.out.alloc _) (some ⟨w1.heap.size, 0, none⟩) 1 1 [.int .i64 (t : Int)] rfl rfl (fun h => (by cases h)) (fun j u hj => ⟨_, rfl, (by rw [Addr.add_lit, Nat.zero_add, (Blk.new w1 #[.int .i64 (t : Int)] 3).cell]; simpa using hj)⟩) (by intro u hu; simp at hu; subst hu; rfl) (by unfold maxLen; omega) (by omega) (by simp; omega) ?_; intro v' w2 hown2 hg2; have O2 := hid hown2; have G2 := hid hg2; obtain ⟨tv5, tc5, rfl, _, _⟩ := owns_cells hown2; clear hown2 hg2)
  have hb2 : Below w.heap.size w w2 := (HB1.out.alloc (by omega) _).grown G2.out (by simp; omega) (fun g hg => (ownsRow_block ROW1.out hg).1)
  have hr2 : w2.ownsRow w.heap.size 3 1 (.slice tv5 (f.length + 1) tc5) (f ++ [t]).length (intCells (Ln.ints (f ++ [t]))) := by
    rw [ints_snoc, List.length_append]
    exact O2.out
  obtain ⟨h3, m3, u3'⟩ := M.out.setTk hb2 hr2
  have M3 := hid m3
  have U3 := hid u3'
  have O3 : Hid (Only [kb] w (w2.setCell ⟨kb, 6, none⟩ (.slice tv5 (f.length + 1) tc5))) := (Only.of_below hb2).setCell (.inl (by simp)) _
  have c6 := (M.out.below hb2).blk.cell 6
  have f6 := (M.out.below hb2).blk.frozen 6
  simp [kCells] at c6
  clear m3 hr2 hb2 u3'
  go_wp2
  go_end0
  exact ⟨rfl, _, M3.out, O3.out, U3.out⟩


theorem ktCells_last (S : SetD) (i : Nat) (cv : Value) (x : RT) (c : Int) : ktCells S i cv { x with last := c } = (ktCells S i cv x).set 6 (.int .i64 c) := rfl
theorem ktCells_what (S : SetD) (i : Nat) (cv : Value) (x : RT) (c : Int) : ktCells S i cv { x with for_ := c } = (ktCells S i cv x).set 10 (.int .i64 c) := rfl
theorem ktCells_of (S : SetD) (i : Nat) (cv : Value) (x : RT) (c : Int) : ktCells S i cv { x with of_ := c } = (ktCells S i cv x).set 11 (.int .i64 c) := rfl
theorem ktCells_until (S : SetD) (i : Nat) (cv : Value) (x : RT) (c : Int) : ktCells S i cv { x with until_ := c } = (ktCells S i cv x).set 12 (.int .i64 c) := rfl
theorem ktCells_at (S : SetD) (i : Nat) (cv : Value) (x : RT) (c : Int) : ktCells S i cv { x with at_ := c } = (ktCells S i cv x).set 5 (.int .i64 c) := rfl
theorem ktCells_base (S : SetD) (i : Nat) (cv : Value) (x : RT) (c : Int) : ktCells S i cv { x with base := c } = (ktCells S i cv x).set 1 (.int .i64 c) := rfl
theorem ktCells_rel (S : SetD) (i : Nat) (cv : Value) (x : RT) (c : Int) : ktCells S i cv { x with rel := c } = (ktCells S i cv x).set 8 (.int .i64 c) := rfl
theorem ktCells_got (S : SetD) (i : Nat) (cv : Value) (x : RT) (c : Int) : ktCells S i cv { x with got := c } = (ktCells S i cv x).set 7 (.int .i64 c) := rfl
theorem ktCells_ended (S : SetD) (i : Nat) (cv : Value) (x : RT) (c : Int) : ktCells S i cv { x with ended := c } = (ktCells S i cv x).set 9 (.int .i64 c) := rfl

theorem KMem.setT' (m : KMem F w kb h s tk wt ws) {t j : Nat} (ht : t < s.T.length) (hj : j < 13) (v : Value) (f : RT → RT) (hf : ktCells s.set t (h.cs t) (f s.T[t]) = (ktCells s.set t (h.cs t) s.T[t]).set j v) :
    ∃ h', KMem F (w.setCell ⟨h.gT, t * 13 + j, none⟩ v) kb h' { s with T := s.T.modify t f } tk wt ws ∧ KUp w h h' := ⟨_, m.setT ht hj v f hf, rfl, rfl, rfl, fun _ => .inl, fun _ => .inl, fun _ => .inl, rfl, rfl, fun _ => .inl⟩
theorem KMem.setM' (m : KMem F w kb h s tk wt ws) (i : Nat) (hi : i < s.owner.length) (x : Int) :
    ∃ h', KMem F (w.setCell ⟨h.gM, i * 3 + 2, none⟩ (.int .i64 x)) kb h' { s with owner := s.owner.set i x } tk wt ws ∧ KUp w h h' := ⟨_, m.setM i hi x, rfl, rfl, rfl, fun _ => .inl, fun _ => .inl, fun _ => .inl, rfl, rfl, fun _ => .inl⟩
theorem KMem.setS' (m : KMem F w kb h s tk wt ws) (i : Nat) (hi : i < s.count.length) (x : Int) :
    ∃ h', KMem F (w.setCell ⟨h.gS, i * 2, none⟩ (.int .i64 x)) kb h' { s with count := s.count.set i x } tk wt ws ∧ KUp w h h' := ⟨_, m.setS i hi x, rfl, rfl, rfl, fun _ => .inl, fun _ => .inl, fun _ => .inl, rfl, rfl, fun _ => .inl⟩
theorem KMem.setQ' {w1 : World} (m : KMem F w kb h s tk wt ws) (i : Nat) (hi : i < s.box.length) {v : Value} {l : List Int}
    (hsame : ∀ b, b < w.heap.size → (h.qv i).ownBlock ≠ some b → w1.heap[b]? = w.heap[b]?) (hr : w1.ownsRow 0 3 1 v l.length (intCells l)) (hat : ∀ g, v.ownBlock = some g → (h.qv i).ownBlock = some g ∨ w.heap.size ≤ g) :
    ∃ h', KMem F (w1.setCell ⟨h.gQ, i * 2 + 1, none⟩ v) kb h' { s with box := s.box.set i l } tk wt ws ∧ KUp w h h' := by
  refine ⟨_, m.setQ i hi hsame hr hat, rfl, rfl, rfl, fun _ => .inl, fun _ => .inl, fun _ => .inl, rfl, rfl, ?_⟩
  rintro g (e | e | ⟨k, hk, hg⟩)
  · exact .inl (.inl e)
  · exact .inl (.inr (.inl e))
  · have hk' : k < h.nq := hk
    have hg2 : (if k = i then v else h.qv k).ownBlock = some g := hg
    by_cases e1 : k = i
    · rw [if_pos e1] at hg2
      rcases hat g hg2 with e4 | e4
      · exact .inl (.inr (.inr ⟨i, e1 ▸ hk', e4⟩))
      · exact .inr e4
    · rw [if_neg e1] at hg2
      exact .inl (.inr (.inr ⟨k, hk', hg2⟩))
theorem setCell_sz (w : World) (p : Addr) (u : Value) : w.heap.size ≤ (w.setCell p u).heap.size := by simp [World.setCell]
/-- The wait of a thread is written. -/
theorem KMem.setWait (m : KMem F w kb h s tk wt ws) {t : Nat} (ht : t < s.T.length) (a b c : Int) : ∃ h', KMem F (((w.setCell ⟨h.gT, t * 13 + 10, none⟩ (.int .i64 a)).setCell ⟨h.gT, t * 13 + 11, none⟩ (.int .i64 b)).setCell ⟨h.gT, t * 13 + 12, none⟩ (.int .i64 c)) kb h' { s with T := s.T.modify t (fun x => { x with for_ := a, of_ := b, until_ := c }) } tk wt ws ∧ KUp w h h' := by
  obtain ⟨h1, m1, u1⟩ := m.setT' ht (j := 10) (by decide) (.int .i64 a) (fun x => { x with for_ := a }) (ktCells_what _ _ _ _ _)
  obtain ⟨h2, m2, u2⟩ := m1.setT' (t := t) (by simpa using ht) (j := 11) (by decide) (.int .i64 b) (fun x => { x with of_ := b }) (ktCells_of _ _ _ _ _)
  obtain ⟨h3, m3, u3⟩ := m2.setT' (t := t) (by simpa using ht) (j := 12) (by decide) (.int .i64 c) (fun x => { x with until_ := c }) (ktCells_until _ _ _ _ _)
  dsimp only at m3
  rw [List.modify_modify_eq, List.modify_modify_eq, u2.gT, u1.gT] at m3
  exact ⟨h3, m3, (u1.trans u2 (setCell_sz _ _ _)).trans u3 (Nat.le_trans (setCell_sz _ _ _) (setCell_sz _ _ _))⟩

set_option maxRecDepth 100000 in
set_option maxHeartbeats 1000000 in
theorem kEndWait_any (m : KMem F w kb h s tk wt ws) (t : Nat) (ht : t < s.T.length) (_hfew : s.T.length ≤ 16) (htk : tk.length ≤ 16) (hwt : wt.length ≤ 16) (c : Int) :
    Calls Try.prog 105 #[.pointer (some ⟨kb, 0, none⟩), .int .i64 t, .int .i64 c] w fun e w' => e = .returned (.tuple #[]) ∧ ∃ h', KMem F w' kb h' (R.endW s t c) (Ln.less tk t ++ [t]) (Ln.less wt t) ws ∧ Only [kb, h.gT] w w' ∧ KUp w h h' := by
  obtain ⟨ao, ca, hv, hin⟩ := m.wtIn
  have c7 := m.blk.cell 7
  simp [kCells] at c7
  rw [hv] at c7
  have CW := hid (kWithout_any w ao ca wt t hin hwt)
  have M := hid m
  have htI : (t : Int) < (s.T.length : Int) := by omega
  clear m hv hin
  generalize Ln.less wt t = f at *
  go_enter Try.func105, Try.ntmps105
  go_wp2_with fail
  refine CW.out.mono ?_
  rintro e w1 ⟨v1, rfl, hr1, hb1⟩
  obtain ⟨tv5, tc5, rfl, _, _⟩ := owns_cells hr1
  obtain ⟨h1, m1, u1⟩ := M.out.setWt hb1 hr1
  have M1 := hid m1
  have U1 := hid u1
  have O1 : Hid (Only [kb, h.gT] w (w1.setCell ⟨kb, 7, none⟩ (.slice tv5 f.length tc5))) := (Only.of_below hb1).setCell (.inl (by simp)) _
  have d7 := (M.out.below hb1).blk.cell 7
  have f7 := (M.out.below hb1).blk.frozen 7
  simp [kCells] at d7
  clear hr1 hb1 CW c7 m1 u1
  go_upto_region 1 with fail
  clear d7 f7
  generalize w1.setCell ⟨kb, 7, none⟩ (.slice tv5 f.length tc5) = w2 at *
  have c1 := M1.out.blk.cell 1
  simp [kCells] at c1
  have a9 := M1.out.tcell ht 10 (by decide)
  have a10 := M1.out.tcell ht 11 (by decide)
  have a11 := M1.out.tcell ht 12 (by decide)
  simp [ktCells] at a9 a10 a11
  have f9 := M1.out.tfrozen (t * 13 + 10)
  have f10 := M1.out.tfrozen (t * 13 + 11)
  have f11 := M1.out.tfrozen (t * 13 + 12)
  obtain ⟨h2, m2, u2⟩ := M1.out.setWait ht 0 0 0
  have M2 := hid m2
  have U2 := hid (U1.out.trans u2 O1.out.size)
  have O2 := hid (((O1.out.setCell (p := ⟨h1.gT, t * 13 + 10, none⟩) (.inl (by simp [U1.out.gT])) (.int .i64 0)).setCell (p := ⟨h1.gT, t * 13 + 11, none⟩) (.inl (by simp [U1.out.gT])) (.int .i64 0)).setCell (p := ⟨h1.gT, t * 13 + 12, none⟩) (.inl (by simp [U1.out.gT])) (.int .i64 0))
  clear m2 u2
  go_upto_region 2 with fail
  clear a9 a10 a11 f9 f10 f11 c1 M1 O1
  generalize ((w2.setCell ⟨h1.gT, t * 13 + 10, none⟩ (.int .i64 0)).setCell ⟨h1.gT, t * 13 + 11, none⟩ (.int .i64 0)).setCell ⟨h1.gT, t * 13 + 12, none⟩ (.int .i64 0) = w3 at *
  have ht2 : t < (s.T.modify t (fun x => { x with for_ := 0, of_ := 0, until_ := 0 })).length := by simpa using ht
  have c1 := M2.out.blk.cell 1
  simp [kCells] at c1
  have a6 := M2.out.tcell ht2 6 (by decide)
  simp [ktCells] at a6
  have f6 := M2.out.tfrozen (t * 13 + 6)
  obtain ⟨h4, m4, u4⟩ := M2.out.setT' ht2 (j := 6) (by decide) (.int .i64 c) (fun x => { x with last := c }) (ktCells_last _ _ _ _ _)
  have M4 := hid m4
  have U4 := hid (U2.out.trans u4 O2.out.size)
  have O4 := hid (O2.out.setCell (p := ⟨h2.gT, t * 13 + 6, none⟩) (.inl (by simp [U2.out.gT])) (.int .i64 c))
  clear m4 u4
  go_upto_region 3 with fail
  clear a6 f6 c1 M2 O2
  generalize w3.setCell ⟨h2.gT, t * 13 + 6, none⟩ (.int .i64 c) = w4 at *
  go_wp2_with fail
  refine (kDraw_any M4.out t htk).mono ?_
  rintro e w5 ⟨rfl, h5, m5, o5, u5'⟩
  have M5 := hid m5
  have U5 := hid (U4.out.trans u5' O4.out.size)
  have O5 := hid (O4.out.trans (o5.mono (fun b hb => by simp at hb; simp [hb])))
  clear m5 o5 u5'
  go_wp2
  go_end0
  refine ⟨rfl, h5, ?_, O5.out, U5.out⟩
  refine M5.out.cong rfl rfl (by simp [R.endW, R.wake]) rfl rfl rfl rfl (fun i hi => ?_)
  simp only [R.endW, R.wake, List.getElem_modify]
  by_cases e : t = i
  · simp only [if_pos e]
    rfl
  · simp only [if_neg e]
end

end Go.Proofs.Ytbkfildnijjioab

/-
  Walks over package donate: waits begin, and are given what they wait for.
-/
namespace Go.Proofs.Ytbkfildnijjioab
open Go.RowKit

section
variable {F : Nat → Prop} {w w' : World} {kb : Nat} {h : KH} {s : RS} {tk wt : List Nat} {ws : List Int}

/-- The tables are as they were; the lists and the struct's cells are laid anew. -/
theorem KMem.remake (m : KMem F w kb h s tk wt ws) {h' : KH} {s' : RS} {tk' wt' : List Nat} (hh : h' = { h with vTk := h'.vTk, vWt := h'.vWt, vMs := h'.vMs }) (hs : s' = { s with now := s'.now, missed := s'.missed }) (hb : Blk w' kb (kCells h' s' ws) 88)
    (same : ∀ b, (F b ∨ b = h.gT ∨ b = h.gM ∨ b = h.gW ∨ KSB h b) → w'.heap[b]? = w.heap[b]?)
    (htk : w'.ownsRow 0 3 1 h'.vTk tk'.length (intCells (Ln.ints tk'))) (hwt : w'.ownsRow 0 3 1 h'.vWt wt'.length (intCells (Ln.ints wt'))) (hms : w'.ownsRow 0 82 3 h'.vMs s'.missed.length (missCells s'.missed))
    (d1 : ∀ g, h'.vTk.ownBlock = some g → g ≠ h.gW) (d2 : ∀ g, h'.vWt.ownBlock = some g → g ≠ h.gW ∧ h'.vTk.ownBlock ≠ some g) (d3 : ∀ g, KSB h g → h'.vTk.ownBlock ≠ some g ∧ h'.vWt.ownBlock ≠ some g) : KMem F w' kb h' s' tk' wt' ws := by
  have e1 : h'.gT = h.gT := by rw [hh]
  have e2 : h'.cT = h.cT := by rw [hh]
  have e3 : h'.L = h.L := by rw [hh]
  have e4 : h'.cs = h.cs := by rw [hh]
  have e5 : h'.gM = h.gM := by rw [hh]
  have e6 : h'.cM = h.cM := by rw [hh]
  have e7 : h'.LM = h.LM := by rw [hh]
  have e8 : h'.gW = h.gW := by rw [hh]
  have e9 : h'.cW = h.cW := by rw [hh]
  have s1 : s'.set = s.set := by rw [hs]
  have s2 : s'.T = s.T := by rw [hs]
  have s3 : s'.owner = s.owner := by rw [hs]
  have s4 : s'.count = s.count := by rw [hs]
  have s5 : s'.box = s.box := by rw [hs]
  have kh : KHs h h' := by rw [hh]; exact ⟨rfl, rfl, rfl, rfl, rfl, rfl, rfl, rfl⟩
  refine ⟨hb, ?_, ?_, ?_, ?_, ?_, ?_, htk, hwt, hms, fun b hb => (m.ft b hb).same (same b (.inl hb)), ?_, ?_, ?_, fun g hg => ?_⟩
  · rw [e1, e2, e3, s2]
    exact ownsRow_same m.rows fun g hg => by cases hg; exact same _ (.inr (.inl rfl))
  · simp only [e3, e4, s1, s2]
    exact m.cells
  · simp only [e4, s1, s2]
    intro k hk
    obtain ⟨cv, cc, h1, h2⟩ := m.codes k hk
    exact ⟨cv, cc, h1, h2.same fun b hb => same b (.inl hb)⟩
  · rw [e5, e6, e7, s3]
    exact ownsRow_same m.mrow fun g hg => by cases hg; exact same _ (.inr (.inr (.inl rfl)))
  · simp only [e7, s1, s3]
    exact m.mcells
  · rw [e8, e9]
    exact ownsRow_same m.wk fun g hg => by cases hg; exact same _ (.inr (.inr (.inr (.inl rfl))))
  · rw [e8]; exact d1
  · rw [e8]; exact d2
  · rw [s1, s4, s5]
    exact (m.st.same fun b hb => same b (.inr (.inr (.inr (.inr hb))))).like kh
  · rw [e8]
    exact ⟨(m.dSt g (kh.blocks hg)).1, d3 g (kh.blocks hg)⟩

/-- One more waits: the list was lengthened where it lies, or laid anew. -/
theorem KMem.grownWt (m : KMem F w kb h s tk wt ws) {v : Value} {wt' : List Nat} (hg : w.grownBy w' h.vWt.ownBlock) (hr : w'.ownsRow 0 3 1 v wt'.length (intCells (Ln.ints wt'))) (hat : v.ownBlock = h.vWt.ownBlock ∨ v.ownBlock = some w.heap.size) :
    Blk w' kb (kCells h s ws) 88 ∧ ∃ h', KMem F (w'.setCell ⟨kb, 7, none⟩ v) kb h' s tk wt' ws ∧ KUp w h h' := by
  obtain ⟨o1, o2, o3⟩ := m.old
  have other : ∀ b e, Typ w b e → e ≠ 3 → w'.heap[b]? = w.heap[b]? := fun b e hb he => hg.block b hb.lt (fun x => (own_typ m.wts x.symm).ne hb (Ne.symm he) rfl)
  have hblk : Blk w' kb (kCells h s ws) 88 := by
    have := m.blk
    unfold Blk at this ⊢
    rw [other kb _ m.kT (by decide)]
    exact this
  have kT' : Typ w' kb 88 := ⟨_, hblk⟩
  have away : ∀ b, b ≠ kb → (w'.setCell ⟨kb, 7, none⟩ v).heap[b]? = w'.heap[b]? := fun b hb => Below.heap_setCell _ _ _ _ hb
  have ints : ∀ b, Typ w b 3 → h.vWt.ownBlock ≠ some b → (w'.setCell ⟨kb, 7, none⟩ v).heap[b]? = w.heap[b]? := fun b hb hn => by
    rw [away b (ne_of_typ m.kT hb (by decide)), hg.block b hb.lt (fun x => hn x.symm)]
  have offs : ∀ b e, Typ w b e → e ≠ 3 → e ≠ 88 → (w'.setCell ⟨kb, 7, none⟩ v).heap[b]? = w.heap[b]? := fun b e hb h1 h2 => by
    rw [away b (ne_of_typ m.kT hb (Ne.symm h2)), other b e hb h1]
  refine ⟨hblk, { h with vWt := v }, m.remake (h' := { h with vWt := v }) rfl rfl ?_ ?_ ?_ ?_ ?_ m.dTk (fun g hg' => ?_) (fun g hg' => ⟨(m.dSt g hg').2.1, fun e => ?_⟩), rfl, rfl, rfl, fun _ => .inl, fun g hg' => ?_, fun _ => .inl, rfl, rfl, fun _ => .inl⟩
  · have := hblk.set 7 v
    simpa [kCells] using this
  · rintro b (hb | rfl | rfl | rfl | hb)
    · exact offs b _ (m.ft b hb) (by decide) (by decide)
    · exact offs _ _ m.tT (by decide) (by decide)
    · exact offs _ _ m.mT (by decide) (by decide)
    · exact ints _ m.wT (fun e => (m.dWt _ e).1 rfl)
    · rcases m.st.typ hb with ht | ht | ht
      · exact offs _ _ ht (by decide) (by decide)
      · exact offs _ _ ht (by decide) (by decide)
      · exact ints _ ht (m.dSt b hb).2.2
  · exact ownsRow_same m.tks fun g hg' => ints g (own_typ m.tks hg') (fun e => (m.dWt g e).2 hg')
  · exact ownsRow_same hr fun g hg' => away g (ne_of_typ kT' (own_typ hr hg') (by decide))
  · exact ownsRow_same m.mss fun g hg' => offs g _ (own_typ m.mss hg') (by decide) (by decide)
  · have hg2 : v.ownBlock = some g := hg'
    rcases hat with e | e
    · rw [e] at hg2
      exact m.dWt g hg2
    · rw [e] at hg2
      cases hg2
      refine ⟨by omega, fun e => ?_⟩
      have := o2 _ e
      omega
  · have hg2 : v.ownBlock = some g := e
    rcases hat with e' | e'
    · rw [e'] at hg2
      exact (m.dSt g hg').2.2 hg2
    · rw [e'] at hg2
      cases hg2
      have := m.st.lt hg'
      omega
  · have hg2 : v.ownBlock = some g := hg'
    rcases hat with e | e
    · rw [e] at hg2
      exact .inl hg2
    · rw [e] at hg2
      cases hg2
      exact .inr (Nat.le_refl _)

set_option maxRecDepth 100000 in
set_option maxHeartbeats 1000000 in
theorem kBeginWait_any (m : KMem F w kb h s tk wt ws) (t : Nat) (ht : t < s.T.length) (_hfew : s.T.length ≤ 16) (hwt : wt.length ≤ 16) (what of_ n : Int) (hn0 : -1 ≤ n) (hn1 : n ≤ 1000) (g0 : 0 ≤ s.now) (g1 : s.now ≤ 1000000000) :
    Calls Try.prog 114 #[.pointer (some ⟨kb, 0, none⟩), .int .i64 t, .int .i64 what, .int .i64 of_, .int .i64 n] w fun e w' => e = .returned (.int .i64 1) ∧ ∃ h', KMem F w' kb h' (R.beginW s t what of_ n) tk (wt ++ [t]) ws ∧ Only (kb :: h.gT :: h.vWt.ownBlock.toList) w w' ∧ KUp w h h' := by
  have HU : Hid (R.beginW s t what of_ n = { s with next := s.next + 1, T := s.T.modify t (fun x => { x with awake := false, wkr := -1, for_ := what, of_ := of_, until_ := if n = -1 then -1 else s.now + n, since := s.next + 1 }) }) := by
    unfold R.beginW
    have : (if 0 ≤ n then s.now + n else -1) = if n = -1 then -1 else s.now + n := by
      by_cases e : n = -1
      · subst e; simp
      · rw [if_pos (by omega), if_neg e]
    rw [this]
    exact hid rfl
  generalize R.beginW s t what of_ n = res at *
  have M := hid m
  have htI : (t : Int) < (s.T.length : Int) := by omega
  obtain ⟨i3, hi3, hz30, hz31, hz32⟩ := info_parts Try.infoInt
  have HI3 := hid (And.intro hi3 (And.intro hz30 (And.intro hz31 hz32)))
  clear hi3 hz30 hz31 hz32
  have c0 := m.blk.cell 0
  have c1 := m.blk.cell 1
  simp [kCells] at c0 c1
  have a9 := m.tcell ht 10 (by decide)
  have a10 := m.tcell ht 11 (by decide)
  have a11 := m.tcell ht 12 (by decide)
  simp [ktCells] at a9 a10 a11
  have f9 := m.tfrozen (t * 13 + 10)
  have f10 := m.tfrozen (t * 13 + 11)
  have f11 := m.tfrozen (t * 13 + 12)
  have SW := hid (fun u : Int => m.setWait ht what of_ u)
  clear m
  go_enter Try.func114, Try.ntmps114
  have key : ∀ (u : Int) (w2 : World), u = (if n = -1 then -1 else s.now + n) → w2 = ((w.setCell ⟨h.gT, t * 13 + 10, none⟩ (.int .i64 what)).setCell ⟨h.gT, t * 13 + 11, none⟩ (.int .i64 of_)).setCell ⟨h.gT, t * 13 + 12, none⟩ (.int .i64 u) →
      ∃ h1, KMem F w2 kb h1 { s with T := s.T.modify t (fun x => { x with for_ := what, of_ := of_, until_ := u }) } tk wt ws ∧ KUp w h h1 ∧ Only (kb :: h.gT :: h.vWt.ownBlock.toList) w w2 := by
    rintro u w2 _ rfl
    obtain ⟨h1, m1, u1⟩ := SW.out u
    exact ⟨h1, m1, u1, (((Only.refl _ w).setCell (.inl (by simp)) _).setCell (.inl (by simp)) _).setCell (.inl (by simp)) _⟩
  have KEY := hid key
  clear key SW
  cases hne : (n != -1)
  · have hnn : n = -1 := by simpa using hne
    have HN : (if n = -1 then (-1 : Int) else s.now + n) = -1 := if_pos hnn
    have HNH := hid HN
    clear HN hnn
    go_upto_region 5 with fail
    obtain ⟨h1, m1, u1, o1⟩ := KEY.out (-1) _ HNH.out.symm rfl
    have M1 := hid m1
    have U1 := hid u1
    have O1 := hid o1
    clear m1 u1 o1 KEY c0 c1 a9 a10 a11 f9 f10 f11
    generalize ((w.setCell ⟨h.gT, t * 13 + 10, none⟩ (.int .i64 what)).setCell ⟨h.gT, t * 13 + 11, none⟩ (.int .i64 of_)).setCell ⟨h.gT, t * 13 + 12, none⟩ (.int .i64 (-1)) = w2 at *
    have hbA : Below w2.heap.size w2 (w2.alloc (.cells #[.int .i64 (t : Int)] 3)) := (Below.refl _ _).alloc (Nat.le_refl _) _
    have MA := hid (M1.out.below hbA)
    have c7 := M1.out.blk.cell 7
    simp [kCells] at c7
    have OW := MA.out.wts
    go_wp2_with (at_builtin; refine wpList_append_src_at rfl (.tmp 35) (.tmp 37) 25 rfl 0 3 i3 (.int .i64 0) 1 8 Try.underlying25 HI3.out.1 HI3.out.2.1 HI3.out.2.2.1 HI3.out.2.2.2 rfl (by decide) h1.vWt wt.length (intCells (Ln.ints wt)) rfl OW (some ⟨w2.heap.size, 0, none⟩) 1 1 [.int .i64 (t : Int)] rfl rfl (fun h => (by cases h)) (fun j u hj => ⟨_, rfl, (by rw [Addr.add_lit, Nat.zero_add, (Blk.new w2 #[.int .i64 (t : Int)] 3).cell]; simpa using hj)⟩) (by intro u hu; simp at hu; subst hu; rfl) (by unfold maxLen; omega) (by omega) (Nat.zero_le _) ?_; intro v' w3 hown3 hg3 hat3; obtain ⟨tv5, tc5, rfl, _, _⟩ := owns_cells hown3; have hr3 : w3.ownsRow 0 3 1 (.slice tv5 (wt.length + 1) tc5) (wt ++ [t]).length (intCells (Ln.ints (wt ++ [t]))) := (by rw [ints_snoc, List.length_append]; exact hown3); obtain ⟨b3, h3, m3, u3⟩ := MA.out.grownWt hg3 hr3 hat3; have M3 := hid m3; have U3 := hid u3; have y3 := b3.cell 7; have z3 := b3.frozen 7; simp [kCells] at y3; have G3 := hid hg3; clear hown3 hg3 hat3 hr3 b3 m3 u3 OW)
    go_ret
    have hsz1 := O1.out.size
    have hszA := hbA.size
    refine ⟨rfl, h3, ?_, ?_, U1.out.trans U3.out (by omega)⟩
    · rw [HU.out]
      refine M3.out.cong rfl rfl (by simp) rfl rfl rfl rfl (fun i hi => ?_)
      simp only [List.getElem_modify]
      by_cases e : t = i
      · simp only [if_pos e, HNH.out]
        rfl
      · simp only [if_neg e]
    · have o2 : Only (kb :: h.gT :: h.vWt.ownBlock.toList) w (w2.alloc (.cells #[.int .i64 (t : Int)] 3)) := O1.out.alloc _
      have o3 : Only (kb :: h.gT :: h.vWt.ownBlock.toList) w w3 := by
        refine ⟨G3.out.os.trans o2.os, G3.out.tape.trans o2.tape, G3.out.output.trans o2.output, Nat.le_trans o2.size G3.out.size, fun k hk hn => ?_⟩
        rw [G3.out.block k (Nat.lt_of_lt_of_le hk o2.size) (fun e => ?_)]
        · exact o2.block k hk hn
        · rcases U1.out.wt k e.symm with e' | e'
          · exact hn (by simp [e'])
          · omega
      exact o3.setCell (.inl (by simp)) _
  · have hnn : ¬ n = -1 := by simpa using hne
    have HN : (if n = -1 then (-1 : Int) else s.now + n) = s.now + n := if_neg hnn
    have HNH := hid HN
    clear HN hnn
    go_upto_region 5 with fail
    obtain ⟨h1, m1, u1, o1⟩ := KEY.out (s.now + n) _ HNH.out.symm rfl
    have M1 := hid m1
    have U1 := hid u1
    have O1 := hid o1
    clear m1 u1 o1 KEY c0 c1 a9 a10 a11 f9 f10 f11
    generalize ((w.setCell ⟨h.gT, t * 13 + 10, none⟩ (.int .i64 what)).setCell ⟨h.gT, t * 13 + 11, none⟩ (.int .i64 of_)).setCell ⟨h.gT, t * 13 + 12, none⟩ (.int .i64 (s.now + n)) = w2 at *
    have hbA : Below w2.heap.size w2 (w2.alloc (.cells #[.int .i64 (t : Int)] 3)) := (Below.refl _ _).alloc (Nat.le_refl _) _
    have MA := hid (M1.out.below hbA)
    have c7 := M1.out.blk.cell 7
    simp [kCells] at c7
    have OW := MA.out.wts
    go_wp2_with (at_builtin; refine wpList_append_src_at rfl (.tmp 35) (.tmp 37) 25 rfl 0 3 i3 (.int .i64 0) 1 8 Try.underlying25 HI3.out.1 HI3.out.2.1 HI3.out.2.2.1 HI3.out.2.2.2 rfl (by decide) h1.vWt wt.length (intCells (Ln.ints wt)) rfl OW (some ⟨w2.heap.size, 0, none⟩) 1 1 [.int .i64 (t : Int)] rfl rfl (fun h => (by cases h)) (fun j u hj => ⟨_, rfl, (by rw [Addr.add_lit, Nat.zero_add, (Blk.new w2 #[.int .i64 (t : Int)] 3).cell]; simpa using hj)⟩) (by intro u hu; simp at hu; subst hu; rfl) (by unfold maxLen; omega) (by omega) (Nat.zero_le _) ?_; intro v' w3 hown3 hg3 hat3; obtain ⟨tv5, tc5, rfl, _, _⟩ := owns_cells hown3; have hr3 : w3.ownsRow 0 3 1 (.slice tv5 (wt.length + 1) tc5) (wt ++ [t]).length (intCells (Ln.ints (wt ++ [t]))) := (by rw [ints_snoc, List.length_append]; exact hown3); obtain ⟨b3, h3, m3, u3⟩ := MA.out.grownWt hg3 hr3 hat3; have M3 := hid m3; have U3 := hid u3; have y3 := b3.cell 7; have z3 := b3.frozen 7; simp [kCells] at y3; have G3 := hid hg3; clear hown3 hg3 hat3 hr3 b3 m3 u3 OW)
    go_ret
    have hsz1 := O1.out.size
    have hszA := hbA.size
    refine ⟨rfl, h3, ?_, ?_, U1.out.trans U3.out (by omega)⟩
    · rw [HU.out]
      refine M3.out.cong rfl rfl (by simp) rfl rfl rfl rfl (fun i hi => ?_)
      simp only [List.getElem_modify]
      by_cases e : t = i
      · simp only [if_pos e, HNH.out]
        rfl
      · simp only [if_neg e]
    · have o2 : Only (kb :: h.gT :: h.vWt.ownBlock.toList) w (w2.alloc (.cells #[.int .i64 (t : Int)] 3)) := O1.out.alloc _
      have o3 : Only (kb :: h.gT :: h.vWt.ownBlock.toList) w w3 := by
        refine ⟨G3.out.os.trans o2.os, G3.out.tape.trans o2.tape, G3.out.output.trans o2.output, Nat.le_trans o2.size G3.out.size, fun k hk hn => ?_⟩
        rw [G3.out.block k (Nat.lt_of_lt_of_le hk o2.size) (fun e => ?_)]
        · exact o2.block k hk hn
        · rcases U1.out.wt k e.symm with e' | e'
          · exact hn (by simp [e'])
          · omega
      exact o3.setCell (.inl (by simp)) _

set_option maxHeartbeats 1000000 in
theorem kWaitFor_any (m : KMem F w kb h s tk wt ws) (t : Nat) (ht : t < s.T.length) (hfew : s.T.length ≤ 16) (hwt : wt.length ≤ 16) (what of_ n : Int) (hn0 : -1 ≤ n) (hn1 : n ≤ 1000) (g0 : 0 ≤ s.now) (g1 : s.now ≤ 1000000000) :
    Calls Try.prog 125 #[.pointer (some ⟨kb, 0, none⟩), .int .i64 t, .int .i64 what, .int .i64 of_, .int .i64 n] w fun e w' => e = .returned (.int .i64 (if n = 0 then 2 else 1)) ∧ ∃ h', KMem F w' kb h' (if n = 0 then s else R.beginW s t what of_ n) tk (if n = 0 then wt else wt ++ [t]) ws ∧ Only (kb :: h.gT :: h.vWt.ownBlock.toList) w w' ∧ KUp w h h' := by
  have BW := hid (kBeginWait_any m t ht hfew hwt what of_ n hn0 hn1 g0 g1)
  have M := hid m
  clear m
  generalize R.beginW s t what of_ n = sb at *
  by_cases hz : n = 0
  · simp only [if_pos hz]
    subst hz
    go_enter Try.func125, Try.ntmps125
    go_wp2
    go_ret
    exact ⟨rfl, h, M.out, Only.refl _ _, KUp.refl _ _⟩
  · simp only [if_neg hz]
    have hz' : (n == 0) = false := by simpa using hz
    go_enter Try.func125, Try.ntmps125
    go_wp2_with fail
    refine BW.out.mono ?_
    rintro e w3 ⟨rfl, h3, m3, o3, u3⟩
    have M3 := hid m3
    have U3 := hid u3
    have O3 := hid o3
    clear m3 o3 u3 BW
    go_wp2
    go_ret
    exact ⟨rfl, h3, M3.out, O3.out, U3.out⟩
end

end Go.Proofs.Ytbkfildnijjioab

/-
  Walks over package donate: things are given; the waits whose time is now end.
-/
namespace Go.Proofs.Ytbkfildnijjioab
open Go.RowKit

/-- What the walks want to know of a kernel. -/
structure KFit (s : RS) : Prop where
  few : s.T.length ≤ 16
  m8 : s.owner.length ≤ 8
  ok : R.LinksOk s
theorem KFit.endW {s : RS} (f : KFit s) (t : Nat) (ht : t < s.T.length) (c : Int) : KFit (R.endW s t c) := ⟨by rw [Ln.endW_length]; exact f.few, f.m8, Ln.LinksOk.endW f.ok t ht c⟩
theorem KFit.give {s : RS} (f : KFit s) (what of_ : Int) : KFit (R.giveS s what of_) := by
  unfold R.giveS
  split
  · have := R.firstTo_bd s what of_ [] s.T.length
    exact f.endW _ (by unfold R.giveT R.first at *; omega) _
  · exact f
theorem endW_th_for {s : RS} {t : Nat} (ht : t < s.T.length) (c : Int) : (R.th (R.endW s t c).T t).for_ = 0 := by
  rw [Ln.endW_th t ht c t, if_pos rfl]

section
variable {F : Nat → Prop} {w w' : World} {kb : Nat} {h : KH} {s : RS} {tk wt : List Nat} {ws : List Int}
theorem Ln.Aux.few (a : Ln.Aux s tk wt) (hf : s.T.length ≤ 16) : tk.length ≤ 16 ∧ wt.length ≤ 16 := by
  have h1 := a.tk.len
  have h2 := Ln.nodup_le' wt (List.range s.T.length) a.wt.nodup (fun x hx => by simpa using ((a.wt.mem x).1 hx).1)
  simp at h2
  omega

set_option maxHeartbeats 1000000 in
theorem kGive_any (m : KMem F w kb h s tk wt ws) (f : KFit s) (a : Ln.Aux s tk wt) (what of_ : Int) (hw : what ≠ 0) :
    Calls Try.prog 126 #[.pointer (some ⟨kb, 0, none⟩), .int .i64 what, .int .i64 of_] w fun e w' => e = .returned (.int .i64 (R.giveT s what of_)) ∧ ∃ h' tk' wt', KMem F w' kb h' (R.giveS s what of_) tk' wt' ws ∧ Ln.Aux (R.giveS s what of_) tk' wt' ∧ Only [kb, h.gT] w w' ∧ KUp w h h' := by
  have CL := hid (kWaitersInOrder_any m f.few f.ok f.m8 a.wt what of_)
  have ET := hid (Ln.giveT_line a.wt what of_ hw)
  have HB := hid (Ln.lineW_bd a.wt what of_)
  have ES : Hid (R.giveS s what of_ = if 0 ≤ R.giveT s what of_ then R.endW s (R.giveT s what of_).toNat 0 else s) := rfl
  have hllen : (Ln.lineW s wt what of_).length ≤ 16 := by
    have := Ln.byLv_length (R.Level s) (wt.filter (Ln.waitsFor s what of_))
    have h2 := List.length_filter_le (Ln.waitsFor s what of_) wt
    have := (a.few f.few).2
    unfold Ln.lineW
    omega
  have hsz := a.few f.few
  have hkb := m.kT.lt
  have hgt := m.tT.lt
  have M := hid m
  have FT := hid f
  have AX := hid a
  clear m f a
  generalize R.giveS s what of_ = sg at *
  generalize R.giveT s what of_ = tg at *
  generalize Ln.lineW s wt what of_ = L at *
  go_enter Try.func126, Try.ntmps126
  go_wp2_with fail
  refine CL.out.mono ?_
  rintro e w1 ⟨v, rfl, hr1, hb1⟩
  obtain ⟨ao, ca, rfl, _, hin, hna⟩ := IntsIn.of_owns (l := Ln.ints L) (by rw [Ln.ints_length]; exact hr1)
  rw [Ln.ints_length] at *
  have M1 := hid (M.out.below hb1)
  have HB1 := hid hb1
  have hsz1 := hb1.size
  have HNA := hid hna
  clear hr1 CL M hb1 hna
  cases L with
  | nil =>
    have HT : Hid (tg = -1) := by rw [ET.out]; exact hid (dif_neg (by simp))
    have HS : Hid (sg = s) := by rw [ES.out, HT.out, if_neg (by decide)]; exact hid rfl
    clear ET ES
    go_wp2
    go_ret
    refine ⟨ret_int HT.out.symm, h, tk, wt, ?_, ?_, Only.of_below HB1.out, KUp.refl _ _⟩
    · rw [HS.out]; exact M1.out
    · rw [HS.out]; exact AX.out
  | cons x L =>
    have HT : Hid (tg = (x : Int)) := by rw [ET.out]; exact hid (dif_pos (by simp))
    have HS : Hid (sg = R.endW s x 0) := by rw [ES.out, HT.out, if_pos (by omega)]; exact hid rfl
    have hxl := HB.out x (by simp)
    obtain ⟨b, o, ha, hbl, hcell⟩ := hin 0 (by simp [Ln.ints])
    have e0 : (Ln.ints (x :: L))[0]'(by simp [Ln.ints]) = (x : Int) := by simp [Ln.ints]
    rw [e0, Nat.add_zero] at hcell
    subst ha
    have hob : w.heap.size ≤ b := by
      obtain ⟨g, e, h1, _⟩ := HNA.out _ rfl
      cases e
      exact h1
    have hone : ((((x :: L).length : Nat) : Int) == 0) = false := by first | (simp; done) | (simp; omega)
    have hlI : (0 : Int) < (((x :: L).length : Nat) : Int) := by first | (simp; done) | (simp; omega)
    clear ET ES e0 hin
    generalize (x :: L).length = ll at *
    have EW := hid (kEndWait_any M1.out x hxl FT.out.few hsz.1 hsz.2 0)
    go_wp2_with fail
    refine EW.out.mono ?_
    rintro e w2 ⟨rfl, h2, m2, o2, u2⟩
    have M2 := hid m2
    have U2 := hid u2
    have O2 := hid o2
    have hcell2 : w2.cell? ⟨b, o, none⟩ = some (.int .i64 (x : Int)) := by
      rw [World.cell?_of_block (w := w1) (O2.out.block b hbl (by simp; omega))]
      exact hcell
    clear m2 u2 o2 EW hcell
    go_wp2
    go_ret
    refine ⟨ret_int HT.out.symm, h2, Ln.less tk x ++ [x], Ln.less wt x, ?_, ?_, (Only.of_below HB1.out).trans O2.out, (KUp.refl w h).trans U2.out hsz1⟩
    · rw [HS.out]; exact M2.out
    · rw [HS.out]; exact AX.out.endW FT.out.ok x hxl 0

set_option maxHeartbeats 400000 in
theorem kCodeInTime_any (w : World) (what : Int) :
    Calls Try.prog 104 #[.int .i64 what] w fun e w' => e = .returned (.int .i64 (if what = 4 then 0 else 2)) ∧ w' = w := by
  cases hq : (what == 4)
  · have hq' : ¬ what = 4 := by simpa using hq
    have HE : Hid ((if what = 4 then (0 : Int) else 2) = 2) := if_neg hq'
    generalize (if what = 4 then (0 : Int) else 2) = res at *
    clear hq'
    go_enter Try.func104, Try.ntmps104
    go_wp2
    go_ret
    exact ⟨ret_int HE.out.symm, rfl⟩
  · have hq' : what = 4 := by simpa using hq
    have HE : Hid ((if what = 4 then (0 : Int) else 2) = 0) := if_pos hq'
    generalize (if what = 4 then (0 : Int) else 2) = res at *
    clear hq'
    go_enter Try.func104, Try.ntmps104
    go_wp2
    go_ret
    exact ⟨ret_int HE.out.symm, rfl⟩

theorem endAll_take_succ {l : List Nat} {k : Nat} (hk : k < l.length) (s : RS) : Ln.endAll (l.take (k + 1)) s = R.endW (Ln.endAll (l.take k) s) l[k] (Ln.codeOf (Ln.endAll (l.take k) s) l[k]) := by
  unfold Ln.endAll
  rw [List.take_succ_eq_append_getElem hk, List.foldl_append]
  rfl
theorem endAll_length (l : List Nat) (s : RS) : (Ln.endAll l s).T.length = s.T.length := by
  induction l generalizing s with
  | nil => rfl
  | cons x l ih => show (Ln.endAll l (R.endW s x (Ln.codeOf s x))).T.length = _; rw [ih, Ln.endW_length]
theorem KFit.endAll (f : KFit s) (l : List Nat) (hl : ∀ u ∈ l, u < s.T.length) : KFit (Ln.endAll l s) := by
  induction l generalizing s with
  | nil => exact f
  | cons x l ih => exact ih (f.endW x (hl x (by simp)) _) (fun u hu => by rw [Ln.endW_length]; exact hl u (by simp [hu]))

set_option maxHeartbeats 1000000 in
theorem kEndDueWaits_any (m : KMem F w kb h s tk wt ws) (f : KFit s) (a : Ln.Aux s tk wt) :
    Calls Try.prog 84 #[.pointer (some ⟨kb, 0, none⟩)] w fun e w' => e = .returned (.tuple #[]) ∧ ∃ h' tk' wt', KMem F w' kb h' (R.ends s) tk' wt' ws ∧ Ln.Aux (R.ends s) tk' wt' ∧ Only [kb, h.gT] w w' ∧ KUp w h h' := by
  rw [Ln.ends_all a f.ok]
  have CL := hid (kDueWaiters_any m f.few a.wt)
  have hdl : (Ln.dues s wt).length ≤ 16 := by
    have h2 := List.length_filter_le (Ln.dueB s) wt
    have := (a.few f.few).2
    unfold Ln.dues
    omega
  have HD : Hid (∀ u ∈ Ln.dues s wt, u < s.T.length) := fun u hu => ((a.wt.mem u).1 (List.mem_filter.1 hu).1).1
  have hkb := m.kT.lt
  have hgt := m.tT.lt
  have M := hid m
  have FT := hid f
  have AX := hid a
  clear m f a
  generalize Ln.dues s wt = D at *
  go_enter Try.func84, Try.ntmps84
  go_wp2_with fail
  refine CL.out.mono ?_
  rintro e w1 ⟨v, rfl, hr1, hb1⟩
  obtain ⟨ao, ca, rfl, _, hin, hna⟩ := IntsIn.of_owns (l := Ln.ints D) (by rw [Ln.ints_length]; exact hr1)
  rw [Ln.ints_length] at *
  have M1 := hid (M.out.below hb1)
  have HB1 := hid hb1
  have hsz1 := hb1.size
  have HNA := hid hna
  have HIN := hid hin
  clear hr1 CL M hb1 hna hin
  go_wp2
  go_loopw [10] (fun i wr => ∃ k : Nat, k ≤ D.length ∧ i = .int .i64 k ∧ (∃ h' tk' wt', KMem F wr kb h' (Ln.endAll (D.take k) s) tk' wt' ws ∧ Ln.Aux (Ln.endAll (D.take k) s) tk' wt' ∧ KUp w h h') ∧ Only [kb, h.gT] w1 wr) (fun i _ => D.length - (intOf i).toNat)
  case atStart => exact ⟨0, Nat.zero_le _, rfl, ⟨h, tk, wt, M1.out, AX.out, KUp.refl _ _⟩, Only.refl _ _⟩
  case round =>
    obtain ⟨k, hk, rfl, ⟨h2, tk2, wt2, m2, a2, u2⟩, o2⟩ := hrel
    have hl2 := endAll_length (D.take k) s
    have f2 := FT.out.endAll (D.take k) (fun u hu => HD.out u (List.mem_of_mem_take hu))
    by_cases hkl : k < D.length
    · have hkI : (k : Int) < (D.length : Int) := by omega
      obtain ⟨b, o, ha, hbl, hcell⟩ := HIN.out k (by rw [Ln.ints_length]; exact hkl)
      have e0 : (Ln.ints D)[k]'(by rw [Ln.ints_length]; exact hkl) = (D[k] : Int) := by simp [Ln.ints]
      rw [e0] at hcell
      subst ha
      have hob : w.heap.size ≤ b := by
        obtain ⟨g, e, h1, _⟩ := HNA.out _ rfl
        cases e
        exact h1
      have x1 : wr.cell? ⟨b, o + k, none⟩ = some (.int .i64 (D[k] : Int)) := by
        rw [World.cell?_of_block (w := w1) (o2.block b hbl (by simp; omega))]
        exact hcell
      have ES := hid (endAll_take_succ hkl s)
      have hdt : D[k] < (Ln.endAll (D.take k) s).T.length := by rw [hl2]; exact HD.out _ (List.getElem_mem hkl)
      have M2 := hid m2
      have A2 := hid a2
      have U2 := hid u2
      have O2 := hid o2
      have F2 := hid f2
      have hsm := a2.few f2.few
      have c1 := m2.blk.cell 1
      simp [kCells] at c1
      have a9 := m2.tcell hdt 10 (by decide)
      simp [ktCells] at a9
      have EC : Hid (Ln.codeOf (Ln.endAll (D.take k) s) D[k] = if ((Ln.endAll (D.take k) s).T[D[k]]).for_ = 4 then 0 else 2) := by
        unfold Ln.codeOf
        rw [th_ext hdt]
        exact hid rfl
      clear hcell e0 m2 a2 u2 o2 f2
      generalize Ln.endAll (D.take k) s = s2 at *
      generalize D[k] = y at *
      generalize Ln.codeOf s2 y = co at *
      have CC := hid (kCodeInTime_any wr s2.T[y].for_)
      rw [← EC.out] at CC
      have EW := hid (kEndWait_any M2.out y hdt F2.out.few hsm.1 hsm.2 co)
      have hyI : (y : Int) < (s2.T.length : Int) := by omega
      generalize s2.T[y].for_ = fo at *
      go_wp2_with fail
      refine CC.out.mono ?_
      rintro e w3 ⟨rfl, hw3⟩
      have hw4 := hw3.symm
      subst hw4
      clear hw3 CC
      go_wp2_with fail
      refine EW.out.mono ?_
      rintro e w4 ⟨rfl, h4, m4, o4, u4⟩
      have M4 := hid m4
      have U4 := hid (U2.out.trans u4 (Nat.le_trans hsz1 O2.out.size))
      have O4 := hid (O2.out.trans (o4.mono (fun b hb => by rw [U2.out.gT] at hb; exact hb)))
      clear m4 o4 u4 EW
      go_wp2
      go_roundw
      case rel => exact ⟨k + 1, by omega, by go_num, ⟨h4, _, _, by rw [ES.out]; exact M4.out, by rw [ES.out]; exact A2.out.endW F2.out.ok y hdt co, U4.out⟩, O4.out⟩
      case measure => simp [intOf]; omega
    · have e : k = D.length := by omega
      subst e
      rw [List.take_length] at m2 a2
      have M2 := hid m2
      have A2 := hid a2
      have U2 := hid u2
      have O2 := hid o2
      clear m2 a2 u2 o2 f2 hl2
      go_wp2
      go_end0
      exact ⟨rfl, h2, tk2, wt2, M2.out, A2.out, (Only.of_below HB1.out).trans O2.out, U2.out⟩
end

end Go.Proofs.Ytbkfildnijjioab
