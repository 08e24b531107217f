/- The machine: do, for CAST. -/
import Derived.Test.YtiiokkllmchohaaGreatT25
/- MacX -/
namespace Go.Proofs.YtiiokkllmchohaaGreat
open Go.RowKit Go.Shelf
attribute [local go_sem ↓] Go.wp_at_zero Go.wp_at_succ
attribute [local go_sem] frz_drew
attribute [local go_sem] fld_num fld_obj

def castP (p : List LClass) (st : MaSt) (f : MFr) (a : Int) : Int := match (topV f.stk).obj with
 | none => 0
 | some k => if descB p (objAt st k).cls a then 0 else 4
section
variable (p : List LClass) (vp : Value) (w0 w : World) (ρ : Nat → Nat × Nat) (mb : Nat) (fuel : Int) (ask : Bool) (st : MaSt) (A : List Nat) (X : List FrX) (Y : List Value) (vr vpr : Value) (i : Nat) (f : MFr) (x : FrX) (a b : Int)
set_option maxHeartbeats 1000000 in
set_option maxRecDepth 100000 in
theorem do_cast (h : MaA w0 w ρ mb vp fuel ask st A X Y vr vpr) (hf : st.frames[i]? = some f) (hx : X[i]? = some x) (hp : RProg w0 vp p) (hs : SupOk p p.length) (hz : szProg p ≤ 4194304) (S : StkOk 17 f.stk) (hsl : f.stk.length < 4194303) (hcl : ∀ k, (topV f.stk).obj = some k → 0 ≤ (objAt st k).cls ∧ (objAt st k).cls < (p.length : Int)) :
  Calls Tryz.prog 173 #[.pointer (some ⟨mb, 0, none⟩), .pointer (some ⟨x.fb, 0, none⟩), .agg #[.int .i64 17, .int .i64 a, .int .i64 b]] w fun e w' => DoX i x.fb w0 mb vp fuel ask st (castP p st f a) w' e := by
 have hs1 := S.s1 (by omega)
 have hzp := Nat.le_trans (szProg_len p) hz
 have hst := top_snoc (l := f.stk) (by omega)
 have hdl : f.stk.dropLast.length = f.stk.length - 1 := List.length_dropLast
 have hbel := box_below w (.cells #[.int .i64 17, .int .i64 a, .int .i64 b] 60)
 have B0 := Blk.new w #[.int .i64 17, .int .i64 a, .int .i64 b] 60
 have H := hide (h.below hbel (Nat.le_refl _))
 have F0 := h.fr i f x hf hx
 have hoy : okV A (topV f.stk) := topV_ok F0.oks
 have hla := h.la
 have hly := h.ly
 have HP := hide hp
 have HG : Hid (∀ k, (topV f.stk).obj = some k → castP p st f a = if descB p (objAt st k).cls a then 0 else 4) := fun k hk => by unfold castP; rw [hk]
 have HGN : Hid ((topV f.stk).obj = none → castP p st f a = 0) := fun hk => by unfold castP; rw [hk]
 generalize castP p st f a = gp at *
 have HST := hide hst
 obtain ⟨pa, _, _, pcap, rfl, _⟩ := hp
 clear h hst F0
 go_enter Tryz.func173, Tryz.ntmps173
 go_wp2_with fail
 generalize w.alloc _ = W at *
 have F := (unhide H).fr i f x hf hx
 have hP0 := ma_top _ A x.fb x.mc (f.pc : Int) x.vl f.loc x.vs f.stk.dropLast (topV f.stk) W (by rw [← unhide HST]; exact F.fr) (by omega)
 refine hP0.mono ?_
 rintro e w1 ⟨rfl, hb1⟩
 have B1 := B0.below hb1 B0.lt
 have HA1 := hide ((unhide H).below hb1 (Nat.le_refl _))
 have q1 : w1.cell? ⟨w.heap.size, 1, none⟩ = some (.int .i64 a) := B1.cell 1
 have n0 : w1.cell? ⟨mb, 0, none⟩ = some (.slice pa p.length pcap) := (unhide HA1).mach.cell 0
 unfold encV
 clear F hP0
 cases hy : (topV f.stk).obj with
 | none =>
  have hgp := (unhide HGN) hy
  subst hgp
  unfold objP
  clear hy
  go_wp2_with fail
  refine wp_region_noPanic ?_
  refine wp_region_held_drew (S := (fun w' => w'.cell? ⟨mb, 0, none⟩ = some (.slice pa p.length pcap))) (by kernel_rfl) ?_ (fun hHeld => ?_)
  ·exact n0
  refine take_x (some 78) 0 rfl rfl ?_
  refine take_x (some 79) 1 rfl rfl ?_
  refine take_x (some 80) 2 rfl rfl ?_
  refine take_d (some 81) (i := 3) (v := undef) rfl rfl (by kernel_rfl) (by kernel_rfl) (by kernel_rfl) (fun _ _ _ h => h) (Or.inr ⟨by rfl, rfl⟩) (by assumption) ?_
  try simp only [Act.put, List.setIfInBounds_toArray, List.set_cons_zero, List.set_cons_succ]
  refine take_d (some 82) (i := 4) (v := undef) rfl rfl (by kernel_rfl) (by kernel_rfl) (by kernel_rfl) (fun _ _ _ h => h) (Or.inr ⟨by rfl, rfl⟩) (by assumption) ?_
  try simp only [Act.put, List.setIfInBounds_toArray, List.set_cons_zero, List.set_cons_succ]
  refine take_d (some 83) (i := 5) (v := undef) rfl rfl (by kernel_rfl) (by kernel_rfl) (by kernel_rfl) (fun _ _ _ h => h) (Or.inr ⟨by rfl, rfl⟩) (by assumption) ?_
  try simp only [Act.put, List.setIfInBounds_toArray, List.set_cons_zero, List.set_cons_succ]
  refine take_d (some 84) (i := 6) (v := undef) rfl rfl (by kernel_rfl) (by kernel_rfl) (by kernel_rfl) (fun _ _ _ h => h) (Or.inr ⟨by rfl, rfl⟩) (by assumption) ?_
  try simp only [Act.put, List.setIfInBounds_toArray, List.set_cons_zero, List.set_cons_succ]
  refine take_d (some 85) (i := 7) (v := undef) rfl rfl (by kernel_rfl) (by kernel_rfl) (by kernel_rfl) (fun _ _ _ h => h) (Or.inr ⟨by rfl, rfl⟩) (by assumption) ?_
  try simp only [Act.put, List.setIfInBounds_toArray, List.set_cons_zero, List.set_cons_succ]
  refine take_d (some 86) (i := 8) (v := undef) rfl rfl (by kernel_rfl) (by kernel_rfl) (by kernel_rfl) (fun _ _ _ h => h) (Or.inr ⟨by rfl, rfl⟩) (by assumption) ?_
  try simp only [Act.put, List.setIfInBounds_toArray, List.set_cons_zero, List.set_cons_succ]
  refine take_d (some 87) (i := 9) (v := undef) rfl rfl (by kernel_rfl) (by kernel_rfl) (by kernel_rfl) (fun _ _ _ h => h) (Or.inr ⟨by rfl, rfl⟩) (by assumption) ?_
  try simp only [Act.put, List.setIfInBounds_toArray, List.set_cons_zero, List.set_cons_succ]
  refine take_d (some 88) (i := 10) (v := undef) rfl rfl (by kernel_rfl) (by kernel_rfl) (by kernel_rfl) (fun _ _ _ h => h) (Or.inr ⟨by rfl, rfl⟩) (by assumption) ?_
  try simp only [Act.put, List.setIfInBounds_toArray, List.set_cons_zero, List.set_cons_succ]
  refine take_d (some 89) (i := 11) (v := undef) rfl rfl (by kernel_rfl) (by kernel_rfl) (by kernel_rfl) (fun _ _ _ h => h) (Or.inr ⟨by rfl, rfl⟩) (by assumption) ?_
  try simp only [Act.put, List.setIfInBounds_toArray, List.set_cons_zero, List.set_cons_succ]
  refine take_d (some 90) (i := 12) (v := undef) rfl rfl (by kernel_rfl) (by kernel_rfl) (by kernel_rfl) (fun _ _ _ h => h) (Or.inr ⟨by rfl, rfl⟩) (by assumption) ?_
  try simp only [Act.put, List.setIfInBounds_toArray, List.set_cons_zero, List.set_cons_succ]
  refine take_d (some 91) (i := 13) (v := undef) rfl rfl (by kernel_rfl) (by kernel_rfl) (by kernel_rfl) (fun _ _ _ h => h) (Or.inr ⟨by rfl, rfl⟩) (by assumption) ?_
  try simp only [Act.put, List.setIfInBounds_toArray, List.set_cons_zero, List.set_cons_succ]
  refine take_d (some 92) (i := 14) (v := undef) rfl rfl (by kernel_rfl) (by kernel_rfl) (by kernel_rfl) (fun _ _ _ h => h) (Or.inr ⟨by rfl, rfl⟩) (by assumption) ?_
  try simp only [Act.put, List.setIfInBounds_toArray, List.set_cons_zero, List.set_cons_succ]
  refine take_x (some 93) 15 rfl rfl ?_
  refine wpAnyH_done (by kernel_rfl) ?_ _
  refine NoPanic.normal ?_
  go_wp2_with fail
  go_ret
  exact ⟨rfl, A, ρ, _, _, _, _, (by first | exact fb_same hx | exact fb_set hx _ | exact fb_set2 hx _ _), (unhide HA1).drew⟩
 | some k =>
  have hk : k < A.length := hoy k hy
  obtain ⟨ob, hob⟩ : ∃ ob, A[k]? = some ob := ⟨_, List.getElem?_eq_getElem hk⟩
  obtain ⟨o, ho⟩ : ∃ o, st.objs[k]? = some o := ⟨_, List.getElem?_eq_getElem (by omega)⟩
  obtain ⟨v, hv⟩ : ∃ v, Y[k]? = some v := ⟨_, List.getElem?_eq_getElem (by omega)⟩
  have hoa : objAt st k = o := by unfold objAt; rw [ho]; rfl
  obtain ⟨k0, k1⟩ := hcl k hy
  have hgp := (unhide HG) k hy
  rw [hoa] at k0 k1 hgp
  have O := (unhide HA1).ob k o ob v ho hob hv
  have o0 : w1.cell? ⟨ob, 0, none⟩ = some (.int .i64 o.cls) := O.blk.cell 0
  have hpo : objP A (some k) = .pointer (some ⟨ob, 0, none⟩) := by
   show Value.pointer (some ⟨A.getD k 0, 0, none⟩) = _
   rw [List.getD_eq_getElem?_getD, hob]; rfl
  rw [hpo]
  have HGP := hide hgp
  clear O hoa ho hob hv hy hpo hgp HG HGN hcl
  go_wp2_with fail
  refine wp_region_noPanic ?_
  refine wp_region_held_drew (S := (fun w' => w'.cell? ⟨mb, 0, none⟩ = some (.slice pa p.length pcap) ∧ w'.cell? ⟨ob, 0, none⟩ = some (.int .i64 o.cls) ∧ w'.cell? ⟨w.heap.size, 1, none⟩ = some (.int .i64 a))) (by kernel_rfl) ?_ (fun hHeld => ?_)
  ·exact ⟨n0, o0, q1⟩
  refine take_x (some 78) 0 rfl rfl ?_
  refine take_x (some 79) 1 rfl rfl ?_
  refine take_x (some 80) 2 rfl rfl ?_
  refine take_x (some 81) 3 rfl rfl ?_
  refine take_x (some 82) 4 rfl rfl ?_
  refine take_x (some 83) 5 rfl rfl ?_
  refine take_x (some 84) 6 rfl rfl ?_
  refine take_x (some 85) 7 rfl rfl ?_
  refine take_x (some 86) 8 rfl rfl ?_
  refine take_x (some 87) 9 rfl rfl ?_
  refine take_x (some 88) 10 rfl rfl ?_
  refine take_x (some 89) 11 rfl rfl ?_
  refine take_x (some 90) 12 rfl rfl ?_
  refine wpAnyH_ready (rs := [13]) (by kernel_rfl) (by simp) ?_
  refine AllReadyH.cons rfl (fun K hK => ?_) AllReadyH.nil
  go_simp
  refine (code_descends p _ o.cls a _ (prog_keep (Keeps.of_below (unhide HA1).bel.drew) (unhide HP)) hs (by omega) k1 hzp).mono ?_
  rintro e w2 ⟨rfl, hb2⟩
  have hb2' : Below w1.heap.size w1 w2 := ⟨hb2.os, hb2.tape, hb2.output, hb2.size, hb2.block⟩
  have k2 := Keeps.of_below hb2'
  have HS2 := hide (And.intro (k2 _ _ n0) (And.intro (k2 _ _ o0) (k2 _ _ q1)))
  have HA2 := hide ((unhide HA1).below hb2' (Nat.le_refl _))
  cases hd : descB p o.cls a with
  | true =>
   have hgp := unhide HGP
   rw [hd, if_pos rfl] at hgp
   subst hgp
   clear hd HGP
   go_wp2_with fail
   refine hK.out _ _ (unhide HS2) (fun hHeld => ?_)
   clear hK K
   try simp only [Act.put, List.setIfInBounds_toArray, List.set_cons_zero, List.set_cons_succ]
   refine take_x (some 92) 14 rfl rfl ?_
   refine take_x (some 93) 15 rfl rfl ?_
   refine wpAnyH_done (by kernel_rfl) ?_ _
   refine NoPanic.normal ?_
   go_wp2_with fail
   go_ret
   exact ⟨rfl, A, ρ, _, _, _, _, (by first | exact fb_same hx | exact fb_set hx _ | exact fb_set2 hx _ _), unhide HA2⟩
  | false =>
   have hgp := unhide HGP
   rw [hd, if_neg (by decide)] at hgp
   subst hgp
   clear hd HGP
   go_wp2_with fail
   refine hK.out _ _ (unhide HS2) (fun hHeld => ?_)
   clear hK K
   try simp only [Act.put, List.setIfInBounds_toArray, List.set_cons_zero, List.set_cons_succ]
   refine take_x (some 92) 14 rfl rfl ?_
   refine take_x (some 93) 15 rfl rfl ?_
   refine wpAnyH_done (by kernel_rfl) ?_ _
   refine NoPanic.normal ?_
   go_wp2_with fail
   go_ret
   exact ⟨rfl, A, ρ, _, _, _, _, (by first | exact fb_same hx | exact fb_set hx _ | exact fb_set2 hx _ _), unhide HA2⟩
end
end Go.Proofs.YtiiokkllmchohaaGreat
