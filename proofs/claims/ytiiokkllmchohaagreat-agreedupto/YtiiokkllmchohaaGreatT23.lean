/- The machine: begin. -/
import Derived.Test.YtiiokkllmchohaaGreatT22
/- MacM -/
namespace Go.Proofs.YtiiokkllmchohaaGreat
open Go.RowKit Go.Shelf
attribute [local go_sem ↓] Go.wp_at_zero Go.wp_at_succ
attribute [local go_sem] frz_drew

def MaX (w0 w : World) (mb : Nat) (vp : Value) (fuel : Int) (ask : Bool) (st : MaSt) (A : List Nat) : Prop := ∃ ρ X Y vr vpr, MaA w0 w ρ mb vp fuel ask st A X Y vr vpr
theorem infoFp : (Tryz.prog.info? 231).map (fun i => (i.zero, i.size, i.bytes)) = some (some (.pointer none), 1, 8) := by kernel_rfl
def thisV (c : Int) (k : Nat) : LVal := ⟨c + 3, 0, some k⟩
def begSt (p : List LClass) (st : MaSt) (k : Nat) (c slot : Int) (args : List LVal) : MaSt :=
 { st with frames := st.frames ++ [⟨findM p c slot, 0, thisV c k :: args ++ List.replicate ((findM p c slot).locals.toNat - (1 + args.length)) nothV, []⟩] }
def BegR (w0 : World) (mb : Nat) (vp : Value) (fuel : Int) (ask : Bool) (st : MaSt) (A : List Nat) (w' : World) (e : Ending) : Prop := e = .returned (.tuple #[]) ∧ MaX w0 w' mb vp fuel ask st A
set_option maxHeartbeats 1000000 in
set_option maxRecDepth 100000 in
theorem ma_begin (p : List LClass) (vp : Value) (w0 w : World) (ρ : Nat → Nat × Nat) (mb : Nat) (fuel : Int) (ask : Bool) (st : MaSt) (A : List Nat) (X : List FrX) (Y : List Value) (vr vpr : Value) (h : MaA w0 w ρ mb vp fuel ask st A X Y vr vpr) (hp : RProg w0 vp p) (hs : SupOk p p.length) (hz : szProg p ≤ 4194304)
  (k : Nat) (o : LObj) (ob : Nat) (ho : st.objs[k]? = some o) (hob : A[k]? = some ob) (slot : Int) (args : List LVal) (ta : Option Addr) (tcap : Nat) (c0 : 0 ≤ o.cls) (c1 : o.cls < (p.length : Int)) (hm : (methOf p o.cls slot).isSome = true) (hnil : ta = none → args.length = 0 ∧ tcap = 0) (hrd : ∀ ad, ta = some ad → ∀ j u, (encL A args)[j]? = some u → w.cell? (ad.add j) = some u) (hl : 1 + (args.length : Int) ≤ (findM p o.cls slot).locals) (hl8 : (findM p o.cls slot).locals ≤ 8) (hoa : ∀ v ∈ args, okV A v) (hX : X.length ≤ 4194304) :
  Calls Tryz.prog 111 #[.pointer (some ⟨mb, 0, none⟩), .pointer (some ⟨ob, 0, none⟩), .int .i64 slot, .slice ta args.length tcap] w fun e w' => BegR w0 mb vp fuel ask (begSt p st k o.cls slot args) A w' e := by
 obtain ⟨i0, hi0, hz0, hz1, hz2⟩ := info_parts infoFp
 have HP := hide hp
 have hzp : p.length ≤ 4194304 := Nat.le_trans (szProg_len p) hz
 obtain ⟨pa, _, _, pcap, rfl, _⟩ := hp
 have kA : k < A.length := (List.getElem?_eq_some_iff.1 hob).1
 obtain ⟨vy, hy⟩ : ∃ vy, Y[k]? = some vy := ⟨_, List.getElem?_eq_getElem (by rw [h.ly, ← h.la]; exact kA)⟩
 have hO := h.ob k o ob vy ho hob hy
 have o0 : w.cell? ⟨ob, 0, none⟩ = some (.int .i64 o.cls) := hO.blk.cell 0
 obtain ⟨ra, rcap, rfl⟩ := own_form h.run
 have n3 : w.cell? ⟨mb, 3, none⟩ = some (.slice ra X.length rcap) := h.mach.cell 3
 have hcl' : ∀ U, Mods (fun k => w.heap.size ≤ k ∨ (Value.slice ra X.length rcap).ownBlock = some k) w U → U.cell? ⟨ob, 0, none⟩ = some (.int .i64 o.cls) := fun U hU => hU.cell o0 (fun e => by
  rcases e with e | e
  ·have := hO.blk.lt; dsimp only at e; omega
  ·exact own_ne h.run hO.blk (by decide) e)
 have hclb : ∀ U, Below w.heap.size w U → U.cell? ⟨ob, 0, none⟩ = some (.int .i64 o.cls) := fun U hU => Keeps.of_below hU _ _ o0
 have hbd : Below w0.heap.size w0 w.drew := h.bel.drew
 have mpd : w.drew.cell? ⟨mb, 0, none⟩ = some (.slice pa p.length pcap) := h.mach.cell 0
 have hmbo : ¬ ob = mb := fun e => by
  subst e
  exact absurd (hO.blk.uniq h.mach) (by decide)
 have HTV : Hid (encV A (thisV o.cls k) = [.int .i64 (o.cls + 3), .int .i64 0, .pointer (some ⟨ob, 0, none⟩)]) := by
  show [Value.int .i64 (o.cls + 3), .int .i64 0, .pointer (some ⟨A.getD k 0, 0, none⟩)] = _
  rw [List.getD_eq_getElem?_getD, hob]; rfl
 have okn : ∀ v ∈ thisV o.cls k :: args ++ List.replicate ((findM p o.cls slot).locals.toNat - (1 + args.length)) nothV, okV A v := fun v hv => by
  rcases List.mem_append.1 hv with hv | hv
  ·rcases List.mem_cons.1 hv with rfl | hv
   ·intro j hj; cases hj; exact kA
   ·exact hoa v hv
  ·obtain rfl := List.eq_of_mem_replicate hv
   intro j hj; cases hj
 have d0 : w.drew.cell? ⟨ob, 0, none⟩ = some (.int .i64 o.cls) := o0
 clear hO hy
 go_enter Tryz.func111, Tryz.ntmps111
 go_wp2_with fail
 refine wp_region_held_drew (S := (fun w' => w'.cell? ⟨ob, 0, none⟩ = some (.int .i64 o.cls))) (by kernel_rfl) ?_ (fun hHeld => ?_)
 ·exact o0
 refine take_x (some 8) 0 rfl rfl ?_
 refine take_x (some 9) 1 rfl rfl ?_
 refine take_x (some 10) 2 rfl rfl ?_
 refine take_x (some 11) 3 rfl rfl ?_
 refine take_x (some 13) 5 rfl rfl ?_
 refine take_x (some 14) 6 rfl rfl ?_
 refine take_x (some 15) 7 rfl rfl ?_
 refine take_x (some 16) 8 rfl rfl ?_
 refine take_x (some 17) 9 rfl rfl ?_
 refine take_x (some 18) 10 rfl rfl ?_
 refine take_x (some 20) 12 rfl rfl ?_
 refine take_x (some 22) 14 rfl rfl ?_
 refine wpAnyH_ready (rs := [4, 11]) (by kernel_rfl) (by simp) ?_
 refine AllReadyH.cons rfl (fun K hK => ?_) (AllReadyH.cons rfl (fun K hK => ?_) AllReadyH.nil)
 ·go_simp
  refine hK.out _ _ d0 (fun hHeld => ?_)
  clear hK K
  try simp only [Act.put, List.setIfInBounds_toArray, List.set_cons_zero, List.set_cons_succ]
  refine wpAnyH_ready (rs := [11]) (by kernel_rfl) (by simp) ?_
  refine AllReadyH.cons rfl (fun K hK => ?_) AllReadyH.nil
  go_simp
  refine (ma_find p _ o.cls slot w0 _ mb (unhide HP) hbd mpd hs hz c0 c1 hm).mono ?_
  rintro e w1 ⟨va, vco, vf, rfl, hG, hb1⟩
  have hb1' : Below w.heap.size w w1 := ⟨hb1.os, hb1.tape, hb1.output, hb1.size, hb1.block⟩
  have HG := hide hG
  have HO1 := hide (hclb w1 hb1')
  have n31 := Keeps.of_below hb1' _ _ n3
  unfold methV
  go_wp2_with fail
  refine hK.out _ _ (unhide HO1) (fun hHeld => ?_)
  clear hK K
  try simp only [Act.put, List.setIfInBounds_toArray, List.set_cons_zero, List.set_cons_succ]
  refine wpAnyH_ready (rs := [13]) (by kernel_rfl) (by simp) ?_
  refine AllReadyH.cons rfl (fun K hK => ?_) AllReadyH.nil
  go_simp
  refine (ma_reference ob o.cls w1 (unhide HO1) c0 (by omega)).mono ?_
  rintro e w2 ⟨rfl, hb2⟩
  have hb2' := hb1'.trans (hb2.mono hb1'.size)
  have HO2 := hide (hclb w2 hb2')
  have n32 := Keeps.of_below hb2' _ _ n3
  go_wp2_with fail
  refine hK.out _ _ (unhide HO2) (fun hHeld => ?_)
  clear hK K
  try simp only [Act.put, List.setIfInBounds_toArray, List.set_cons_zero, List.set_cons_succ]
  refine wpAnyH_ready (rs := [15]) (by kernel_rfl) (by simp) ?_
  refine AllReadyH.cons rfl (fun K hK => ?_) AllReadyH.nil
  go_simp
  have hN0 := ma_newFrame A (findM p o.cls slot) va vco vf (thisV o.cls k) args ta tcap w2 w0 (unhide HG) hnil (fun ad e j u hu => Keeps.of_below hb2' _ _ (hrd ad e j u hu)) hl hl8
  rw [unhide HTV] at hN0
  refine hN0.mono ?_
  rintro e w3 ⟨fb, vl, rfl, N⟩
  have hb3' := hb2'.trans (N.bel.mono hb2'.size)
  have HO3 := hide (hclb w3 hb3')
  have n33 := Keeps.of_below hb3' _ _ n3
  have hrun3 := own_mods h.run (Mods.of_below hb3') (fun g hg e => by have := (h.run.lt g hg).2; omega)
  obtain ⟨v4, w4, happ, hO4, hM4, hv4⟩ := app_ex (P := Tryz.prog) (W := w3) 167 167 231 i0 _ 1 8 Tryz.underlying167 hi0 hz0 hz1 hz2 rfl (by decide) w0.heap.size _ _ _ hrun3 #[.pointer (some ⟨fb, 0, none⟩)] rfl (fun v hv => by obtain rfl := List.mem_singleton.1 hv; rfl) w3.heap.size rfl (by unfold maxLen; omega) (by omega) (Nat.le_trans h.bel.size hb3'.size)
  obtain ⟨a4, cap4, rfl⟩ := own_form hO4
  have n33a : (w3.alloc (.cells #[.pointer (some ⟨fb, 0, none⟩)] 231)).cell? ⟨mb, 3, none⟩ = some (.slice ra X.length rcap) := Keeps.of_below (hb3'.alloc hb3'.size _) _ _ n3
  have hmach4 := (h.mach.below hb3' h.lt).mods hM4 (own_ne h.run h.mach tp_ne_ma)
  have n34 : w4.cell? ⟨mb, 3, none⟩ = some (.slice ra X.length rcap) := hmach4.cell 3
  have f34 := hmach4.frozen 3
  have hMcl4 : Mods (fun k => w.heap.size ≤ k ∨ (Value.slice ra X.length rcap).ownBlock = some k) w w4 := ((Mods.of_below hb3').mono (fun _ _ e => .inl e)).trans hM4 (fun _ _ e => .inr e)
  have hcl3a := hclb _ (hb3'.alloc hb3'.size (.cells #[.pointer (some ⟨fb, 0, none⟩)] 231))
  have hcl5 : (w4.setCell ⟨mb, 3, none⟩ (.slice a4 (X.length + 1) cap4)).cell? ⟨ob, 0, none⟩ = some (.int .i64 o.cls) := ((Mods.refl (fun k => k = mb) w4).setCell (p := ⟨mb, 3, none⟩) (fun _ => rfl) _).cell (hcl' _ hMcl4) hmbo
  obtain ⟨ρ', hMA⟩ := h.pushFr hb2' N (unhide HG) okn hO4 hM4 hv4 rfl
  have HF : Hid (BegR w0 mb (.slice pa p.length pcap) fuel ask (begSt p st k o.cls slot args) A (w4.setCell ⟨mb, 3, none⟩ (.slice a4 (X.length + 1) cap4)) (.returned (.tuple #[]))) := ⟨rfl, ρ', _, _, _, _, hMA⟩
  clear hMA hO4 hM4 hv4 hrun3 N hN0 hmach4
  go_wp2_with fail
  refine hK.out _ _ (unhide HO3) (fun hHeld => ?_)
  clear hK K
  try simp only [Act.put, List.setIfInBounds_toArray, List.set_cons_zero, List.set_cons_succ]
  refine wpAnyH_ready (rs := [16]) (by kernel_rfl) (by simp) ?_
  refine AllReadyH.cons rfl (fun K hK => ?_) AllReadyH.nil
  go_simp
  refine hK.out _ _ hcl3a (fun hHeld => ?_)
  clear hK K
  try simp only [Act.put, List.setIfInBounds_toArray, List.set_cons_zero, List.set_cons_succ]
  refine wpAnyH_ready (rs := [17]) (by kernel_rfl) (by simp) ?_
  refine AllReadyH.cons rfl (fun K hK => ?_) AllReadyH.nil
  refine wp_append_run (.tmp 12) (.tmp 24) 167 rfl _ _ rfl rfl happ ?_
  go_simp
  refine hK.out _ _ (hcl' _ hMcl4) (fun hHeld => ?_)
  clear hK K
  try simp only [Act.put, List.setIfInBounds_toArray, List.set_cons_zero, List.set_cons_succ]
  refine take_x (some 26) 18 rfl rfl ?_
  refine take_x (some 27) 19 rfl rfl ?_
  refine wpAnyH_ready (rs := [20]) (by kernel_rfl) (by simp) ?_
  refine AllReadyH.cons rfl (fun K hK => ?_) AllReadyH.nil
  go_simp
  refine hK.out _ _ hcl5 (fun hHeld => ?_)
  clear hK K
  try simp only [Act.put, List.setIfInBounds_toArray, List.set_cons_zero, List.set_cons_succ]
  refine wpAnyH_done (by kernel_rfl) ?_ _
  clear happ
  go_wp2_with fail
  go_end0
  exact unhide HF
 ·go_simp
  refine (ma_find p _ o.cls slot w0 _ mb (unhide HP) hbd mpd hs hz c0 c1 hm).mono ?_
  rintro e w1 ⟨va, vco, vf, rfl, hG, hb1⟩
  have hb1' : Below w.heap.size w w1 := ⟨hb1.os, hb1.tape, hb1.output, hb1.size, hb1.block⟩
  have HG := hide hG
  have HO1 := hide (hclb w1 hb1')
  have n31 := Keeps.of_below hb1' _ _ n3
  unfold methV
  go_wp2_with fail
  refine hK.out _ _ (unhide HO1) (fun hHeld => ?_)
  clear hK K
  try simp only [Act.put, List.setIfInBounds_toArray, List.set_cons_zero, List.set_cons_succ]
  refine wpAnyH_ready (rs := [4, 13]) (by kernel_rfl) (by simp) ?_
  refine AllReadyH.cons rfl (fun K hK => ?_) (AllReadyH.cons rfl (fun K hK => ?_) AllReadyH.nil)
  ·have o1 := unhide HO1
   go_simp
   refine hK.out _ _ o1 (fun hHeld => ?_)
   clear hK K
   try simp only [Act.put, List.setIfInBounds_toArray, List.set_cons_zero, List.set_cons_succ]
   refine wpAnyH_ready (rs := [13]) (by kernel_rfl) (by simp) ?_
   refine AllReadyH.cons rfl (fun K hK => ?_) AllReadyH.nil
   go_simp
   refine (ma_reference ob o.cls w1 (unhide HO1) c0 (by omega)).mono ?_
   rintro e w2 ⟨rfl, hb2⟩
   have hb2' := hb1'.trans (hb2.mono hb1'.size)
   have HO2 := hide (hclb w2 hb2')
   have n32 := Keeps.of_below hb2' _ _ n3
   go_wp2_with fail
   refine hK.out _ _ (unhide HO2) (fun hHeld => ?_)
   clear hK K
   try simp only [Act.put, List.setIfInBounds_toArray, List.set_cons_zero, List.set_cons_succ]
   refine wpAnyH_ready (rs := [15]) (by kernel_rfl) (by simp) ?_
   refine AllReadyH.cons rfl (fun K hK => ?_) AllReadyH.nil
   go_simp
   have hN0 := ma_newFrame A (findM p o.cls slot) va vco vf (thisV o.cls k) args ta tcap w2 w0 (unhide HG) hnil (fun ad e j u hu => Keeps.of_below hb2' _ _ (hrd ad e j u hu)) hl hl8
   rw [unhide HTV] at hN0
   refine hN0.mono ?_
   rintro e w3 ⟨fb, vl, rfl, N⟩
   have hb3' := hb2'.trans (N.bel.mono hb2'.size)
   have HO3 := hide (hclb w3 hb3')
   have n33 := Keeps.of_below hb3' _ _ n3
   have hrun3 := own_mods h.run (Mods.of_below hb3') (fun g hg e => by have := (h.run.lt g hg).2; omega)
   obtain ⟨v4, w4, happ, hO4, hM4, hv4⟩ := app_ex (P := Tryz.prog) (W := w3) 167 167 231 i0 _ 1 8 Tryz.underlying167 hi0 hz0 hz1 hz2 rfl (by decide) w0.heap.size _ _ _ hrun3 #[.pointer (some ⟨fb, 0, none⟩)] rfl (fun v hv => by obtain rfl := List.mem_singleton.1 hv; rfl) w3.heap.size rfl (by unfold maxLen; omega) (by omega) (Nat.le_trans h.bel.size hb3'.size)
   obtain ⟨a4, cap4, rfl⟩ := own_form hO4
   have n33a : (w3.alloc (.cells #[.pointer (some ⟨fb, 0, none⟩)] 231)).cell? ⟨mb, 3, none⟩ = some (.slice ra X.length rcap) := Keeps.of_below (hb3'.alloc hb3'.size _) _ _ n3
   have hmach4 := (h.mach.below hb3' h.lt).mods hM4 (own_ne h.run h.mach tp_ne_ma)
   have n34 : w4.cell? ⟨mb, 3, none⟩ = some (.slice ra X.length rcap) := hmach4.cell 3
   have f34 := hmach4.frozen 3
   have hMcl4 : Mods (fun k => w.heap.size ≤ k ∨ (Value.slice ra X.length rcap).ownBlock = some k) w w4 := ((Mods.of_below hb3').mono (fun _ _ e => .inl e)).trans hM4 (fun _ _ e => .inr e)
   have hcl3a := hclb _ (hb3'.alloc hb3'.size (.cells #[.pointer (some ⟨fb, 0, none⟩)] 231))
   have hcl5 : (w4.setCell ⟨mb, 3, none⟩ (.slice a4 (X.length + 1) cap4)).cell? ⟨ob, 0, none⟩ = some (.int .i64 o.cls) := ((Mods.refl (fun k => k = mb) w4).setCell (p := ⟨mb, 3, none⟩) (fun _ => rfl) _).cell (hcl' _ hMcl4) hmbo
   obtain ⟨ρ', hMA⟩ := h.pushFr hb2' N (unhide HG) okn hO4 hM4 hv4 rfl
   have HF : Hid (BegR w0 mb (.slice pa p.length pcap) fuel ask (begSt p st k o.cls slot args) A (w4.setCell ⟨mb, 3, none⟩ (.slice a4 (X.length + 1) cap4)) (.returned (.tuple #[]))) := ⟨rfl, ρ', _, _, _, _, hMA⟩
   clear hMA hO4 hM4 hv4 hrun3 N hN0 hmach4
   go_wp2_with fail
   refine hK.out _ _ (unhide HO3) (fun hHeld => ?_)
   clear hK K
   try simp only [Act.put, List.setIfInBounds_toArray, List.set_cons_zero, List.set_cons_succ]
   refine wpAnyH_ready (rs := [16]) (by kernel_rfl) (by simp) ?_
   refine AllReadyH.cons rfl (fun K hK => ?_) AllReadyH.nil
   go_simp
   refine hK.out _ _ hcl3a (fun hHeld => ?_)
   clear hK K
   try simp only [Act.put, List.setIfInBounds_toArray, List.set_cons_zero, List.set_cons_succ]
   refine wpAnyH_ready (rs := [17]) (by kernel_rfl) (by simp) ?_
   refine AllReadyH.cons rfl (fun K hK => ?_) AllReadyH.nil
   refine wp_append_run (.tmp 12) (.tmp 24) 167 rfl _ _ rfl rfl happ ?_
   go_simp
   refine hK.out _ _ (hcl' _ hMcl4) (fun hHeld => ?_)
   clear hK K
   try simp only [Act.put, List.setIfInBounds_toArray, List.set_cons_zero, List.set_cons_succ]
   refine take_x (some 26) 18 rfl rfl ?_
   refine take_x (some 27) 19 rfl rfl ?_
   refine wpAnyH_ready (rs := [20]) (by kernel_rfl) (by simp) ?_
   refine AllReadyH.cons rfl (fun K hK => ?_) AllReadyH.nil
   go_simp
   refine hK.out _ _ hcl5 (fun hHeld => ?_)
   clear hK K
   try simp only [Act.put, List.setIfInBounds_toArray, List.set_cons_zero, List.set_cons_succ]
   refine wpAnyH_done (by kernel_rfl) ?_ _
   clear happ
   go_wp2_with fail
   go_end0
   exact unhide HF
  ·go_simp
   refine (ma_reference ob o.cls w1 (unhide HO1) c0 (by omega)).mono ?_
   rintro e w2 ⟨rfl, hb2⟩
   have hb2' := hb1'.trans (hb2.mono hb1'.size)
   have HO2 := hide (hclb w2 hb2')
   have n32 := Keeps.of_below hb2' _ _ n3
   go_wp2_with fail
   refine hK.out _ _ (unhide HO2) (fun hHeld => ?_)
   clear hK K
   try simp only [Act.put, List.setIfInBounds_toArray, List.set_cons_zero, List.set_cons_succ]
   refine wpAnyH_ready (rs := [4, 15]) (by kernel_rfl) (by simp) ?_
   refine AllReadyH.cons rfl (fun K hK => ?_) (AllReadyH.cons rfl (fun K hK => ?_) AllReadyH.nil)
   ·have o2 := unhide HO2
    go_simp
    refine hK.out _ _ o2 (fun hHeld => ?_)
    clear hK K
    try simp only [Act.put, List.setIfInBounds_toArray, List.set_cons_zero, List.set_cons_succ]
    refine wpAnyH_ready (rs := [15]) (by kernel_rfl) (by simp) ?_
    refine AllReadyH.cons rfl (fun K hK => ?_) AllReadyH.nil
    go_simp
    have hN0 := ma_newFrame A (findM p o.cls slot) va vco vf (thisV o.cls k) args ta tcap w2 w0 (unhide HG) hnil (fun ad e j u hu => Keeps.of_below hb2' _ _ (hrd ad e j u hu)) hl hl8
    rw [unhide HTV] at hN0
    refine hN0.mono ?_
    rintro e w3 ⟨fb, vl, rfl, N⟩
    have hb3' := hb2'.trans (N.bel.mono hb2'.size)
    have HO3 := hide (hclb w3 hb3')
    have n33 := Keeps.of_below hb3' _ _ n3
    have hrun3 := own_mods h.run (Mods.of_below hb3') (fun g hg e => by have := (h.run.lt g hg).2; omega)
    obtain ⟨v4, w4, happ, hO4, hM4, hv4⟩ := app_ex (P := Tryz.prog) (W := w3) 167 167 231 i0 _ 1 8 Tryz.underlying167 hi0 hz0 hz1 hz2 rfl (by decide) w0.heap.size _ _ _ hrun3 #[.pointer (some ⟨fb, 0, none⟩)] rfl (fun v hv => by obtain rfl := List.mem_singleton.1 hv; rfl) w3.heap.size rfl (by unfold maxLen; omega) (by omega) (Nat.le_trans h.bel.size hb3'.size)
    obtain ⟨a4, cap4, rfl⟩ := own_form hO4
    have n33a : (w3.alloc (.cells #[.pointer (some ⟨fb, 0, none⟩)] 231)).cell? ⟨mb, 3, none⟩ = some (.slice ra X.length rcap) := Keeps.of_below (hb3'.alloc hb3'.size _) _ _ n3
    have hmach4 := (h.mach.below hb3' h.lt).mods hM4 (own_ne h.run h.mach tp_ne_ma)
    have n34 : w4.cell? ⟨mb, 3, none⟩ = some (.slice ra X.length rcap) := hmach4.cell 3
    have f34 := hmach4.frozen 3
    have hMcl4 : Mods (fun k => w.heap.size ≤ k ∨ (Value.slice ra X.length rcap).ownBlock = some k) w w4 := ((Mods.of_below hb3').mono (fun _ _ e => .inl e)).trans hM4 (fun _ _ e => .inr e)
    have hcl3a := hclb _ (hb3'.alloc hb3'.size (.cells #[.pointer (some ⟨fb, 0, none⟩)] 231))
    have hcl5 : (w4.setCell ⟨mb, 3, none⟩ (.slice a4 (X.length + 1) cap4)).cell? ⟨ob, 0, none⟩ = some (.int .i64 o.cls) := ((Mods.refl (fun k => k = mb) w4).setCell (p := ⟨mb, 3, none⟩) (fun _ => rfl) _).cell (hcl' _ hMcl4) hmbo
    obtain ⟨ρ', hMA⟩ := h.pushFr hb2' N (unhide HG) okn hO4 hM4 hv4 rfl
    have HF : Hid (BegR w0 mb (.slice pa p.length pcap) fuel ask (begSt p st k o.cls slot args) A (w4.setCell ⟨mb, 3, none⟩ (.slice a4 (X.length + 1) cap4)) (.returned (.tuple #[]))) := ⟨rfl, ρ', _, _, _, _, hMA⟩
    clear hMA hO4 hM4 hv4 hrun3 N hN0 hmach4
    go_wp2_with fail
    refine hK.out _ _ (unhide HO3) (fun hHeld => ?_)
    clear hK K
    try simp only [Act.put, List.setIfInBounds_toArray, List.set_cons_zero, List.set_cons_succ]
    refine wpAnyH_ready (rs := [16]) (by kernel_rfl) (by simp) ?_
    refine AllReadyH.cons rfl (fun K hK => ?_) AllReadyH.nil
    go_simp
    refine hK.out _ _ hcl3a (fun hHeld => ?_)
    clear hK K
    try simp only [Act.put, List.setIfInBounds_toArray, List.set_cons_zero, List.set_cons_succ]
    refine wpAnyH_ready (rs := [17]) (by kernel_rfl) (by simp) ?_
    refine AllReadyH.cons rfl (fun K hK => ?_) AllReadyH.nil
    refine wp_append_run (.tmp 12) (.tmp 24) 167 rfl _ _ rfl rfl happ ?_
    go_simp
    refine hK.out _ _ (hcl' _ hMcl4) (fun hHeld => ?_)
    clear hK K
    try simp only [Act.put, List.setIfInBounds_toArray, List.set_cons_zero, List.set_cons_succ]
    refine take_x (some 26) 18 rfl rfl ?_
    refine take_x (some 27) 19 rfl rfl ?_
    refine wpAnyH_ready (rs := [20]) (by kernel_rfl) (by simp) ?_
    refine AllReadyH.cons rfl (fun K hK => ?_) AllReadyH.nil
    go_simp
    refine hK.out _ _ hcl5 (fun hHeld => ?_)
    clear hK K
    try simp only [Act.put, List.setIfInBounds_toArray, List.set_cons_zero, List.set_cons_succ]
    refine wpAnyH_done (by kernel_rfl) ?_ _
    clear happ
    go_wp2_with fail
    go_end0
    exact unhide HF
   ·go_simp
    have hN0 := ma_newFrame A (findM p o.cls slot) va vco vf (thisV o.cls k) args ta tcap w2 w0 (unhide HG) hnil (fun ad e j u hu => Keeps.of_below hb2' _ _ (hrd ad e j u hu)) hl hl8
    rw [unhide HTV] at hN0
    refine hN0.mono ?_
    rintro e w3 ⟨fb, vl, rfl, N⟩
    have hb3' := hb2'.trans (N.bel.mono hb2'.size)
    have HO3 := hide (hclb w3 hb3')
    have n33 := Keeps.of_below hb3' _ _ n3
    have hrun3 := own_mods h.run (Mods.of_below hb3') (fun g hg e => by have := (h.run.lt g hg).2; omega)
    obtain ⟨v4, w4, happ, hO4, hM4, hv4⟩ := app_ex (P := Tryz.prog) (W := w3) 167 167 231 i0 _ 1 8 Tryz.underlying167 hi0 hz0 hz1 hz2 rfl (by decide) w0.heap.size _ _ _ hrun3 #[.pointer (some ⟨fb, 0, none⟩)] rfl (fun v hv => by obtain rfl := List.mem_singleton.1 hv; rfl) w3.heap.size rfl (by unfold maxLen; omega) (by omega) (Nat.le_trans h.bel.size hb3'.size)
    obtain ⟨a4, cap4, rfl⟩ := own_form hO4
    have n33a : (w3.alloc (.cells #[.pointer (some ⟨fb, 0, none⟩)] 231)).cell? ⟨mb, 3, none⟩ = some (.slice ra X.length rcap) := Keeps.of_below (hb3'.alloc hb3'.size _) _ _ n3
    have hmach4 := (h.mach.below hb3' h.lt).mods hM4 (own_ne h.run h.mach tp_ne_ma)
    have n34 : w4.cell? ⟨mb, 3, none⟩ = some (.slice ra X.length rcap) := hmach4.cell 3
    have f34 := hmach4.frozen 3
    have hMcl4 : Mods (fun k => w.heap.size ≤ k ∨ (Value.slice ra X.length rcap).ownBlock = some k) w w4 := ((Mods.of_below hb3').mono (fun _ _ e => .inl e)).trans hM4 (fun _ _ e => .inr e)
    have hcl3a := hclb _ (hb3'.alloc hb3'.size (.cells #[.pointer (some ⟨fb, 0, none⟩)] 231))
    have hcl5 : (w4.setCell ⟨mb, 3, none⟩ (.slice a4 (X.length + 1) cap4)).cell? ⟨ob, 0, none⟩ = some (.int .i64 o.cls) := ((Mods.refl (fun k => k = mb) w4).setCell (p := ⟨mb, 3, none⟩) (fun _ => rfl) _).cell (hcl' _ hMcl4) hmbo
    obtain ⟨ρ', hMA⟩ := h.pushFr hb2' N (unhide HG) okn hO4 hM4 hv4 rfl
    have HF : Hid (BegR w0 mb (.slice pa p.length pcap) fuel ask (begSt p st k o.cls slot args) A (w4.setCell ⟨mb, 3, none⟩ (.slice a4 (X.length + 1) cap4)) (.returned (.tuple #[]))) := ⟨rfl, ρ', _, _, _, _, hMA⟩
    clear hMA hO4 hM4 hv4 hrun3 N hN0 hmach4
    go_wp2_with fail
    refine hK.out _ _ (unhide HO3) (fun hHeld => ?_)
    clear hK K
    try simp only [Act.put, List.setIfInBounds_toArray, List.set_cons_zero, List.set_cons_succ]
    refine wpAnyH_ready (rs := [4, 16]) (by kernel_rfl) (by simp) ?_
    refine AllReadyH.cons rfl (fun K hK => ?_) (AllReadyH.cons rfl (fun K hK => ?_) AllReadyH.nil)
    ·have o3 := unhide HO3
     go_simp
     refine hK.out _ _ o3 (fun hHeld => ?_)
     clear hK K
     try simp only [Act.put, List.setIfInBounds_toArray, List.set_cons_zero, List.set_cons_succ]
     refine wpAnyH_ready (rs := [16]) (by kernel_rfl) (by simp) ?_
     refine AllReadyH.cons rfl (fun K hK => ?_) AllReadyH.nil
     go_simp
     refine hK.out _ _ hcl3a (fun hHeld => ?_)
     clear hK K
     try simp only [Act.put, List.setIfInBounds_toArray, List.set_cons_zero, List.set_cons_succ]
     refine wpAnyH_ready (rs := [17]) (by kernel_rfl) (by simp) ?_
     refine AllReadyH.cons rfl (fun K hK => ?_) AllReadyH.nil
     refine wp_append_run (.tmp 12) (.tmp 24) 167 rfl _ _ rfl rfl happ ?_
     go_simp
     refine hK.out _ _ (hcl' _ hMcl4) (fun hHeld => ?_)
     clear hK K
     try simp only [Act.put, List.setIfInBounds_toArray, List.set_cons_zero, List.set_cons_succ]
     refine take_x (some 26) 18 rfl rfl ?_
     refine take_x (some 27) 19 rfl rfl ?_
     refine wpAnyH_ready (rs := [20]) (by kernel_rfl) (by simp) ?_
     refine AllReadyH.cons rfl (fun K hK => ?_) AllReadyH.nil
     go_simp
     refine hK.out _ _ hcl5 (fun hHeld => ?_)
     clear hK K
     try simp only [Act.put, List.setIfInBounds_toArray, List.set_cons_zero, List.set_cons_succ]
     refine wpAnyH_done (by kernel_rfl) ?_ _
     clear happ
     go_wp2_with fail
     go_end0
     exact unhide HF
    ·go_simp
     refine hK.out _ _ hcl3a (fun hHeld => ?_)
     clear hK K
     try simp only [Act.put, List.setIfInBounds_toArray, List.set_cons_zero, List.set_cons_succ]
     refine wpAnyH_ready (rs := [4]) (by kernel_rfl) (by simp) ?_
     refine AllReadyH.cons rfl (fun K hK => ?_) AllReadyH.nil
     go_simp
     refine hK.out _ _ hcl3a (fun hHeld => ?_)
     clear hK K
     try simp only [Act.put, List.setIfInBounds_toArray, List.set_cons_zero, List.set_cons_succ]
     refine wpAnyH_ready (rs := [17]) (by kernel_rfl) (by simp) ?_
     refine AllReadyH.cons rfl (fun K hK => ?_) AllReadyH.nil
     refine wp_append_run (.tmp 12) (.tmp 24) 167 rfl _ _ rfl rfl happ ?_
     go_simp
     refine hK.out _ _ (hcl' _ hMcl4) (fun hHeld => ?_)
     clear hK K
     try simp only [Act.put, List.setIfInBounds_toArray, List.set_cons_zero, List.set_cons_succ]
     refine take_x (some 26) 18 rfl rfl ?_
     refine take_x (some 27) 19 rfl rfl ?_
     refine wpAnyH_ready (rs := [20]) (by kernel_rfl) (by simp) ?_
     refine AllReadyH.cons rfl (fun K hK => ?_) AllReadyH.nil
     go_simp
     refine hK.out _ _ hcl5 (fun hHeld => ?_)
     clear hK K
     try simp only [Act.put, List.setIfInBounds_toArray, List.set_cons_zero, List.set_cons_succ]
     refine wpAnyH_done (by kernel_rfl) ?_ _
     clear happ
     go_wp2_with fail
     go_end0
     exact unhide HF
end Go.Proofs.YtiiokkllmchohaaGreat
/- The machine: end. -/
namespace Go.Proofs.YtiiokkllmchohaaGreat
open Go.RowKit Go.Shelf
attribute [local go_sem ↓] Go.wp_at_zero Go.wp_at_succ
attribute [local go_sem] frz_drew

section
variable {w0 w w' : World} {ρ : Nat → Nat × Nat} {mb : Nat} {vp : Value} {fuel : Int} {ask : Bool} {st : MaSt} {A : List Nat} {X : List FrX} {Y : List Value} {vr vpr : Value}
theorem MaA.own (h : MaA w0 w ρ mb vp fuel ask st A X Y vr vpr) (hM : Mods (fun k => k = mb) w w') {frs : List MFr} {X' : List FrX} {told : LVal} {vr' : Value} {steps : Nat} (hB : Blk w' mb 172 (machC vp fuel ask vr' st.objs.length A told vpr steps)) (hr : w'.ownsRow w0.heap.size 231 1 vr' X'.length (X'.map fun x => .pointer (some ⟨x.fb, 0, none⟩))) (hv : vr'.ownBlock = vr.ownBlock) (hl : X'.length = frs.length) (hf : ∀ (i : Nat) (f : MFr) (x : FrX), frs[i]? = some f → X'[i]? = some x → st.frames[i]? = some f ∧ X[i]? = some x) (ok : okV A told) :
  MaA w0 w' ρ mb vp fuel ask { st with frames := frs, told := told, steps := steps } A X' Y vr' vpr := by
 have hq : ∀ k, k < w.heap.size → k = mb → ∀ r, r ≠ (5, 0) → ρ k ≠ r := fun k _ e r hr e' => hr (e' ▸ e ▸ h.rmb)
 have s : Same w.heap.size ρ ρ := fun _ _ => rfl
 have hz := h.bel.size
 exact ⟨hB, h.base, h.rmb, hr, fun g hg => h.rvr g (hv ▸ hg), own_mods h.prn hM (fun g hg e => hq g (h.prn.lt g hg).2 e (7, 0) (by simp) (h.rpr g hg)), h.rpr, hl, fun i f x h1 h2 => (h.fr i f x (hf i f x h1 h2).1 (hf i f x h1 h2).2).mods hM s (fun k hk e => ⟨hq k hk e _ (by simp), hq k hk e _ (by simp), hq k hk e _ (by simp)⟩), h.la, h.ly, fun k o b v h1 h2 h3 => (h.ob k o b v h1 h2 h3).mods hM s (fun j hj e => ⟨hq j hj e _ (by simp), hq j hj e _ (by simp)⟩), ok, h.bel.trans (hM.below hz (fun k hk e => by have := h.base; omega)), h.low⟩
theorem MaA.below {b : Nat} (h : MaA w0 w ρ mb vp fuel ask st A X Y vr vpr) (hb : Below b w w') (hbz : w.heap.size ≤ b) : MaA w0 w' ρ mb vp fuel ask st A X Y vr vpr := by
 have hM := Mods.of_below hb
 have s : Same w.heap.size ρ ρ := fun _ _ => rfl
 have hz := h.bel.size
 have hlt := h.lt
 exact ⟨h.mach.below hb (by omega), h.base, h.rmb, own_mods h.run hM (fun g hg e => by have := (h.run.lt g hg).2; omega), h.rvr, own_mods h.prn hM (fun g hg e => by have := (h.prn.lt g hg).2; omega), h.rpr, h.lx, fun i f x h1 h2 => (h.fr i f x h1 h2).mods hM s (fun k hk e => by omega), h.la, h.ly, fun k o c v h1 h2 h3 => (h.ob k o c v h1 h2 h3).mods hM s (fun j hj e => by omega), h.okt, h.bel.trans (hb.mono (by omega)), h.low⟩
theorem MaA.drew (h : MaA w0 w ρ mb vp fuel ask st A X Y vr vpr) : MaA w0 w.drew ρ mb vp fuel ask st A X Y vr vpr := h.below (Below.refl w.heap.size w).drew (Nat.le_refl _)
end
theorem snoc_of {α : Type} {l : List α} (h : 0 < l.length) : ∃ a x, l = a ++ [x] := by
 rcases List.eq_nil_or_concat l with rfl | ⟨a, x, rfl⟩
 ·simp at h
 ·exact ⟨a, x, by simp⟩
def endSt (st : MaSt) (v : LVal) : MaSt := match st.frames.dropLast.getLast? with
 | none => { st with frames := [], told := v }
 | some g => { st with frames := st.frames.dropLast.dropLast ++ [{ g with stk := g.stk ++ [v] }], told := v }
theorem endSt_nil {st : MaSt} {f : MFr} (v : LVal) (h : st.frames = [] ++ [f]) : endSt st v = { st with frames := [], told := v } := by
 unfold endSt
 rw [h]; rfl
theorem endSt_cons {st : MaSt} {fs : List MFr} {g f : MFr} (v : LVal) (h : st.frames = fs ++ [g] ++ [f]) : endSt st v = { st with frames := fs ++ [{ g with stk := g.stk ++ [v] }], told := v } := by
 unfold endSt
 rw [h, List.dropLast_concat, List.getLast?_concat, List.dropLast_concat]
set_option maxHeartbeats 1000000 in
set_option maxRecDepth 100000 in
theorem ma_end (w0 w : World) (ρ : Nat → Nat × Nat) (mb : Nat) (vp : Value) (fuel : Int) (ask : Bool) (st : MaSt) (A : List Nat) (X : List FrX) (Y : List Value) (vr vpr : Value) (h : MaA w0 w ρ mb vp fuel ask st A X Y vr vpr) (v : LVal) (okv : okV A v) (fs : List MFr) (f : MFr) (hfs : st.frames = fs ++ [f]) (hX : X.length ≤ 4194304) (hst : ∀ g ∈ st.frames, g.stk.length ≤ 4194304) :
  Calls Tryz.prog 172 #[.pointer (some ⟨mb, 0, none⟩), .agg (encV A v).toArray] w fun e w' => BegR w0 mb vp fuel ask (endSt st v) A w' e := by
 have hone := encV_one A v
 have hbel := box_below w (.cells (encV A v).toArray 170)
 have B0 := Blk.new w (encV A v).toArray 170
 have hm1 := h.mach.alloc (.cells (encV A v).toArray 170)
 have hlt := h.lt
 have hxl : X.length = fs.length + 1 := by rw [h.lx, hfs]; simp
 obtain ⟨X0, x, rfl⟩ : ∃ X0 x, X = X0 ++ [x] := snoc_of (by omega)
 have hx0 : X0.length = fs.length := by simpa using hxl
 have hxx : (X0 ++ [x]).length = X0.length + 1 := by simp
 obtain ⟨g, rcap, rfl, hcap, _, hrd⟩ := own_read h.run (by omega)
 have hless := own_less h.run (m := X0.length) (by omega)
 rw [Nat.mul_one, List.map_append, List.take_append_of_le_length (by simp), List.take_of_length_le (by simp)] at hless
 go_enter Tryz.func172, Tryz.ntmps172
 go_wp2_with (first
  | refine wpList_load_blk aggVal B0 0 (encV A v) rfl (fun j u e => by simpa using e) (.tmp 3) rfl rfl rfl ?_
  | (refine wpList_store_blk aggVal hm1 5 (encV A v) rfl (by simp [machC]) hone (.tmp 7) (.tmp 5) rfl rfl rfl rfl ?_; intro w2 hB2 hM2 hs2))
 have hB2' : Blk w2 mb 172 (machC vp fuel ask (.slice (some ⟨g, 0, none⟩) (X0.length + 1) rcap) st.objs.length A v vpr st.steps) := by
  rw [← hxx]; exact hB2
 have n3 : w2.cell? ⟨mb, 3, none⟩ = some (.slice (some ⟨g, 0, none⟩) (X0.length + 1) rcap) := hB2'.cell 3
 have f3 := hB2'.frozen 3
 have hM3 : Mods (fun k => k = mb) w (w2.setCell ⟨mb, 3, none⟩ (.slice (some ⟨g, 0, none⟩) X0.length rcap)) := ((bnone hbel).trans hM2 (fun _ _ e => e)).setCell (p := ⟨mb, 3, none⟩) (fun _ => rfl) _
 have hB3 : Blk (w2.setCell ⟨mb, 3, none⟩ (.slice (some ⟨g, 0, none⟩) X0.length rcap)) mb 172 (machC vp fuel ask (.slice (some ⟨g, 0, none⟩) X0.length rcap) st.objs.length A v vpr st.steps) := hB2'.setCell 3 _
 have HW2 : Hid (MaA w0 (w2.setCell ⟨mb, 3, none⟩ (.slice (some ⟨g, 0, none⟩) X0.length rcap)) ρ mb vp fuel ask { st with frames := fs, told := v } A X0 Y (.slice (some ⟨g, 0, none⟩) X0.length rcap) vpr ∧ Blk (w2.setCell ⟨mb, 3, none⟩ (.slice (some ⟨g, 0, none⟩) X0.length rcap)) w.heap.size 170 (encV A v)) := by
  refine ⟨h.own hM3 hB3 (own_mods hless hM3 (fun j hj e => ?_)) rfl hx0 (fun i f' x' h1 h2 => ?_) okv, ((B0.mods hM2 (by omega)).setCell_ne (by dsimp only; omega) _)⟩
  ·have := own_ne h.run h.mach tp_ne_ma
   exact this (e ▸ hj)
  ·rw [hfs]
   exact ⟨by rw [List.getElem?_append_left (List.getElem?_eq_some_iff.1 h1).1]; exact h1, by rw [List.getElem?_append_left (List.getElem?_eq_some_iff.1 h2).1]; exact h2⟩
 have HX0 := hide hx0
 have HXL := hide (show X0.length ≤ 4194303 by omega)
 have n0 : (0 : Int) ≤ (X0.length : Int) := by omega
 have hc0 : (X0.length : Int) ≤ (rcap : Int) := by omega
 have hwr : IntKind.i64.wrap (X0.length : Int) = (X0.length : Int) := by rw [IntKind.wrap_i64]; omega
 have hsub : ((X0.length : Int) + 1) - 1 = (X0.length : Int) := by omega
 clear hB2 hM2 hs2 hB2' hM3 hB3 hless hm1 B0 hbel hx0 hxl hxx hX
 go_cut [] (fun wx => MaA w0 wx ρ mb vp fuel ask { st with frames := fs, told := v } A X0 Y (.slice (some ⟨g, 0, none⟩) X0.length rcap) vpr ∧ Blk wx w.heap.size 170 (encV A v))
 case first =>
  refine wp_region_held_drew (S := (fun _ => True)) (by kernel_rfl) ?_ (fun hHeld => ?_)
  ·exact trivial
  refine take_x (some 8) 0 rfl rfl ?_
  refine take_x (some 9) 1 rfl rfl ?_
  refine take_x (some 10) 2 rfl rfl ?_
  refine take_x (some 11) 3 rfl rfl ?_
  refine take_x (some 13) 5 rfl rfl ?_
  refine take_x (some 14) 6 rfl rfl ?_
  refine take_x (some 15) 7 rfl rfl ?_
  refine wpAnyH_ready (rs := [4, 8]) (by kernel_rfl) (by simp) ?_
  refine AllReadyH.cons rfl (fun K hK => ?_) (AllReadyH.cons rfl (fun K hK => ?_) AllReadyH.nil)
  ·go_simp
   refine hK.out _ _ trivial (fun hHeld => ?_)
   clear hK K
   try simp only [Act.put, List.setIfInBounds_toArray, List.set_cons_zero, List.set_cons_succ]
   refine wpAnyH_ready (rs := [8]) (by kernel_rfl) (by simp) ?_
   refine AllReadyH.cons rfl (fun K hK => ?_) AllReadyH.nil
   go_simp
   refine hK.out _ _ trivial (fun hHeld => ?_)
   clear hK K
   try simp only [Act.put, List.setIfInBounds_toArray, List.set_cons_zero, List.set_cons_succ]
   refine take_x (some 17) 9 rfl rfl ?_
   refine take_x (some 18) 10 rfl rfl ?_
   refine take_x (some 19) 11 rfl rfl ?_
   refine take_x (some 20) 12 rfl rfl ?_
   refine take_x (some 21) 13 rfl rfl ?_
   refine wpAnyH_ready (rs := [14]) (by kernel_rfl) (by simp) ?_
   refine AllReadyH.cons rfl (fun K hK => ?_) AllReadyH.nil
   go_simp
   refine hK.out _ _ trivial (fun hHeld => ?_)
   clear hK K
   try simp only [Act.put, List.setIfInBounds_toArray, List.set_cons_zero, List.set_cons_succ]
   refine wpAnyH_done (by kernel_rfl) ?_ _
   go_wp2_with fail
   go_meet
   case rel => exact ⟨(unhide HW2).1.drew, (unhide HW2).2.drew⟩
  ·go_simp
   refine hK.out _ _ trivial (fun hHeld => ?_)
   clear hK K
   try simp only [Act.put, List.setIfInBounds_toArray, List.set_cons_zero, List.set_cons_succ]
   refine take_x (some 17) 9 rfl rfl ?_
   refine take_x (some 18) 10 rfl rfl ?_
   refine wpAnyH_ready (rs := [4]) (by kernel_rfl) (by simp) ?_
   refine AllReadyH.cons rfl (fun K hK => ?_) AllReadyH.nil
   go_simp
   refine hK.out _ _ trivial (fun hHeld => ?_)
   clear hK K
   try simp only [Act.put, List.setIfInBounds_toArray, List.set_cons_zero, List.set_cons_succ]
   refine take_x (some 19) 11 rfl rfl ?_
   refine take_x (some 20) 12 rfl rfl ?_
   refine take_x (some 21) 13 rfl rfl ?_
   refine wpAnyH_ready (rs := [14]) (by kernel_rfl) (by simp) ?_
   refine AllReadyH.cons rfl (fun K hK => ?_) AllReadyH.nil
   go_simp
   refine hK.out _ _ trivial (fun hHeld => ?_)
   clear hK K
   try simp only [Act.put, List.setIfInBounds_toArray, List.set_cons_zero, List.set_cons_succ]
   refine wpAnyH_done (by kernel_rfl) ?_ _
   go_wp2_with fail
   go_meet
   case rel => exact ⟨(unhide HW2).1.drew, (unhide HW2).2.drew⟩
 case rest =>
  obtain ⟨hA, hB⟩ := hcut
  have n3' : wc.cell? ⟨mb, 3, none⟩ = some (.slice (some ⟨g, 0, none⟩) X0.length rcap) := hA.mach.cell 3
  have HA := hide hA
  by_cases h0 : X0.length = 0
  ·have hfn : fs = [] := List.eq_nil_of_length_eq_zero (by rw [← unhide HX0]; exact h0)
   have HF : Hid (BegR w0 mb vp fuel ask (endSt st v) A wc (.returned (.tuple #[]))) := by
    refine ⟨rfl, ρ, X0, Y, .slice (some ⟨g, 0, none⟩) X0.length rcap, vpr, ?_⟩
    rw [endSt_nil (f := f) v (by rw [hfs, hfn])]
    rw [hfn] at hA
    exact hA
   have h1 : ¬ (0 : Int) < (X0.length : Int) := by omega
   clear hA h0 hfn
   go_wp2_with fail
   go_end0
   exact unhide HF
  ·obtain ⟨X1, y, rfl⟩ := snoc_of (l := X0) (by omega)
   obtain ⟨gs, gf, rfl⟩ := snoc_of (l := fs) (by rw [← unhide HX0]; omega)
   have hl1 : X1.length = gs.length := by simpa using unhide HX0
   have hyy : (X1 ++ [y]).length = X1.length + 1 := by simp
   have hx4 := unhide HXL
   obtain ⟨g2, cap2, hge, _, _, hrd2⟩ := own_read hA.run (by omega)
   simp only [Value.slice.injEq, Option.some.injEq, Addr.mk.injEq, and_true, true_and] at hge
   obtain ⟨rfl, rfl⟩ := hge
   have r0 : wc.cell? ⟨g, X1.length, none⟩ = some (.pointer (some ⟨y.fb, 0, none⟩)) := by
    rw [hrd2 _ (by omega), List.map_append, List.getElem?_append_right (by simp)]; simp
   have F := hA.fr X1.length gf y (by show (gs ++ [gf])[X1.length]? = _; rw [hl1]; simp) (by simp)
   have HFr := hide F
   rw [hyy] at n3'
   have b0 : wc.cell? ⟨w.heap.size, 0, none⟩ = some (.int .i64 v.kind) := hB.cell 0
   have b1 : wc.cell? ⟨w.heap.size, 1, none⟩ = some (.int .i64 v.num) := hB.cell 1
   have b2 : wc.cell? ⟨w.heap.size, 2, none⟩ = some (objP A v.obj) := hB.cell 2
   have hev : encV A v = [.int .i64 v.kind, .int .i64 v.num, objP A v.obj] := rfl
   have hwr1 : IntKind.i64.wrap (X1.length : Int) = (X1.length : Int) := by rw [IntKind.wrap_i64]; omega
   have m0 : (0 : Int) ≤ (X1.length : Int) := by omega
   have m1 : (X1.length : Int) < (X1.length : Int) + 1 := by omega
   have m2 : (0 : Int) < (X1.length : Int) + 1 := by omega
   have HL1 := hide hl1
   have HYY := hide hyy
   have hgst : gf.stk.length ≤ 4194304 := hst gf (by rw [hfs]; simp)
   have hbase := hA.bel.size
   have hrne : ¬ (g = y.fb ∨ y.vs.ownBlock = some g) := fun e => by
    rcases e with e | e
    ·exact own_ne hA.run F.fr.blk (by decide) (show _ = some y.fb from e ▸ rfl)
    ·exact own_tne hA.run F.fr.st (by decide) g rfl e
   have hmne : ¬ (mb = y.fb ∨ y.vs.ownBlock = some mb) := fun e => by
    rcases e with e | e
    ·exact absurd (F.fr.blk.uniq (e ▸ hA.mach)) (by decide)
    ·exact own_ne F.fr.st hA.mach (by decide) e
   have F0 := h.fr X1.length gf y (by rw [hfs, hl1]; simp) (by simp)
   have hwne : ¬ (w.heap.size = y.fb ∨ y.vs.ownBlock = some w.heap.size) := fun e => by
    rcases e with e | e
    ·have := F0.fr.blk.lt; omega
    ·have := (F0.fr.st.lt _ e).2; omega
   clear hA F hB hrd2 hl1 hyy hx4 h0 hrd F0
   go_wp2_with fail
   refine wp_region_held_drew (S := (fun w' => w'.cell? ⟨mb, 3, none⟩ = some (.slice (some ⟨g, 0, none⟩) (X1.length + 1) rcap) ∧ w'.cell? ⟨g, X1.length, none⟩ = some (.pointer (some ⟨y.fb, 0, none⟩)) ∧ w'.cell? ⟨w.heap.size, 0, none⟩ = some (.int .i64 v.kind) ∧ w'.cell? ⟨w.heap.size, 1, none⟩ = some (.int .i64 v.num) ∧ w'.cell? ⟨w.heap.size, 2, none⟩ = some (objP A v.obj))) (by kernel_rfl) ?_ (fun hHeld => ?_)
   ·exact ⟨n3', r0, b0, b1, b2⟩
   refine take_x (some 28) 0 rfl rfl ?_
   refine take_x (some 29) 1 rfl rfl ?_
   refine take_x (some 30) 2 rfl rfl ?_
   refine take_x (some 31) 3 rfl rfl ?_
   refine take_x (some 32) 4 rfl rfl ?_
   refine take_x (some 33) 5 rfl rfl ?_
   refine take_x (some 34) 6 rfl rfl ?_
   refine take_x (some 35) 7 rfl rfl ?_
   refine take_x (some 36) 8 rfl rfl ?_
   refine take_x (some 37) 9 rfl rfl ?_
   refine take_x (some 38) 10 rfl rfl ?_
   refine take_x (some 39) 11 rfl rfl ?_
   refine take_x (some 40) 12 rfl rfl ?_
   refine wpAnyH_ready (rs := [13]) (by kernel_rfl) (by simp) ?_
   refine AllReadyH.cons rfl (fun K hK => ?_) AllReadyH.nil
   go_simp
   have hP0 := ma_push w0.heap.size A y.fb y.mc (gf.pc : Int) y.vl gf.loc y.vs gf.stk v wc.drew ((unhide HFr).fr.below (Below.refl wc.heap.size wc).drew (Nat.le_refl _)) hbase hgst
   rw [hev] at hP0
   refine hP0.mono ?_
   rintro e w5 hP
   have hm0 : Mods (fun k => k = y.fb ∨ y.vs.ownBlock = some k ∨ y.vl.ownBlock = some k) wc wc.drew := (Mods.refl _ wc).drew
   have hMv := hP.move hm0 (.inl rfl)
   have hMw := hP.choose_spec.2.2.1
   have hl1 := unhide HL1
   have F1 := (unhide HFr)
   obtain ⟨rfl, ρ', vs', hA5⟩ := (unhide HA).move (i := X1.length) (f := gf) (x := y) (by show (gs ++ [gf])[X1.length]? = _; rw [hl1]; simp) (by simp) hMv F1.okl (fun u hu => by
    rcases List.mem_append.1 hu with hu | hu
    ·exact F1.oks u hu
    ·obtain rfl := List.mem_singleton.1 hu; exact okv)
   have HF : Hid (BegR w0 mb vp fuel ask (endSt st v) A w5 (.returned (.tuple #[]))) := by
    have hX := (show MaX w0 w5 mb vp fuel ask _ A from ⟨ρ', _, _, _, _, hA5⟩)
    have he : (gs ++ [gf]).set X1.length { gf with loc := gf.loc, stk := gf.stk ++ [v] } = gs ++ [{ gf with stk := gf.stk ++ [v] }] := by
     rw [hl1, List.set_append_right _ _ (Nat.le_refl _), Nat.sub_self]; rfl
    simp only [he] at hX
    refine ⟨rfl, ?_⟩
    rw [endSt_cons (f := f) v hfs]
    exact hX
   clear hA5 hMv hP0 F1 hl1
   go_wp2_with fail
   refine hK.out _ _ ⟨hMw.cell (w := wc.drew) n3' hmne, hMw.cell (w := wc.drew) r0 hrne, hMw.cell (w := wc.drew) b0 hwne, hMw.cell (w := wc.drew) b1 hwne, hMw.cell (w := wc.drew) b2 hwne⟩ (fun hHeld => ?_)
   clear hK K
   try simp only [Act.put, List.setIfInBounds_toArray, List.set_cons_zero, List.set_cons_succ]
   refine wpAnyH_done (by kernel_rfl) ?_ _
   clear hP hMw
   go_wp2_with fail
   go_end0
   exact unhide HF
end Go.Proofs.YtiiokkllmchohaaGreat
/- The machine that asks: what an instruction takes. -/
namespace Go.Proofs.YtiiokkllmchohaaGreat
open Go.RowKit Go.Shelf
attribute [local go_sem ↓] Go.wp_at_zero Go.wp_at_succ
attribute [local go_sem] frz_drew

def wantsM (p : List LClass) (ret op a b : Int) : List Int :=
 if op = 2 ∨ op = 14 ∨ op = 15 then [2]
 else if op = 20 then [2, 2]
 else if op = 3 ∨ op = 4 ∨ op = 5 ∨ op = 6 then [0, 0]
 else if op = 8 ∨ op = 19 then [0]
 else if op = 18 ∨ op = 17 then [3]
 else if op = 10 then [a + 3]
 else if op = 11 then [a + 3, fieldT p a b]
 else if op = 12 then (a + 3) :: (findM p a b).args
 else if op = 13 then [ret]
 else []
def WantR (l : List Int) (w w' : World) (e : Ending) : Prop := ∃ v, e = .returned v ∧ w'.ownsRow w.heap.size 43 1 v l.length (l.map (Value.int .i64)) ∧ Below w.heap.size w w'
theorem own_new (W : World) (e : TypeId) (cs : List Value) (hn : cs.length ≤ 4194304) : (W.alloc (.cells cs.toArray e)).ownsRow W.heap.size e 1 (.slice (some ⟨W.heap.size, 0, none⟩) cs.length cs.length) cs.length cs := by
 refine ⟨by omega, .inr ⟨W.heap.size, cs.length, cs.toArray, rfl, Nat.le_refl _, World.alloc_heap_new W _, Nat.le_refl _, by unfold maxLen; omega, by simp, by simp⟩⟩
theorem want_new (w : World) (o : Obj) (l : List Int) (hl : l.length ≤ 4194304) : WantR l w ((w.alloc o).alloc (.cells (l.map (Value.int .i64)).toArray 43)) (.returned (.slice (some ⟨w.heap.size + 1, 0, none⟩) l.length l.length)) := by
 have h := own_new (w.alloc o) 43 (l.map (Value.int .i64)) (by simpa using hl)
 rw [List.length_map, World.size_alloc] at h
 exact ⟨_, rfl, own_base h (by omega), box2_below _ _ _⟩
theorem want_nil (w : World) (o : Obj) : WantR [] w (w.alloc o) (.returned (.slice none 0 0)) := ⟨_, rfl, World.ownsRow_nil _ _ _ _, box_below _ _⟩
section
variable (p : List LClass) (vp : Value) (w0 w : World) (mb fb : Nat) (a b : Int)
theorem wn_2 : Calls Tryz.prog 229 #[.pointer (some ⟨mb, 0, none⟩), .pointer (some ⟨fb, 0, none⟩), .agg #[.int .i64 2, .int .i64 a, .int .i64 b]] w fun e w' => WantR [2] w w' e := by
 go_enter Tryz.func229, Tryz.ntmps229
 go_wp2_with fail
 go_ret
 exact want_new w _ [2] (by decide)
theorem wn_14 : Calls Tryz.prog 229 #[.pointer (some ⟨mb, 0, none⟩), .pointer (some ⟨fb, 0, none⟩), .agg #[.int .i64 14, .int .i64 a, .int .i64 b]] w fun e w' => WantR [2] w w' e := by
 go_enter Tryz.func229, Tryz.ntmps229
 go_wp2_with fail
 go_ret
 exact want_new w _ [2] (by decide)
theorem wn_15 : Calls Tryz.prog 229 #[.pointer (some ⟨mb, 0, none⟩), .pointer (some ⟨fb, 0, none⟩), .agg #[.int .i64 15, .int .i64 a, .int .i64 b]] w fun e w' => WantR [2] w w' e := by
 go_enter Tryz.func229, Tryz.ntmps229
 go_wp2_with fail
 go_ret
 exact want_new w _ [2] (by decide)
theorem wn_20 : Calls Tryz.prog 229 #[.pointer (some ⟨mb, 0, none⟩), .pointer (some ⟨fb, 0, none⟩), .agg #[.int .i64 20, .int .i64 a, .int .i64 b]] w fun e w' => WantR [2, 2] w w' e := by
 go_enter Tryz.func229, Tryz.ntmps229
 go_wp2_with fail
 go_ret
 exact want_new w _ [2, 2] (by decide)
theorem wn_3 : Calls Tryz.prog 229 #[.pointer (some ⟨mb, 0, none⟩), .pointer (some ⟨fb, 0, none⟩), .agg #[.int .i64 3, .int .i64 a, .int .i64 b]] w fun e w' => WantR [0, 0] w w' e := by
 go_enter Tryz.func229, Tryz.ntmps229
 go_wp2_with fail
 go_ret
 exact want_new w _ [0, 0] (by decide)
theorem wn_4 : Calls Tryz.prog 229 #[.pointer (some ⟨mb, 0, none⟩), .pointer (some ⟨fb, 0, none⟩), .agg #[.int .i64 4, .int .i64 a, .int .i64 b]] w fun e w' => WantR [0, 0] w w' e := by
 go_enter Tryz.func229, Tryz.ntmps229
 go_wp2_with fail
 go_ret
 exact want_new w _ [0, 0] (by decide)
theorem wn_5 : Calls Tryz.prog 229 #[.pointer (some ⟨mb, 0, none⟩), .pointer (some ⟨fb, 0, none⟩), .agg #[.int .i64 5, .int .i64 a, .int .i64 b]] w fun e w' => WantR [0, 0] w w' e := by
 go_enter Tryz.func229, Tryz.ntmps229
 go_wp2_with fail
 go_ret
 exact want_new w _ [0, 0] (by decide)
theorem wn_6 : Calls Tryz.prog 229 #[.pointer (some ⟨mb, 0, none⟩), .pointer (some ⟨fb, 0, none⟩), .agg #[.int .i64 6, .int .i64 a, .int .i64 b]] w fun e w' => WantR [0, 0] w w' e := by
 go_enter Tryz.func229, Tryz.ntmps229
 go_wp2_with fail
 go_ret
 exact want_new w _ [0, 0] (by decide)
theorem wn_8 : Calls Tryz.prog 229 #[.pointer (some ⟨mb, 0, none⟩), .pointer (some ⟨fb, 0, none⟩), .agg #[.int .i64 8, .int .i64 a, .int .i64 b]] w fun e w' => WantR [0] w w' e := by
 go_enter Tryz.func229, Tryz.ntmps229
 go_wp2_with fail
 go_ret
 exact want_new w _ [0] (by decide)
theorem wn_19 : Calls Tryz.prog 229 #[.pointer (some ⟨mb, 0, none⟩), .pointer (some ⟨fb, 0, none⟩), .agg #[.int .i64 19, .int .i64 a, .int .i64 b]] w fun e w' => WantR [0] w w' e := by
 go_enter Tryz.func229, Tryz.ntmps229
 go_wp2_with fail
 go_ret
 exact want_new w _ [0] (by decide)
theorem wn_0 : Calls Tryz.prog 229 #[.pointer (some ⟨mb, 0, none⟩), .pointer (some ⟨fb, 0, none⟩), .agg #[.int .i64 0, .int .i64 a, .int .i64 b]] w fun e w' => WantR [] w w' e := by
 go_enter Tryz.func229, Tryz.ntmps229
 go_wp2_with fail
 go_ret
 exact want_nil w _
theorem wn_1 : Calls Tryz.prog 229 #[.pointer (some ⟨mb, 0, none⟩), .pointer (some ⟨fb, 0, none⟩), .agg #[.int .i64 1, .int .i64 a, .int .i64 b]] w fun e w' => WantR [] w w' e := by
 go_enter Tryz.func229, Tryz.ntmps229
 go_wp2_with fail
 go_ret
 exact want_nil w _
theorem wn_7 : Calls Tryz.prog 229 #[.pointer (some ⟨mb, 0, none⟩), .pointer (some ⟨fb, 0, none⟩), .agg #[.int .i64 7, .int .i64 a, .int .i64 b]] w fun e w' => WantR [] w w' e := by
 go_enter Tryz.func229, Tryz.ntmps229
 go_wp2_with fail
 go_ret
 exact want_nil w _
theorem wn_9 : Calls Tryz.prog 229 #[.pointer (some ⟨mb, 0, none⟩), .pointer (some ⟨fb, 0, none⟩), .agg #[.int .i64 9, .int .i64 a, .int .i64 b]] w fun e w' => WantR [] w w' e := by
 go_enter Tryz.func229, Tryz.ntmps229
 go_wp2_with fail
 go_ret
 exact want_nil w _
theorem wn_16 : Calls Tryz.prog 229 #[.pointer (some ⟨mb, 0, none⟩), .pointer (some ⟨fb, 0, none⟩), .agg #[.int .i64 16, .int .i64 a, .int .i64 b]] w fun e w' => WantR [] w w' e := by
 go_enter Tryz.func229, Tryz.ntmps229
 go_wp2_with fail
 go_ret
 exact want_nil w _
theorem wn_17 : Calls Tryz.prog 229 #[.pointer (some ⟨mb, 0, none⟩), .pointer (some ⟨fb, 0, none⟩), .agg #[.int .i64 17, .int .i64 a, .int .i64 b]] w fun e w' => WantR [3] w w' e := by
 go_enter Tryz.func229, Tryz.ntmps229
 go_wp2_with fail
 refine (code_of 0 (by omega) (by omega) _).mono ?_
 rintro e w' ⟨rfl, rfl⟩
 go_wp2_with fail
 go_ret
 exact want_new w _ [3] (by decide)
theorem wn_18 : Calls Tryz.prog 229 #[.pointer (some ⟨mb, 0, none⟩), .pointer (some ⟨fb, 0, none⟩), .agg #[.int .i64 18, .int .i64 a, .int .i64 b]] w fun e w' => WantR [3] w w' e := by
 go_enter Tryz.func229, Tryz.ntmps229
 go_wp2_with fail
 refine (code_of 0 (by omega) (by omega) _).mono ?_
 rintro e w' ⟨rfl, rfl⟩
 go_wp2_with fail
 go_ret
 exact want_new w _ [3] (by decide)
theorem wn_10 (h0 : 0 ≤ a) (h1 : a ≤ 4194304) : Calls Tryz.prog 229 #[.pointer (some ⟨mb, 0, none⟩), .pointer (some ⟨fb, 0, none⟩), .agg #[.int .i64 10, .int .i64 a, .int .i64 b]] w fun e w' => WantR [a + 3] w w' e := by
 go_enter Tryz.func229, Tryz.ntmps229
 go_wp2_with fail
 refine (code_of a (by omega) (by omega) _).mono ?_
 rintro e w' ⟨rfl, rfl⟩
 go_wp2_with fail
 go_ret
 exact want_new w _ [a + 3] (by simp)
theorem wn_13 (ret : Int) (hr : w.cell? ⟨fb, 2, none⟩ = some (.int .i64 ret)) : Calls Tryz.prog 229 #[.pointer (some ⟨mb, 0, none⟩), .pointer (some ⟨fb, 0, none⟩), .agg #[.int .i64 13, .int .i64 a, .int .i64 b]] w fun e w' => WantR [ret] w w' e := by
 have hr' := Keeps.of_below (box_below w (.cells #[.int .i64 13, .int .i64 a, .int .i64 b] 60)) _ _ hr
 go_enter Tryz.func229, Tryz.ntmps229
 go_wp2_with fail
 go_ret
 exact want_new w _ [ret] (by simp)
end
end Go.Proofs.YtiiokkllmchohaaGreat
