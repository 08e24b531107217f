/- The document's answer: two states joined. -/
import Derived.Deep.LoopGhost
import Derived.Deep.DeepCutAuto
import Derived.Test.YtiiokkllmchohaaGreatT34
namespace Go.Proofs.YtiiokkllmchohaaGreat
open Go.RowKit Go.Shelf
attribute [local go_sem ↓] Go.wp_at_zero Go.wp_at_succ
attribute [local go_sem] frz_drew
theorem StpI.oneL {w V : World} {B b : Nat} {vl : Value} {loc : List Int} (i : StpI w V B b vl loc (.slice none 0 0) []) (hB : w.heap.size ≤ B) (hBV : B ≤ V.heap.size) (hb : w.heap.size ≤ b) (hbB : b < B) (hl : loc.length ≤ 100) (x : Int) :
  ∃ a n cap w', (Builtin.append_ #[40, 40] 40 #[vl, .slice (some ⟨V.heap.size, 0, none⟩) 1 1]).run Tryz.prog (V.alloc (.cells #[.int .i64 x] 43)) = .ok (.slice a n cap) w' ∧
   w'.cell? ⟨b, 1, none⟩ = some vl ∧ w'.frozen? ⟨b, 1, none⟩ = false ∧ Mods (fun j => vl.ownBlock = some j) V w' ∧ StpI w (w'.setCell ⟨b, 1, none⟩ (.slice a n cap)) B b (.slice a n cap) (loc ++ [x]) (.slice none 0 0) [] := by
 obtain ⟨a, n, cap, w', happ, c1, f1, hM, _, I⟩ := i.growL.one hB hBV hb hbB hl x
 exact ⟨a, n, cap, w', happ, c1, f1, hM, I.bel, I.box, I.row, World.ownsRow_nil _ _ _ _, fun g _ h => by cases h⟩
structure JnB (w V : World) (vp : Value) (ia ib : Bool) (val vas vbl vbs : Value) : Prop where
 bel : Below w.heap.size w V
 b0 : Blk V w.heap.size 24 [vp]
 b1 : Blk V (w.heap.size + 1) 149 [.bool ia, val, vas]
 b2 : Blk V (w.heap.size + 1 + 1) 149 [.bool ib, vbl, vbs]
 b3 : Blk V (w.heap.size + 1 + 1 + 1) 149 [.bool false, .slice none 0 0, .slice none 0 0]
theorem JnB.below {w V V' : World} {vp : Value} {ia ib : Bool} {val vas vbl vbs : Value} (i : JnB w V vp ia ib val vas vbl vbs) (h : Below V.heap.size V V') : JnB w V' vp ia ib val vas vbl vbs :=
 ⟨i.bel.trans (h.mono i.bel.size), i.b0.below h i.b0.lt, i.b1.below h i.b1.lt, i.b2.below h i.b2.lt, i.b3.below h i.b3.lt⟩
theorem JnB.new (w : World) (vp : Value) (ia ib : Bool) (val vas vbl vbs : Value) :
  JnB w ((((w.alloc (.cells #[vp] 24)).alloc (.cells #[.bool ia, val, vas] 149)).alloc (.cells #[.bool ib, vbl, vbs] 149)).alloc (.cells #[.bool false, .slice none 0 0, .slice none 0 0] 149)) vp ia ib val vas vbl vbs := by
 have a1 := Blk.new (w.alloc (.cells #[vp] 24)) #[.bool ia, val, vas] 149
 have a2 := Blk.new ((w.alloc (.cells #[vp] 24)).alloc (.cells #[.bool ia, val, vas] 149)) #[.bool ib, vbl, vbs] 149
 have a3 := Blk.new (((w.alloc (.cells #[vp] 24)).alloc (.cells #[.bool ia, val, vas] 149)).alloc (.cells #[.bool ib, vbl, vbs] 149)) #[.bool false, .slice none 0 0, .slice none 0 0] 149
 simp only [World.size_alloc] at a1 a2 a3
 exact ⟨(((box_below w _).alloc (by simp) _).alloc (by simp; omega) _).alloc (by simp; omega) _, (((Blk.new w _ _).alloc _).alloc _).alloc _, (a1.alloc _).alloc _, a2.alloc _, a3⟩
def RjR (p : List LClass) (ia ib : Bool) (s t : TSt) (vbl vbs : Value) (w w' : World) (e : Ending) : Prop :=
 (ia = false → e = .returned (.tuple #[.agg #[.bool ib, vbl, vbs], .bool true])) ∧ (ia = true → s.stk.length ≠ t.stk.length → e = .returned (.tuple #[.agg #[.bool false, .slice none 0 0, .slice none 0 0], .bool false])) ∧
  (ia = true → s.stk.length = t.stk.length → ∃ vl vs, e = .returned (.tuple #[.agg #[.bool true, vl, vs], .bool true]) ∧ NewSt w.heap.size w' (rJoin p s t) vl vs) ∧ Below w.heap.size w w'
theorem join_snoc {p : List LClass} {l u : List Int} {k : Nat} (h1 : k < l.length) (h2 : k < u.length) : ((l.zip u).map fun x => joinB p x.1 x.2).take (k + 1) = ((l.zip u).map fun x => joinB p x.1 x.2).take k ++ [joinB p l[k] u[k]] := by
 rw [List.take_add_one, List.getElem?_eq_getElem (by simp; omega), List.getElem_map, List.getElem_zip]
 rfl
theorem one3r {q : Bool} {a a' : Option Addr} {n c n' c' : Nat} : ∀ u ∈ [Value.bool q, .slice a n c, .slice a' n' c'], u.oneCell' = true := fun u hu => by
 simp only [List.mem_cons, List.not_mem_nil, or_false] at hu
 rcases hu with rfl | rfl | rfl <;> rfl
set_option maxHeartbeats 2000000 in
set_option maxRecDepth 100000 in
theorem rs_joined (p : List LClass) (vc : Value) (s t : TSt) (ia ib : Bool) (val vas vbl vbs : Value) (w : World) (hp : RProg w vc p) (hs : SupOk p p.length) (h6 : p.length ≤ 6) (hA : StG w.cell? s val vas) (hB : StG w.cell? t vbl vbs) (tA : TIn p s) (tB : TIn p t) (l1 : s.loc.length ≤ 8) (l2 : s.stk.length ≤ 8) (hll : ia = true → s.loc.length = t.loc.length) :
  Calls Tryz.prog 98 #[.agg #[vc], .agg #[.bool ia, val, vas], .agg #[.bool ib, vbl, vbs]] w fun e w' => RjR p ia ib s t vbl vbs w w' e := by
 have HP := hide hp
 obtain ⟨pa, _, _, pcap, rfl, _⟩ := hp
 obtain ⟨ala, alb, alo, alc, rfl, _, halh, halr⟩ := ints_open hA.1
 obtain ⟨asa, asb, aso, asc, rfl, _, hash, hasr⟩ := ints_open hA.2
 obtain ⟨bla, blb, blo, blc, rfl, _, hblh, hblr⟩ := ints_open hB.1
 obtain ⟨bsa, bsb, bso, bsc, rfl, _, hbsh, hbsr⟩ := ints_open hB.2
 have HAL := hide halr
 have HAS := hide hasr
 have HBL := hide hblr
 have HBS := hide hbsr
 clear halr hasr hblr hbsr hA hB
 have I0 := JnB.new w (.slice pa p.length pcap) ia ib (.slice ala s.loc.length alc) (.slice asa s.stk.length asc) (.slice bla t.loc.length blc) (.slice bsa t.stk.length bsc)
 have hpl : p.length ≤ 4194304 := by omega
 go_enter Tryz.func98, Tryz.ntmps98
 go_upto_region 1 with fail
 generalize (((w.alloc _).alloc _).alloc _).alloc _ = W at *
 have a0 : W.cell? ⟨w.heap.size + 1, 0, none⟩ = some (.bool ia) := I0.b1.cell 0
 have a2 : W.cell? ⟨w.heap.size + 1, 2, none⟩ = some (.slice asa s.stk.length asc) := I0.b1.cell 2
 have e0 : W.cell? ⟨w.heap.size + 1 + 1, 0, none⟩ = some (.bool ib) := I0.b2.cell 0
 have e1 : W.cell? ⟨w.heap.size + 1 + 1, 1, none⟩ = some (.slice bla t.loc.length blc) := I0.b2.cell 1
 have e2 : W.cell? ⟨w.heap.size + 1 + 1, 2, none⟩ = some (.slice bsa t.stk.length bsc) := I0.b2.cell 2
 have HLL := hide hll
 clear hll
 cases ia with
 | false =>
  go_wp2_with (refine wpList_store_blk aggRS I0.b3 0 [.bool ib, .slice bla t.loc.length blc, .slice bsa t.stk.length bsc] rfl (by simp) (fun u hu => by simp only [List.mem_cons, List.not_mem_nil, or_false] at hu; rcases hu with rfl | rfl | rfl <;> rfl) (.tmp 6) (.tmp 16) rfl rfl rfl rfl ?_; intro w6 hB6 hM6 hs6; rw [putAt_all (by rfl)] at hB6)
  refine bodyPost_ret (results_blk2 rfl aggRS hB6 rfl rfl) rfl ?_
  exact ⟨fun _ => rfl, fun e => (by cases e), fun e => (by cases e), I0.bel.trans (hM6.below I0.bel.size (fun k hk e => by omega))⟩
 | true =>
  have h2 := unhide HLL rfl
  by_cases h1 : s.stk.length = t.stk.length
  rotate_left
  ·have h1' : ((s.stk.length : Int) == (t.stk.length : Int)) = false := by simpa using fun h : (s.stk.length : Int) = t.stk.length => h1 (by omega)
   have H1 := hide h1
   clear h1 h2
   go_wp2_with (refine wpList_store_blk aggRS I0.b3 0 [.bool false, .slice none 0 0, .slice none 0 0] rfl (by simp) zeros3 (.tmp 6) (.tmp 24) rfl rfl rfl rfl ?_; intro w6 hB6 hM6 hs6; rw [putAt_all (by rfl)] at hB6)
   refine bodyPost_ret (results_blk2 rfl aggRS hB6 rfl rfl) rfl ?_
   exact ⟨fun e => (by cases e), fun _ _ => rfl, fun _ e => absurd e (unhide H1), I0.bel.trans (hM6.below I0.bel.size (fun k hk e => by omega))⟩
  have H1 := hide h1
  have H2 := hide h2
  have h1b : ((s.stk.length : Int) == (t.stk.length : Int)) = true := by rw [h1]; simp
  obtain ⟨zl, hzl⟩ : ∃ zl, zl = (s.loc.zip t.loc).map fun x => joinB p x.1 x.2 := ⟨_, rfl⟩
  obtain ⟨zs, hzs⟩ : ∃ zs, zs = (s.stk.zip t.stk).map fun x => joinB p x.1 x.2 := ⟨_, rfl⟩
  have HZL := hide hzl
  have HZS := hide hzs
  clear h1 h2 hzl hzs
  go_upto_region 5 with fail
  clear h1b a0 a2 e0 e1 e2
  go_wp2_with fail
  have hW4 := I0.b3.lt
  have J0 := StpI.start (w := w) (V := W) (B := W.heap.size + 1) I0.bel
  have hbx := box_below W (.cells #[.bool true, .slice none 0 0, .slice none 0 0] 149)
  have hsb : (W.alloc (.cells #[.bool true, .slice none 0 0, .slice none 0 0] 149)).heap.size = W.heap.size + 1 := by simp
  go_loopg [9] s.loc.length (fun g i V => ∃ (k : Nat) (vx : Value), k ≤ s.loc.length ∧ g = s.loc.length - k ∧ i = .int .i64 k ∧ StpI w V (W.heap.size + 1) W.heap.size vx (zl.take k) (.slice none 0 0) [] ∧ Below W.heap.size W V ∧ W.heap.size + 1 ≤ V.heap.size)
  case atStart => exact ⟨0, _, Nat.zero_le _, rfl, rfl, J0, hbx, by omega⟩
  case round =>
   clear J0 hbx hsb
   obtain ⟨k, vx, hk, hgk, rfl, JJ, hbV, hsV⟩ := hrel
   have HGK := hide hgk
   clear hgk
   have KK := I0.below hbV
   obtain ⟨vxa, vxc, rfl⟩ := own_form JJ.rl
   obtain ⟨sl, hsl⟩ : ∃ sl, sl = (zl.take k).length := ⟨_, rfl⟩
   rw [← hsl] at JJ
   have HSL := hide hsl
   clear hsl
   have z1 : wr.cell? ⟨W.heap.size, 1, none⟩ = some (.slice vxa sl vxc) := JJ.box.cell 1
   have q1 : wr.cell? ⟨w.heap.size + 1, 1, none⟩ = some (.slice ala s.loc.length alc) := KK.b1.cell 1
   by_cases hlt : k < s.loc.length
   rotate_left
   ·obtain rfl : k = s.loc.length := by omega
    have ke : ¬ (s.loc.length : Int) < (s.loc.length : Int) := by omega
    have hlz : zl.length = s.loc.length := by rw [unhide HZL]; have := unhide H2; simp; omega
    rw [List.take_of_length_le (by omega)] at JJ HSL
    obtain ⟨vla, zn, vlc, hv⟩ : ∃ a n c, Value.slice vxa sl vxc = .slice a n c := ⟨_, _, _, rfl⟩
    rw [hv] at JJ
    have HJ := hide JJ
    have HB := hide hbV
    have HSV := hide hsV
    clear hlz JJ z1 hbV hsV hv HSL KK HGK
    go_wp2_with fail
    have q3 : wr.cell? ⟨w.heap.size + 1, 2, none⟩ = some (.slice asa s.stk.length asc) := (I0.below (unhide HB)).b1.cell 2
    go_loopg [11] s.stk.length (fun g i V => ∃ (k : Nat) (vx : Value), k ≤ s.stk.length ∧ g = s.stk.length - k ∧ i = .int .i64 k ∧ StpI w V (W.heap.size + 1) W.heap.size (.slice vla zn vlc) zl vx (zs.take k) ∧ Below W.heap.size W V ∧ W.heap.size + 1 ≤ V.heap.size)
    case atStart => exact ⟨0, _, Nat.zero_le _, rfl, rfl, unhide HJ, unhide HB, unhide HSV⟩
    case round =>
     clear q3 HJ HB HSV
     obtain ⟨k, vx, hk, hgk, rfl, JJ, hbV, hsV⟩ := hrel
     have HGK := hide hgk
     clear hgk
     have KK := I0.below hbV
     obtain ⟨vxa, vxc, rfl⟩ := own_form JJ.rs
     obtain ⟨sl, hsl⟩ : ∃ sl, sl = (zs.take k).length := ⟨_, rfl⟩
     rw [← hsl] at JJ
     have HSL := hide hsl
     clear hsl
     have z1 : wr.cell? ⟨W.heap.size, 2, none⟩ = some (.slice vxa sl vxc) := JJ.box.cell 2
     have q1 : wr.cell? ⟨w.heap.size + 1, 2, none⟩ = some (.slice asa s.stk.length asc) := KK.b1.cell 2
     by_cases hlt : k < s.stk.length
     rotate_left
     ·obtain rfl : k = s.stk.length := by omega
      have ke : ¬ (s.stk.length : Int) < (s.stk.length : Int) := by omega
      have hlz : zs.length = s.stk.length := by rw [unhide HZS]; have := unhide H1; simp; omega
      rw [List.take_of_length_le (by omega)] at JJ HSL
      have y1 : wr.cell? ⟨W.heap.size, 0, none⟩ = some (.bool true) := JJ.box.cell 0
      have y2 : wr.cell? ⟨W.heap.size, 1, none⟩ = some (.slice vla zn vlc) := JJ.box.cell 1
      have HJ := hide JJ
      have hb3 := KK.b3
      clear hlz JJ
      go_wp2_with (refine wpList_store_blk aggRS hb3 0 [.bool true, .slice vla zn vlc, .slice vxa sl vxc] rfl (by simp) one3r (.tmp 6) (.tmp 76) rfl rfl rfl rfl ?_; intro w6 hB6 hM6 hs6; rw [putAt_all (by rfl)] at hB6)
      refine bodyPost_ret (results_blk2 rfl aggRS hB6 rfl rfl) rfl ?_
      exact ⟨fun e => (by cases e), fun _ e => absurd (unhide H1) e, fun _ _ => ⟨_, _, rfl, by
       have e : rJoin p s t = ⟨zl, zs⟩ := by unfold rJoin; rw [unhide HZL, unhide HZS]
       rw [e]
       exact StG.keep (sel_mods hM6 fun k hk hS => ⟨by omega, by omega⟩) (unhide HJ).read⟩, KK.bel.trans (hM6.below KK.bel.size (fun k hk e => by omega))⟩
     have q0 : wr.cell? ⟨w.heap.size, 0, none⟩ = some (.slice pa p.length pcap) := KK.b0.cell 0
     have q2 : wr.cell? ⟨w.heap.size + 1 + 1, 2, none⟩ = some (.slice bsa t.stk.length bsc) := KK.b2.cell 2
     have hlt' : k < t.stk.length := by rw [← unhide H1]; exact hlt
     obtain rfl := hash (ne_nil_of_lt hlt)
     obtain rfl := hbsh (ne_nil_of_lt hlt')
     have x0 := Keeps.of_below KK.bel _ _ (unhide HAS k hlt)
     have y0 := Keeps.of_below KK.bel _ _ (unhide HBS k hlt')
     have hx := tA.2 _ (List.getElem_mem hlt)
     have hy := tB.2 _ (List.getElem_mem hlt')
     have HS : Hid (zs.take (k + 1) = zs.take k ++ [joinB p s.stk[k] t.stk[k]]) := by show _ = _; rw [unhide HZS]; exact join_snoc hlt hlt'
     generalize s.stk[k] = a at *
     generalize t.stk[k] = b at *
     have k0 : (0 : Int) ≤ (k : Int) := by omega
     have k1 : (k : Int) < (s.stk.length : Int) := by omega
     have k2 : (k : Int) < (t.stk.length : Int) := by omega
     have HO := hide (fun Y (hY : Below wr.heap.size wr Y) => And.intro ((KK.below hY).b0.cell 0) (And.intro ((KK.below hY).b1.cell 2) (And.intro ((KK.below hY).b2.cell 2) (And.intro (Keeps.of_below hY _ _ x0) (Keeps.of_below hY _ _ y0)))))
     go_wp2_with fail
     refine wp_region_noPanic ?_
     refine wp_region_held_drew (S := (fun w' => w'.cell? ⟨w.heap.size, 0, none⟩ = some (.slice pa p.length pcap) ∧ w'.cell? ⟨w.heap.size + 1, 2, none⟩ = some (.slice (some ⟨asb, aso, none⟩) s.stk.length asc) ∧ w'.cell? ⟨w.heap.size + 1 + 1, 2, none⟩ = some (.slice (some ⟨bsb, bso, none⟩) t.stk.length bsc) ∧ w'.cell? ⟨asb, aso + k, none⟩ = some (.int .i64 a) ∧ w'.cell? ⟨bsb, bso + k, none⟩ = some (.int .i64 b))) (by kernel_rfl) ?_ (fun hHeld => ?_)
     ·exact (unhide HO) _ drew_below
     refine take_x (some 58) 0 rfl rfl ?_
     refine take_x (some 59) 1 rfl rfl ?_
     refine take_x (some 60) 2 rfl rfl ?_
     refine take_x (some 61) 3 rfl rfl ?_
     refine take_x (some 62) 4 rfl rfl ?_
     refine take_x (some 63) 5 rfl rfl ?_
     refine take_x (some 64) 6 rfl rfl ?_
     refine take_x (some 65) 7 rfl rfl ?_
     refine take_x (some 66) 8 rfl rfl ?_
     refine take_x (some 67) 9 rfl rfl ?_
     refine take_x (some 68) 10 rfl rfl ?_
     refine wpAnyH_ready (rs := [11]) (by kernel_rfl) (by simp) ?_
     refine AllReadyH.cons rfl (fun K hK => ?_) AllReadyH.nil
     go_simp
     refine (rs_join p _ a b wr.drew (prog_keep (Keeps.of_below drew_below) (prog_keep (Keeps.of_below KK.bel) (unhide HP))) hs h6 hx hy).mono ?_
     rintro e w1 ⟨rfl, hb1'⟩
     have hb1 : Below wr.heap.size wr w1 := ⟨hb1'.os, hb1'.tape, hb1'.output, hb1'.size, hb1'.block⟩
     obtain ⟨jn, hjn⟩ : ∃ jn, jn = joinB p a b := ⟨_, rfl⟩
     rw [← hjn] at HS ⊢
     have J1 := JJ.below hb1
     have z1' : w1.cell? ⟨W.heap.size, 2, none⟩ = some (.slice vxa sl vxc) := J1.box.cell 2
     have hs1 := hb1.size
     obtain ⟨a5, n5, cap5, w5, happ5, c5, f5, hM5, J5⟩ := J1.one (by omega) (by omega) (by omega) (by omega) (by rw [List.length_take]; omega) jn
     have hS5 : Mods (fun j => j = W.heap.size) w5 (w5.setCell ⟨W.heap.size, 2, none⟩ (.slice a5 n5 cap5)) := (Mods.refl (fun j => j = W.heap.size) w5).setCell (p := ⟨W.heap.size, 2, none⟩) (fun _ => rfl) _
     have hbV1 := hbV.trans (hb1.mono hbV.size)
     have hb5z : Below W.heap.size W (w5.setCell ⟨W.heap.size, 2, none⟩ (.slice a5 n5 cap5)) := hbV1.trans ((hM5.below hbV1.size (fun k hk e => by have := (J1.rs.lt k e).1; omega)).trans (hS5.below (Nat.le_trans hbV1.size hM5.size) (fun k hk e => by omega)))
     have hs5 : W.heap.size + 1 ≤ (w5.setCell ⟨W.heap.size, 2, none⟩ (.slice a5 n5 cap5)).heap.size := by have := hM5.size; have := hS5.size; omega
     rw [← unhide HS] at J5
     have HE := hide (And.intro J5 (And.intro hb5z hs5))
     clear J5 hM5 hS5 hb5z hjn hb1' z1 q0 q1 q2
     go_wp2_with fail
     refine hK.out _ _ ((unhide HO) _ hb1) (fun hHeld => ?_)
     clear hK K
     try simp only [Act.put, List.setIfInBounds_toArray, List.set_cons_zero, List.set_cons_succ]
     refine take_x (some 12) 12 rfl rfl ?_
     refine wpAnyH_done (by kernel_rfl) ?_ _
     refine NoPanic.normal ?_
     go_wp2_with (at_builtin; refine wpList_append_run rfl (.tmp 71) (.tmp 73) 40 rfl _ _ rfl rfl happ5 ?_)
     go_roundg (s.stk.length - (k + 1))
     case measure => have := unhide HGK; omega
     case rel => exact ⟨k + 1, .slice a5 n5 cap5, by omega, rfl, by go_num, (unhide HE).1, (unhide HE).2.1, (unhide HE).2.2⟩

   have q0 : wr.cell? ⟨w.heap.size, 0, none⟩ = some (.slice pa p.length pcap) := KK.b0.cell 0
   have q2 : wr.cell? ⟨w.heap.size + 1 + 1, 1, none⟩ = some (.slice bla t.loc.length blc) := KK.b2.cell 1
   have hlt' : k < t.loc.length := by rw [← unhide H2]; exact hlt
   obtain rfl := halh (ne_nil_of_lt hlt)
   obtain rfl := hblh (ne_nil_of_lt hlt')
   have x0 := Keeps.of_below KK.bel _ _ (unhide HAL k hlt)
   have y0 := Keeps.of_below KK.bel _ _ (unhide HBL k hlt')
   have hx := tA.1 _ (List.getElem_mem hlt)
   have hy := tB.1 _ (List.getElem_mem hlt')
   have HS : Hid (zl.take (k + 1) = zl.take k ++ [joinB p s.loc[k] t.loc[k]]) := by show _ = _; rw [unhide HZL]; exact join_snoc hlt hlt'
   generalize s.loc[k] = a at *
   generalize t.loc[k] = b at *
   have k0 : (0 : Int) ≤ (k : Int) := by omega
   have k1 : (k : Int) < (s.loc.length : Int) := by omega
   have k2 : (k : Int) < (t.loc.length : Int) := by omega
   have HO := hide (fun Y (hY : Below wr.heap.size wr Y) => And.intro ((KK.below hY).b0.cell 0) (And.intro ((KK.below hY).b1.cell 1) (And.intro ((KK.below hY).b2.cell 1) (And.intro (Keeps.of_below hY _ _ x0) (Keeps.of_below hY _ _ y0)))))
   go_wp2_with fail
   refine wp_region_noPanic ?_
   refine wp_region_held_drew (S := (fun w' => w'.cell? ⟨w.heap.size, 0, none⟩ = some (.slice pa p.length pcap) ∧ w'.cell? ⟨w.heap.size + 1, 1, none⟩ = some (.slice (some ⟨alb, alo, none⟩) s.loc.length alc) ∧ w'.cell? ⟨w.heap.size + 1 + 1, 1, none⟩ = some (.slice (some ⟨blb, blo, none⟩) t.loc.length blc) ∧ w'.cell? ⟨alb, alo + k, none⟩ = some (.int .i64 a) ∧ w'.cell? ⟨blb, blo + k, none⟩ = some (.int .i64 b))) (by kernel_rfl) ?_ (fun hHeld => ?_)
   ·exact (unhide HO) _ drew_below
   refine take_x (some 33) 0 rfl rfl ?_
   refine take_x (some 34) 1 rfl rfl ?_
   refine take_x (some 35) 2 rfl rfl ?_
   refine take_x (some 36) 3 rfl rfl ?_
   refine take_x (some 37) 4 rfl rfl ?_
   refine take_x (some 38) 5 rfl rfl ?_
   refine take_x (some 39) 6 rfl rfl ?_
   refine take_x (some 40) 7 rfl rfl ?_
   refine take_x (some 41) 8 rfl rfl ?_
   refine take_x (some 42) 9 rfl rfl ?_
   refine take_x (some 43) 10 rfl rfl ?_
   refine wpAnyH_ready (rs := [11]) (by kernel_rfl) (by simp) ?_
   refine AllReadyH.cons rfl (fun K hK => ?_) AllReadyH.nil
   go_simp
   refine (rs_join p _ a b wr.drew (prog_keep (Keeps.of_below drew_below) (prog_keep (Keeps.of_below KK.bel) (unhide HP))) hs h6 hx hy).mono ?_
   rintro e w1 ⟨rfl, hb1'⟩
   have hb1 : Below wr.heap.size wr w1 := ⟨hb1'.os, hb1'.tape, hb1'.output, hb1'.size, hb1'.block⟩
   obtain ⟨jn, hjn⟩ : ∃ jn, jn = joinB p a b := ⟨_, rfl⟩
   rw [← hjn] at HS ⊢
   have J1 := JJ.below hb1
   have z1' : w1.cell? ⟨W.heap.size, 1, none⟩ = some (.slice vxa sl vxc) := J1.box.cell 1
   have hs1 := hb1.size
   obtain ⟨a5, n5, cap5, w5, happ5, c5, f5, hM5, J5⟩ := J1.oneL (by omega) (by omega) (by omega) (by omega) (by rw [List.length_take]; omega) jn
   have hS5 : Mods (fun j => j = W.heap.size) w5 (w5.setCell ⟨W.heap.size, 1, none⟩ (.slice a5 n5 cap5)) := (Mods.refl (fun j => j = W.heap.size) w5).setCell (p := ⟨W.heap.size, 1, none⟩) (fun _ => rfl) _
   have hbV1 := hbV.trans (hb1.mono hbV.size)
   have hb5z : Below W.heap.size W (w5.setCell ⟨W.heap.size, 1, none⟩ (.slice a5 n5 cap5)) := hbV1.trans ((hM5.below hbV1.size (fun k hk e => by have := (J1.rl.lt k e).1; omega)).trans (hS5.below (Nat.le_trans hbV1.size hM5.size) (fun k hk e => by omega)))
   have hs5 : W.heap.size + 1 ≤ (w5.setCell ⟨W.heap.size, 1, none⟩ (.slice a5 n5 cap5)).heap.size := by have := hM5.size; have := hS5.size; omega
   rw [← unhide HS] at J5
   have HE := hide (And.intro J5 (And.intro hb5z hs5))
   clear J5 hM5 hS5 hb5z hjn hb1' z1 q0 q1 q2
   go_wp2_with fail
   refine hK.out _ _ ((unhide HO) _ hb1) (fun hHeld => ?_)
   clear hK K
   try simp only [Act.put, List.setIfInBounds_toArray, List.set_cons_zero, List.set_cons_succ]
   refine take_x (some 10) 12 rfl rfl ?_
   refine wpAnyH_done (by kernel_rfl) ?_ _
   refine NoPanic.normal ?_
   go_wp2_with (at_builtin; refine wpList_append_run rfl (.tmp 46) (.tmp 48) 40 rfl _ _ rfl rfl happ5 ?_)
   go_roundg (s.loc.length - (k + 1))
   case measure => have := unhide HGK; omega
   case rel => exact ⟨k + 1, .slice a5 n5 cap5, by omega, rfl, by go_num, (unhide HE).1, (unhide HE).2.1, (unhide HE).2.2⟩
end Go.Proofs.YtiiokkllmchohaaGreat
