/- The document's answer: what an instruction takes and leaves. -/
import Derived.Test.YtiiokkllmchohaaGreatT01
import Derived.Test.YtiiokkllmchohaaGreatT31
namespace Go.Proofs.YtiiokkllmchohaaGreat
open Go.RowKit Go.Shelf
attribute [local go_sem ↓] Go.wp_at_zero Go.wp_at_succ
attribute [local go_sem] frz_drew
theorem blk_ints {S : Nat → Prop} [DecidablePred S] {V : World} {b : Nat} {t : TypeId} {l : List Int} (h : Blk V b t (l.map (Value.int .i64))) (hS : S b) (n : Nat) (hn : n = l.length) : SlAt 1 (GInt (sel S V)) (.slice (some ⟨b, 0, none⟩) n n) l := by
 subst hn
 refine ⟨some ⟨b, 0, none⟩, b, 0, l.length, rfl, Nat.le_refl _, ⟨fun _ => rfl, .inr (.inl rfl)⟩, fun j x hj => ?_⟩
 unfold GInt
 rw [sel_eq (show S (⟨b, 0 + j * 1, none⟩ : Addr).block from hS), show 0 + j * 1 = j by omega, h.cell, List.getElem?_map, hj]; rfl
def RwR (tk lv : List Int) (w w' : World) (e : Ending) : Prop := ∃ vt vl, e = .returned (.tuple #[vt, vl]) ∧ SlAt 1 (GInt (sel (fun k => w.heap.size ≤ k) w')) vt tk ∧ SlAt 1 (GInt (sel (fun k => w.heap.size ≤ k) w')) vl lv ∧ Below w.heap.size w w'
section
variable {w W : World}
theorem want_tl (hb : Below w.heap.size w W) (tk lv : List Int) (n k H : Nat) (hH : W.heap.size = H) (hn : n = tk.length) (hk : k = lv.length) :
  RwR tk lv w ((W.alloc (.cells (tk.map (Value.int .i64)).toArray 43)).alloc (.cells (lv.map (Value.int .i64)).toArray 43)) (.returned (.tuple #[.slice (some ⟨H, 0, none⟩) n n, .slice (some ⟨H + 1, 0, none⟩) k k])) := by
 subst hH
 have A := (Blk.new W (tk.map (Value.int .i64)).toArray 43).alloc (.cells (lv.map (Value.int .i64)).toArray 43)
 have C := Blk.new (W.alloc (.cells (tk.map (Value.int .i64)).toArray 43)) (lv.map (Value.int .i64)).toArray 43
 rw [World.size_alloc] at C
 have := hb.size
 exact ⟨_, _, rfl, blk_ints (S := fun k => w.heap.size ≤ k) A (by omega) n hn, blk_ints (S := fun k => w.heap.size ≤ k) C (by omega) k hk, (hb.alloc hb.size _).alloc (by simp; omega) _⟩
theorem want_lt (hb : Below w.heap.size w W) (tk lv : List Int) (n k H : Nat) (hH : W.heap.size = H) (hn : n = tk.length) (hk : k = lv.length) :
  RwR tk lv w ((W.alloc (.cells (lv.map (Value.int .i64)).toArray 43)).alloc (.cells (tk.map (Value.int .i64)).toArray 43)) (.returned (.tuple #[.slice (some ⟨H + 1, 0, none⟩) n n, .slice (some ⟨H, 0, none⟩) k k])) := by
 obtain ⟨vt, vl, he, h1, h2, h3⟩ := want_tl hb lv tk k n H hH hk hn
 cases he
 exact ⟨_, _, rfl, h2, h1, h3⟩
theorem want_t (hb : Below w.heap.size w W) (tk : List Int) (n H : Nat) (hH : W.heap.size = H) (hn : n = tk.length) :
  RwR tk [] w (W.alloc (.cells (tk.map (Value.int .i64)).toArray 43)) (.returned (.tuple #[.slice (some ⟨H, 0, none⟩) n n, .slice none 0 0])) := by
 subst hH
 have := hb.size
 exact ⟨_, _, rfl, blk_ints (S := fun k => w.heap.size ≤ k) (Blk.new W (tk.map (Value.int .i64)).toArray 43) (by omega) n hn, nil_ints, hb.alloc hb.size _⟩
theorem want_l (hb : Below w.heap.size w W) (lv : List Int) (n H : Nat) (hH : W.heap.size = H) (hn : n = lv.length) :
  RwR [] lv w (W.alloc (.cells (lv.map (Value.int .i64)).toArray 43)) (.returned (.tuple #[.slice none 0 0, .slice (some ⟨H, 0, none⟩) n n])) := by
 subst hH
 have := hb.size
 exact ⟨_, _, rfl, nil_ints, blk_ints (S := fun k => w.heap.size ≤ k) (Blk.new W (lv.map (Value.int .i64)).toArray 43) (by omega) n hn, hb.alloc hb.size _⟩
end
set_option maxHeartbeats 1000000 in
set_option maxRecDepth 100000 in
theorem rs_wants0 (p : List LClass) (vc : Value) (m : LMeth) (va vco vf : Value) (xa xb : Int) (w : World) (hp : RProg w vc p) (hv : GVals w.cell? m va vco vf) :
  Calls Tryz.prog 151 #[.agg #[vc], methV m va vco vf, .agg #[.int .i64 0, .int .i64 xa, .int .i64 xb]] w fun e w' => RwR [] [0] w w' e := by
 unfold methV
 obtain ⟨pa, _, _, pcap, rfl, _⟩ := hp
 obtain ⟨aa, _, _, acap, rfl, _⟩ := hv.1
 obtain ⟨ca, _, _, ccap, rfl, _⟩ := hv.2.1
 obtain ⟨fa, _, _, fcap, rfl, _⟩ := hv.2.2
 have hbel : Below w.heap.size w (((w.alloc (.cells #[.slice pa p.length pcap] 24)).alloc (.cells #[.int .i64 m.slot, .slice aa m.args.length acap, .int .i64 m.ret, .int .i64 m.locals, .int .i64 m.stack, .slice ca m.code.length ccap, .slice fa m.frames.length fcap] 63)).alloc (.cells #[.int .i64 0, .int .i64 xa, .int .i64 xb] 60)) := (box2_below _ _ _).alloc (by simp; omega) _
 have hsz : (((w.alloc (.cells #[.slice pa p.length pcap] 24)).alloc (.cells #[.int .i64 m.slot, .slice aa m.args.length acap, .int .i64 m.ret, .int .i64 m.locals, .int .i64 m.stack, .slice ca m.code.length ccap, .slice fa m.frames.length fcap] 63)).alloc (.cells #[.int .i64 0, .int .i64 xa, .int .i64 xb] 60)).heap.size = w.heap.size + 1 + 1 + 1 := by simp
 go_enter Tryz.func151, Tryz.ntmps151
 go_wp2_with fail
 go_ret2
 exact want_l hbel [0] 1 _ hsz rfl
set_option maxHeartbeats 1000000 in
set_option maxRecDepth 100000 in
theorem rs_wants2 (p : List LClass) (vc : Value) (m : LMeth) (va vco vf : Value) (xa xb : Int) (w : World) (hp : RProg w vc p) (hv : GVals w.cell? m va vco vf) :
  Calls Tryz.prog 151 #[.agg #[vc], methV m va vco vf, .agg #[.int .i64 2, .int .i64 xa, .int .i64 xb]] w fun e w' => RwR [-2] [] w w' e := by
 unfold methV
 obtain ⟨pa, _, _, pcap, rfl, _⟩ := hp
 obtain ⟨aa, _, _, acap, rfl, _⟩ := hv.1
 obtain ⟨ca, _, _, ccap, rfl, _⟩ := hv.2.1
 obtain ⟨fa, _, _, fcap, rfl, _⟩ := hv.2.2
 have hbel : Below w.heap.size w (((w.alloc (.cells #[.slice pa p.length pcap] 24)).alloc (.cells #[.int .i64 m.slot, .slice aa m.args.length acap, .int .i64 m.ret, .int .i64 m.locals, .int .i64 m.stack, .slice ca m.code.length ccap, .slice fa m.frames.length fcap] 63)).alloc (.cells #[.int .i64 2, .int .i64 xa, .int .i64 xb] 60)) := (box2_below _ _ _).alloc (by simp; omega) _
 have hsz : (((w.alloc (.cells #[.slice pa p.length pcap] 24)).alloc (.cells #[.int .i64 m.slot, .slice aa m.args.length acap, .int .i64 m.ret, .int .i64 m.locals, .int .i64 m.stack, .slice ca m.code.length ccap, .slice fa m.frames.length fcap] 63)).alloc (.cells #[.int .i64 2, .int .i64 xa, .int .i64 xb] 60)).heap.size = w.heap.size + 1 + 1 + 1 := by simp
 go_enter Tryz.func151, Tryz.ntmps151
 go_wp2_with fail
 go_ret2
 exact want_t hbel [-2] 1 _ hsz rfl
set_option maxHeartbeats 1000000 in
set_option maxRecDepth 100000 in
theorem rs_wants3 (p : List LClass) (vc : Value) (m : LMeth) (va vco vf : Value) (xa xb : Int) (w : World) (hp : RProg w vc p) (hv : GVals w.cell? m va vco vf) :
  Calls Tryz.prog 151 #[.agg #[vc], methV m va vco vf, .agg #[.int .i64 3, .int .i64 xa, .int .i64 xb]] w fun e w' => RwR [0, 0] [0] w w' e := by
 unfold methV
 obtain ⟨pa, _, _, pcap, rfl, _⟩ := hp
 obtain ⟨aa, _, _, acap, rfl, _⟩ := hv.1
 obtain ⟨ca, _, _, ccap, rfl, _⟩ := hv.2.1
 obtain ⟨fa, _, _, fcap, rfl, _⟩ := hv.2.2
 have hbel : Below w.heap.size w (((w.alloc (.cells #[.slice pa p.length pcap] 24)).alloc (.cells #[.int .i64 m.slot, .slice aa m.args.length acap, .int .i64 m.ret, .int .i64 m.locals, .int .i64 m.stack, .slice ca m.code.length ccap, .slice fa m.frames.length fcap] 63)).alloc (.cells #[.int .i64 3, .int .i64 xa, .int .i64 xb] 60)) := (box2_below _ _ _).alloc (by simp; omega) _
 have hsz : (((w.alloc (.cells #[.slice pa p.length pcap] 24)).alloc (.cells #[.int .i64 m.slot, .slice aa m.args.length acap, .int .i64 m.ret, .int .i64 m.locals, .int .i64 m.stack, .slice ca m.code.length ccap, .slice fa m.frames.length fcap] 63)).alloc (.cells #[.int .i64 3, .int .i64 xa, .int .i64 xb] 60)).heap.size = w.heap.size + 1 + 1 + 1 := by simp
 go_enter Tryz.func151, Tryz.ntmps151
 go_wp2_with fail
 go_ret2
 exact want_tl hbel [0, 0] [0] 2 1 _ hsz rfl rfl
set_option maxHeartbeats 1000000 in
set_option maxRecDepth 100000 in
theorem rs_wants4 (p : List LClass) (vc : Value) (m : LMeth) (va vco vf : Value) (xa xb : Int) (w : World) (hp : RProg w vc p) (hv : GVals w.cell? m va vco vf) :
  Calls Tryz.prog 151 #[.agg #[vc], methV m va vco vf, .agg #[.int .i64 4, .int .i64 xa, .int .i64 xb]] w fun e w' => RwR [0, 0] [0] w w' e := by
 unfold methV
 obtain ⟨pa, _, _, pcap, rfl, _⟩ := hp
 obtain ⟨aa, _, _, acap, rfl, _⟩ := hv.1
 obtain ⟨ca, _, _, ccap, rfl, _⟩ := hv.2.1
 obtain ⟨fa, _, _, fcap, rfl, _⟩ := hv.2.2
 have hbel : Below w.heap.size w (((w.alloc (.cells #[.slice pa p.length pcap] 24)).alloc (.cells #[.int .i64 m.slot, .slice aa m.args.length acap, .int .i64 m.ret, .int .i64 m.locals, .int .i64 m.stack, .slice ca m.code.length ccap, .slice fa m.frames.length fcap] 63)).alloc (.cells #[.int .i64 4, .int .i64 xa, .int .i64 xb] 60)) := (box2_below _ _ _).alloc (by simp; omega) _
 have hsz : (((w.alloc (.cells #[.slice pa p.length pcap] 24)).alloc (.cells #[.int .i64 m.slot, .slice aa m.args.length acap, .int .i64 m.ret, .int .i64 m.locals, .int .i64 m.stack, .slice ca m.code.length ccap, .slice fa m.frames.length fcap] 63)).alloc (.cells #[.int .i64 4, .int .i64 xa, .int .i64 xb] 60)).heap.size = w.heap.size + 1 + 1 + 1 := by simp
 go_enter Tryz.func151, Tryz.ntmps151
 go_wp2_with fail
 go_ret2
 exact want_tl hbel [0, 0] [0] 2 1 _ hsz rfl rfl
set_option maxHeartbeats 1000000 in
set_option maxRecDepth 100000 in
theorem rs_wants5 (p : List LClass) (vc : Value) (m : LMeth) (va vco vf : Value) (xa xb : Int) (w : World) (hp : RProg w vc p) (hv : GVals w.cell? m va vco vf) :
  Calls Tryz.prog 151 #[.agg #[vc], methV m va vco vf, .agg #[.int .i64 5, .int .i64 xa, .int .i64 xb]] w fun e w' => RwR [0, 0] [0] w w' e := by
 unfold methV
 obtain ⟨pa, _, _, pcap, rfl, _⟩ := hp
 obtain ⟨aa, _, _, acap, rfl, _⟩ := hv.1
 obtain ⟨ca, _, _, ccap, rfl, _⟩ := hv.2.1
 obtain ⟨fa, _, _, fcap, rfl, _⟩ := hv.2.2
 have hbel : Below w.heap.size w (((w.alloc (.cells #[.slice pa p.length pcap] 24)).alloc (.cells #[.int .i64 m.slot, .slice aa m.args.length acap, .int .i64 m.ret, .int .i64 m.locals, .int .i64 m.stack, .slice ca m.code.length ccap, .slice fa m.frames.length fcap] 63)).alloc (.cells #[.int .i64 5, .int .i64 xa, .int .i64 xb] 60)) := (box2_below _ _ _).alloc (by simp; omega) _
 have hsz : (((w.alloc (.cells #[.slice pa p.length pcap] 24)).alloc (.cells #[.int .i64 m.slot, .slice aa m.args.length acap, .int .i64 m.ret, .int .i64 m.locals, .int .i64 m.stack, .slice ca m.code.length ccap, .slice fa m.frames.length fcap] 63)).alloc (.cells #[.int .i64 5, .int .i64 xa, .int .i64 xb] 60)).heap.size = w.heap.size + 1 + 1 + 1 := by simp
 go_enter Tryz.func151, Tryz.ntmps151
 go_wp2_with fail
 go_ret2
 exact want_tl hbel [0, 0] [0] 2 1 _ hsz rfl rfl
set_option maxHeartbeats 1000000 in
set_option maxRecDepth 100000 in
theorem rs_wants6 (p : List LClass) (vc : Value) (m : LMeth) (va vco vf : Value) (xa xb : Int) (w : World) (hp : RProg w vc p) (hv : GVals w.cell? m va vco vf) :
  Calls Tryz.prog 151 #[.agg #[vc], methV m va vco vf, .agg #[.int .i64 6, .int .i64 xa, .int .i64 xb]] w fun e w' => RwR [0, 0] [0] w w' e := by
 unfold methV
 obtain ⟨pa, _, _, pcap, rfl, _⟩ := hp
 obtain ⟨aa, _, _, acap, rfl, _⟩ := hv.1
 obtain ⟨ca, _, _, ccap, rfl, _⟩ := hv.2.1
 obtain ⟨fa, _, _, fcap, rfl, _⟩ := hv.2.2
 have hbel : Below w.heap.size w (((w.alloc (.cells #[.slice pa p.length pcap] 24)).alloc (.cells #[.int .i64 m.slot, .slice aa m.args.length acap, .int .i64 m.ret, .int .i64 m.locals, .int .i64 m.stack, .slice ca m.code.length ccap, .slice fa m.frames.length fcap] 63)).alloc (.cells #[.int .i64 6, .int .i64 xa, .int .i64 xb] 60)) := (box2_below _ _ _).alloc (by simp; omega) _
 have hsz : (((w.alloc (.cells #[.slice pa p.length pcap] 24)).alloc (.cells #[.int .i64 m.slot, .slice aa m.args.length acap, .int .i64 m.ret, .int .i64 m.locals, .int .i64 m.stack, .slice ca m.code.length ccap, .slice fa m.frames.length fcap] 63)).alloc (.cells #[.int .i64 6, .int .i64 xa, .int .i64 xb] 60)).heap.size = w.heap.size + 1 + 1 + 1 := by simp
 go_enter Tryz.func151, Tryz.ntmps151
 go_wp2_with fail
 go_ret2
 exact want_tl hbel [0, 0] [0] 2 1 _ hsz rfl rfl
set_option maxHeartbeats 1000000 in
set_option maxRecDepth 100000 in
theorem rs_wants8 (p : List LClass) (vc : Value) (m : LMeth) (va vco vf : Value) (xa xb : Int) (w : World) (hp : RProg w vc p) (hv : GVals w.cell? m va vco vf) :
  Calls Tryz.prog 151 #[.agg #[vc], methV m va vco vf, .agg #[.int .i64 8, .int .i64 xa, .int .i64 xb]] w fun e w' => RwR [0] [] w w' e := by
 unfold methV
 obtain ⟨pa, _, _, pcap, rfl, _⟩ := hp
 obtain ⟨aa, _, _, acap, rfl, _⟩ := hv.1
 obtain ⟨ca, _, _, ccap, rfl, _⟩ := hv.2.1
 obtain ⟨fa, _, _, fcap, rfl, _⟩ := hv.2.2
 have hbel : Below w.heap.size w (((w.alloc (.cells #[.slice pa p.length pcap] 24)).alloc (.cells #[.int .i64 m.slot, .slice aa m.args.length acap, .int .i64 m.ret, .int .i64 m.locals, .int .i64 m.stack, .slice ca m.code.length ccap, .slice fa m.frames.length fcap] 63)).alloc (.cells #[.int .i64 8, .int .i64 xa, .int .i64 xb] 60)) := (box2_below _ _ _).alloc (by simp; omega) _
 have hsz : (((w.alloc (.cells #[.slice pa p.length pcap] 24)).alloc (.cells #[.int .i64 m.slot, .slice aa m.args.length acap, .int .i64 m.ret, .int .i64 m.locals, .int .i64 m.stack, .slice ca m.code.length ccap, .slice fa m.frames.length fcap] 63)).alloc (.cells #[.int .i64 8, .int .i64 xa, .int .i64 xb] 60)).heap.size = w.heap.size + 1 + 1 + 1 := by simp
 go_enter Tryz.func151, Tryz.ntmps151
 go_wp2_with fail
 go_ret2
 exact want_t hbel [0] 1 _ hsz rfl
set_option maxHeartbeats 1000000 in
set_option maxRecDepth 100000 in
theorem rs_wants19 (p : List LClass) (vc : Value) (m : LMeth) (va vco vf : Value) (xa xb : Int) (w : World) (hp : RProg w vc p) (hv : GVals w.cell? m va vco vf) :
  Calls Tryz.prog 151 #[.agg #[vc], methV m va vco vf, .agg #[.int .i64 19, .int .i64 xa, .int .i64 xb]] w fun e w' => RwR [0] [] w w' e := by
 unfold methV
 obtain ⟨pa, _, _, pcap, rfl, _⟩ := hp
 obtain ⟨aa, _, _, acap, rfl, _⟩ := hv.1
 obtain ⟨ca, _, _, ccap, rfl, _⟩ := hv.2.1
 obtain ⟨fa, _, _, fcap, rfl, _⟩ := hv.2.2
 have hbel : Below w.heap.size w (((w.alloc (.cells #[.slice pa p.length pcap] 24)).alloc (.cells #[.int .i64 m.slot, .slice aa m.args.length acap, .int .i64 m.ret, .int .i64 m.locals, .int .i64 m.stack, .slice ca m.code.length ccap, .slice fa m.frames.length fcap] 63)).alloc (.cells #[.int .i64 19, .int .i64 xa, .int .i64 xb] 60)) := (box2_below _ _ _).alloc (by simp; omega) _
 have hsz : (((w.alloc (.cells #[.slice pa p.length pcap] 24)).alloc (.cells #[.int .i64 m.slot, .slice aa m.args.length acap, .int .i64 m.ret, .int .i64 m.locals, .int .i64 m.stack, .slice ca m.code.length ccap, .slice fa m.frames.length fcap] 63)).alloc (.cells #[.int .i64 19, .int .i64 xa, .int .i64 xb] 60)).heap.size = w.heap.size + 1 + 1 + 1 := by simp
 go_enter Tryz.func151, Tryz.ntmps151
 go_wp2_with fail
 go_ret2
 exact want_t hbel [0] 1 _ hsz rfl
set_option maxHeartbeats 1000000 in
set_option maxRecDepth 100000 in
theorem rs_wants13 (p : List LClass) (vc : Value) (m : LMeth) (va vco vf : Value) (xa xb : Int) (w : World) (hp : RProg w vc p) (hv : GVals w.cell? m va vco vf) :
  Calls Tryz.prog 151 #[.agg #[vc], methV m va vco vf, .agg #[.int .i64 13, .int .i64 xa, .int .i64 xb]] w fun e w' => RwR [m.ret] [] w w' e := by
 unfold methV
 obtain ⟨pa, _, _, pcap, rfl, _⟩ := hp
 obtain ⟨aa, _, _, acap, rfl, _⟩ := hv.1
 obtain ⟨ca, _, _, ccap, rfl, _⟩ := hv.2.1
 obtain ⟨fa, _, _, fcap, rfl, _⟩ := hv.2.2
 have hbel : Below w.heap.size w (((w.alloc (.cells #[.slice pa p.length pcap] 24)).alloc (.cells #[.int .i64 m.slot, .slice aa m.args.length acap, .int .i64 m.ret, .int .i64 m.locals, .int .i64 m.stack, .slice ca m.code.length ccap, .slice fa m.frames.length fcap] 63)).alloc (.cells #[.int .i64 13, .int .i64 xa, .int .i64 xb] 60)) := (box2_below _ _ _).alloc (by simp; omega) _
 have hsz : (((w.alloc (.cells #[.slice pa p.length pcap] 24)).alloc (.cells #[.int .i64 m.slot, .slice aa m.args.length acap, .int .i64 m.ret, .int .i64 m.locals, .int .i64 m.stack, .slice ca m.code.length ccap, .slice fa m.frames.length fcap] 63)).alloc (.cells #[.int .i64 13, .int .i64 xa, .int .i64 xb] 60)).heap.size = w.heap.size + 1 + 1 + 1 := by simp
 go_enter Tryz.func151, Tryz.ntmps151
 go_wp2_with fail
 go_ret2
 exact want_t hbel [m.ret] 1 _ hsz rfl
set_option maxHeartbeats 1000000 in
set_option maxRecDepth 100000 in
theorem rs_wants14 (p : List LClass) (vc : Value) (m : LMeth) (va vco vf : Value) (xa xb : Int) (w : World) (hp : RProg w vc p) (hv : GVals w.cell? m va vco vf) :
  Calls Tryz.prog 151 #[.agg #[vc], methV m va vco vf, .agg #[.int .i64 14, .int .i64 xa, .int .i64 xb]] w fun e w' => RwR [2] [] w w' e := by
 unfold methV
 obtain ⟨pa, _, _, pcap, rfl, _⟩ := hp
 obtain ⟨aa, _, _, acap, rfl, _⟩ := hv.1
 obtain ⟨ca, _, _, ccap, rfl, _⟩ := hv.2.1
 obtain ⟨fa, _, _, fcap, rfl, _⟩ := hv.2.2
 have hbel : Below w.heap.size w (((w.alloc (.cells #[.slice pa p.length pcap] 24)).alloc (.cells #[.int .i64 m.slot, .slice aa m.args.length acap, .int .i64 m.ret, .int .i64 m.locals, .int .i64 m.stack, .slice ca m.code.length ccap, .slice fa m.frames.length fcap] 63)).alloc (.cells #[.int .i64 14, .int .i64 xa, .int .i64 xb] 60)) := (box2_below _ _ _).alloc (by simp; omega) _
 have hsz : (((w.alloc (.cells #[.slice pa p.length pcap] 24)).alloc (.cells #[.int .i64 m.slot, .slice aa m.args.length acap, .int .i64 m.ret, .int .i64 m.locals, .int .i64 m.stack, .slice ca m.code.length ccap, .slice fa m.frames.length fcap] 63)).alloc (.cells #[.int .i64 14, .int .i64 xa, .int .i64 xb] 60)).heap.size = w.heap.size + 1 + 1 + 1 := by simp
 go_enter Tryz.func151, Tryz.ntmps151
 go_wp2_with fail
 go_ret2
 exact want_t hbel [2] 1 _ hsz rfl
set_option maxHeartbeats 1000000 in
set_option maxRecDepth 100000 in
theorem rs_wants15 (p : List LClass) (vc : Value) (m : LMeth) (va vco vf : Value) (xa xb : Int) (w : World) (hp : RProg w vc p) (hv : GVals w.cell? m va vco vf) :
  Calls Tryz.prog 151 #[.agg #[vc], methV m va vco vf, .agg #[.int .i64 15, .int .i64 xa, .int .i64 xb]] w fun e w' => RwR [2] [-1, -1] w w' e := by
 unfold methV
 obtain ⟨pa, _, _, pcap, rfl, _⟩ := hp
 obtain ⟨aa, _, _, acap, rfl, _⟩ := hv.1
 obtain ⟨ca, _, _, ccap, rfl, _⟩ := hv.2.1
 obtain ⟨fa, _, _, fcap, rfl, _⟩ := hv.2.2
 have hbel : Below w.heap.size w (((w.alloc (.cells #[.slice pa p.length pcap] 24)).alloc (.cells #[.int .i64 m.slot, .slice aa m.args.length acap, .int .i64 m.ret, .int .i64 m.locals, .int .i64 m.stack, .slice ca m.code.length ccap, .slice fa m.frames.length fcap] 63)).alloc (.cells #[.int .i64 15, .int .i64 xa, .int .i64 xb] 60)) := (box2_below _ _ _).alloc (by simp; omega) _
 have hsz : (((w.alloc (.cells #[.slice pa p.length pcap] 24)).alloc (.cells #[.int .i64 m.slot, .slice aa m.args.length acap, .int .i64 m.ret, .int .i64 m.locals, .int .i64 m.stack, .slice ca m.code.length ccap, .slice fa m.frames.length fcap] 63)).alloc (.cells #[.int .i64 15, .int .i64 xa, .int .i64 xb] 60)).heap.size = w.heap.size + 1 + 1 + 1 := by simp
 go_enter Tryz.func151, Tryz.ntmps151
 go_wp2_with fail
 go_ret2
 exact want_tl hbel [2] [-1, -1] 1 2 _ hsz rfl rfl
set_option maxHeartbeats 1000000 in
set_option maxRecDepth 100000 in
theorem rs_wants16 (p : List LClass) (vc : Value) (m : LMeth) (va vco vf : Value) (xa xb : Int) (w : World) (hp : RProg w vc p) (hv : GVals w.cell? m va vco vf) :
  Calls Tryz.prog 151 #[.agg #[vc], methV m va vco vf, .agg #[.int .i64 16, .int .i64 xa, .int .i64 xb]] w fun e w' => RwR [] [1] w w' e := by
 unfold methV
 obtain ⟨pa, _, _, pcap, rfl, _⟩ := hp
 obtain ⟨aa, _, _, acap, rfl, _⟩ := hv.1
 obtain ⟨ca, _, _, ccap, rfl, _⟩ := hv.2.1
 obtain ⟨fa, _, _, fcap, rfl, _⟩ := hv.2.2
 have hbel : Below w.heap.size w (((w.alloc (.cells #[.slice pa p.length pcap] 24)).alloc (.cells #[.int .i64 m.slot, .slice aa m.args.length acap, .int .i64 m.ret, .int .i64 m.locals, .int .i64 m.stack, .slice ca m.code.length ccap, .slice fa m.frames.length fcap] 63)).alloc (.cells #[.int .i64 16, .int .i64 xa, .int .i64 xb] 60)) := (box2_below _ _ _).alloc (by simp; omega) _
 have hsz : (((w.alloc (.cells #[.slice pa p.length pcap] 24)).alloc (.cells #[.int .i64 m.slot, .slice aa m.args.length acap, .int .i64 m.ret, .int .i64 m.locals, .int .i64 m.stack, .slice ca m.code.length ccap, .slice fa m.frames.length fcap] 63)).alloc (.cells #[.int .i64 16, .int .i64 xa, .int .i64 xb] 60)).heap.size = w.heap.size + 1 + 1 + 1 := by simp
 go_enter Tryz.func151, Tryz.ntmps151
 go_wp2_with fail
 go_ret2
 exact want_l hbel [1] 1 _ hsz rfl
set_option maxHeartbeats 1000000 in
set_option maxRecDepth 100000 in
theorem rs_wants18 (p : List LClass) (vc : Value) (m : LMeth) (va vco vf : Value) (xa xb : Int) (w : World) (hp : RProg w vc p) (hv : GVals w.cell? m va vco vf) :
  Calls Tryz.prog 151 #[.agg #[vc], methV m va vco vf, .agg #[.int .i64 18, .int .i64 xa, .int .i64 xb]] w fun e w' => RwR [-1] [] w w' e := by
 unfold methV
 obtain ⟨pa, _, _, pcap, rfl, _⟩ := hp
 obtain ⟨aa, _, _, acap, rfl, _⟩ := hv.1
 obtain ⟨ca, _, _, ccap, rfl, _⟩ := hv.2.1
 obtain ⟨fa, _, _, fcap, rfl, _⟩ := hv.2.2
 have hbel : Below w.heap.size w (((w.alloc (.cells #[.slice pa p.length pcap] 24)).alloc (.cells #[.int .i64 m.slot, .slice aa m.args.length acap, .int .i64 m.ret, .int .i64 m.locals, .int .i64 m.stack, .slice ca m.code.length ccap, .slice fa m.frames.length fcap] 63)).alloc (.cells #[.int .i64 18, .int .i64 xa, .int .i64 xb] 60)) := (box2_below _ _ _).alloc (by simp; omega) _
 have hsz : (((w.alloc (.cells #[.slice pa p.length pcap] 24)).alloc (.cells #[.int .i64 m.slot, .slice aa m.args.length acap, .int .i64 m.ret, .int .i64 m.locals, .int .i64 m.stack, .slice ca m.code.length ccap, .slice fa m.frames.length fcap] 63)).alloc (.cells #[.int .i64 18, .int .i64 xa, .int .i64 xb] 60)).heap.size = w.heap.size + 1 + 1 + 1 := by simp
 go_enter Tryz.func151, Tryz.ntmps151
 go_wp2_with fail
 go_ret2
 exact want_t hbel [-1] 1 _ hsz rfl
set_option maxHeartbeats 1000000 in
set_option maxRecDepth 100000 in
theorem rs_wants20 (p : List LClass) (vc : Value) (m : LMeth) (va vco vf : Value) (xa xb : Int) (w : World) (hp : RProg w vc p) (hv : GVals w.cell? m va vco vf) :
  Calls Tryz.prog 151 #[.agg #[vc], methV m va vco vf, .agg #[.int .i64 20, .int .i64 xa, .int .i64 xb]] w fun e w' => RwR [2, 2] [-2, -1] w w' e := by
 unfold methV
 obtain ⟨pa, _, _, pcap, rfl, _⟩ := hp
 obtain ⟨aa, _, _, acap, rfl, _⟩ := hv.1
 obtain ⟨ca, _, _, ccap, rfl, _⟩ := hv.2.1
 obtain ⟨fa, _, _, fcap, rfl, _⟩ := hv.2.2
 have hbel : Below w.heap.size w (((w.alloc (.cells #[.slice pa p.length pcap] 24)).alloc (.cells #[.int .i64 m.slot, .slice aa m.args.length acap, .int .i64 m.ret, .int .i64 m.locals, .int .i64 m.stack, .slice ca m.code.length ccap, .slice fa m.frames.length fcap] 63)).alloc (.cells #[.int .i64 20, .int .i64 xa, .int .i64 xb] 60)) := (box2_below _ _ _).alloc (by simp; omega) _
 have hsz : (((w.alloc (.cells #[.slice pa p.length pcap] 24)).alloc (.cells #[.int .i64 m.slot, .slice aa m.args.length acap, .int .i64 m.ret, .int .i64 m.locals, .int .i64 m.stack, .slice ca m.code.length ccap, .slice fa m.frames.length fcap] 63)).alloc (.cells #[.int .i64 20, .int .i64 xa, .int .i64 xb] 60)).heap.size = w.heap.size + 1 + 1 + 1 := by simp
 go_enter Tryz.func151, Tryz.ntmps151
 go_wp2_with fail
 go_ret2
 exact want_tl hbel [2, 2] [-2, -1] 2 2 _ hsz rfl rfl
theorem RwR.drew {tk lv : List Int} {w V : World} {e : Ending} (h : RwR tk lv w V e) : RwR tk lv w V.drew e := by
 obtain ⟨vt, vl, he, h1, h2, h3⟩ := h
 have hk : GLe (sel (fun k => w.heap.size ≤ k) V) (sel (fun k => w.heap.size ≤ k) V.drew) := sel_mods (Mods.refl (fun _ => False) V).drew fun k _ hk => ⟨fun f => f, hk⟩
 exact ⟨vt, vl, he, ints_keep hk h1, ints_keep hk h2, h3.drew⟩
theorem drew_below {w : World} : Below w.heap.size w w.drew := (Below.refl _ _).drew
set_option maxHeartbeats 1000000 in
set_option maxRecDepth 100000 in
theorem rs_wants9 (p : List LClass) (vc : Value) (m : LMeth) (va vco vf : Value) (xa xb : Int) (w : World) (hp : RProg w vc p) (hv : GVals w.cell? m va vco vf) (ha : 0 ≤ xa) (ha2 : xa ≤ 4194304) :
  Calls Tryz.prog 151 #[.agg #[vc], methV m va vco vf, .agg #[.int .i64 9, .int .i64 xa, .int .i64 xb]] w fun e w' => RwR [] [xa + 3] w w' e := by
 unfold methV
 obtain ⟨pa, _, _, pcap, rfl, _⟩ := hp
 obtain ⟨aa, _, _, acap, rfl, _⟩ := hv.1
 obtain ⟨ca, _, _, ccap, rfl, _⟩ := hv.2.1
 obtain ⟨fa, _, _, fcap, rfl, _⟩ := hv.2.2
 have hbel : Below w.heap.size w (((w.alloc (.cells #[.slice pa p.length pcap] 24)).alloc (.cells #[.int .i64 m.slot, .slice aa m.args.length acap, .int .i64 m.ret, .int .i64 m.locals, .int .i64 m.stack, .slice ca m.code.length ccap, .slice fa m.frames.length fcap] 63)).alloc (.cells #[.int .i64 9, .int .i64 xa, .int .i64 xb] 60)) := (box2_below _ _ _).alloc (by simp; omega) _
 have hsz : (((w.alloc (.cells #[.slice pa p.length pcap] 24)).alloc (.cells #[.int .i64 m.slot, .slice aa m.args.length acap, .int .i64 m.ret, .int .i64 m.locals, .int .i64 m.stack, .slice ca m.code.length ccap, .slice fa m.frames.length fcap] 63)).alloc (.cells #[.int .i64 9, .int .i64 xa, .int .i64 xb] 60)).heap.size = w.heap.size + 1 + 1 + 1 := by simp
 have B0 := ((Blk.new w #[.slice pa p.length pcap] 24).alloc (.cells #[.int .i64 m.slot, .slice aa m.args.length acap, .int .i64 m.ret, .int .i64 m.locals, .int .i64 m.stack, .slice ca m.code.length ccap, .slice fa m.frames.length fcap] 63)).alloc (.cells #[.int .i64 9, .int .i64 xa, .int .i64 xb] 60)
 have B2 := Blk.new ((w.alloc (.cells #[.slice pa p.length pcap] 24)).alloc (.cells #[.int .i64 m.slot, .slice aa m.args.length acap, .int .i64 m.ret, .int .i64 m.locals, .int .i64 m.stack, .slice ca m.code.length ccap, .slice fa m.frames.length fcap] 63)) #[.int .i64 9, .int .i64 xa, .int .i64 xb] 60
 rw [World.size_alloc, World.size_alloc] at B2
 go_enter Tryz.func151, Tryz.ntmps151
 go_wp2_with fail
 generalize ((w.alloc _).alloc _).alloc _ = W at *
 have q1 : W.cell? ⟨w.heap.size + 1 + 1, 1, none⟩ = some (.int .i64 xa) := B2.cell 1
 have hw : IntKind.i64.wrap (3 + xa) = 3 + xa := by rw [IntKind.wrap_i64]; omega
 have HH := hide (fun U (hU : Below W.heap.size W U) => (B2.below hU B2.lt).cell 1)
 refine wp_region_noPanic ?_
 refine wp_region_held_drew (S := (fun w' => w'.cell? ⟨w.heap.size + 1 + 1, 1, none⟩ = some (.int .i64 xa))) (by kernel_rfl) ?_ (fun hHeld => ?_)
 ·exact q1
 refine take_x (some 6) 4 rfl rfl ?_
 refine take_x (some 32) 0 rfl rfl ?_
 refine take_x (some 33) 1 rfl rfl ?_
 refine take_x (some 34) 2 rfl rfl ?_
 refine wpAnyH_ready (rs := [3]) (by kernel_rfl) (by simp) ?_
 refine AllReadyH.cons rfl (fun K hK => ?_) AllReadyH.nil
 go_simp
 refine hK.out _ _ ((unhide HH) _ (box_below W _).drew) (fun hHeld => ?_)
 clear hK K
 try simp only [Act.put, List.setIfInBounds_toArray, List.set_cons_zero, List.set_cons_succ]
 refine take_x (some 7) 5 rfl rfl ?_
 refine wpAnyH_done (by kernel_rfl) ?_ _
 refine NoPanic.normal ?_
 go_wp2_with fail
 go_ret2
 rw [Int.add_comm xa 3]
 exact (want_l hbel [3 + xa] 1 _ hsz rfl).drew
set_option maxHeartbeats 1000000 in
set_option maxRecDepth 100000 in
theorem rs_wants17 (p : List LClass) (vc : Value) (m : LMeth) (va vco vf : Value) (xa xb : Int) (w : World) (hp : RProg w vc p) (hv : GVals w.cell? m va vco vf) (ha : 0 ≤ xa) (ha2 : xa ≤ 4194304) :
  Calls Tryz.prog 151 #[.agg #[vc], methV m va vco vf, .agg #[.int .i64 17, .int .i64 xa, .int .i64 xb]] w fun e w' => RwR [-1] [xa + 3] w w' e := by
 unfold methV
 obtain ⟨pa, _, _, pcap, rfl, _⟩ := hp
 obtain ⟨aa, _, _, acap, rfl, _⟩ := hv.1
 obtain ⟨ca, _, _, ccap, rfl, _⟩ := hv.2.1
 obtain ⟨fa, _, _, fcap, rfl, _⟩ := hv.2.2
 have hbel : Below w.heap.size w (((w.alloc (.cells #[.slice pa p.length pcap] 24)).alloc (.cells #[.int .i64 m.slot, .slice aa m.args.length acap, .int .i64 m.ret, .int .i64 m.locals, .int .i64 m.stack, .slice ca m.code.length ccap, .slice fa m.frames.length fcap] 63)).alloc (.cells #[.int .i64 17, .int .i64 xa, .int .i64 xb] 60)) := (box2_below _ _ _).alloc (by simp; omega) _
 have hsz : (((w.alloc (.cells #[.slice pa p.length pcap] 24)).alloc (.cells #[.int .i64 m.slot, .slice aa m.args.length acap, .int .i64 m.ret, .int .i64 m.locals, .int .i64 m.stack, .slice ca m.code.length ccap, .slice fa m.frames.length fcap] 63)).alloc (.cells #[.int .i64 17, .int .i64 xa, .int .i64 xb] 60)).heap.size = w.heap.size + 1 + 1 + 1 := by simp
 have B0 := ((Blk.new w #[.slice pa p.length pcap] 24).alloc (.cells #[.int .i64 m.slot, .slice aa m.args.length acap, .int .i64 m.ret, .int .i64 m.locals, .int .i64 m.stack, .slice ca m.code.length ccap, .slice fa m.frames.length fcap] 63)).alloc (.cells #[.int .i64 17, .int .i64 xa, .int .i64 xb] 60)
 have B2 := Blk.new ((w.alloc (.cells #[.slice pa p.length pcap] 24)).alloc (.cells #[.int .i64 m.slot, .slice aa m.args.length acap, .int .i64 m.ret, .int .i64 m.locals, .int .i64 m.stack, .slice ca m.code.length ccap, .slice fa m.frames.length fcap] 63)) #[.int .i64 17, .int .i64 xa, .int .i64 xb] 60
 rw [World.size_alloc, World.size_alloc] at B2
 go_enter Tryz.func151, Tryz.ntmps151
 go_wp2_with fail
 generalize ((w.alloc _).alloc _).alloc _ = W at *
 have q1 : W.cell? ⟨w.heap.size + 1 + 1, 1, none⟩ = some (.int .i64 xa) := B2.cell 1
 have hw : IntKind.i64.wrap (3 + xa) = 3 + xa := by rw [IntKind.wrap_i64]; omega
 have HH := hide (fun U (hU : Below W.heap.size W U) => (B2.below hU B2.lt).cell 1)
 have hd := (box_below W (.cells #[.int .i64 (-1)] 43))
 have hd' := (box_below W (.cells #[.int .i64 (3 + xa)] 43))
 refine wp_region_noPanic ?_
 refine wp_region_held_drew (S := (fun w' => w'.cell? ⟨w.heap.size + 1 + 1, 1, none⟩ = some (.int .i64 xa))) (by kernel_rfl) ?_ (fun hHeld => ?_)
 ·exact q1
 refine take_x (some 122) 1 rfl rfl ?_
 refine take_x (some 123) 2 rfl rfl ?_
 refine take_x (some 124) 3 rfl rfl ?_
 refine wpAnyH_ready (rs := [0, 4]) (by kernel_rfl) (by simp) ?_
 refine AllReadyH.cons rfl (fun K hK => ?_) (AllReadyH.cons rfl (fun K hK => ?_) AllReadyH.nil)
 ·go_simp
  refine hK.out _ _ ((unhide HH) _ hd.drew) (fun hHeld => ?_)
  clear hK K
  try simp only [Act.put, List.setIfInBounds_toArray, List.set_cons_zero, List.set_cons_succ]
  refine take_x (some 6) 5 rfl rfl ?_
  refine wpAnyH_ready (rs := [4]) (by kernel_rfl) (by simp) ?_
  refine AllReadyH.cons rfl (fun K hK => ?_) AllReadyH.nil
  go_simp
  refine hK.out _ _ ((unhide HH) _ (hd.alloc hd.size _).drew) (fun hHeld => ?_)
  clear hK K
  try simp only [Act.put, List.setIfInBounds_toArray, List.set_cons_zero, List.set_cons_succ]
  refine take_x (some 7) 6 rfl rfl ?_
  refine wpAnyH_done (by kernel_rfl) ?_ _
  refine NoPanic.normal ?_
  go_wp2_with fail
  go_ret2
  rw [Int.add_comm xa 3]
  exact (want_tl hbel [-1] [3 + xa] 1 1 _ hsz rfl rfl).drew
 ·go_simp
  refine hK.out _ _ ((unhide HH) _ hd'.drew) (fun hHeld => ?_)
  clear hK K
  try simp only [Act.put, List.setIfInBounds_toArray, List.set_cons_zero, List.set_cons_succ]
  refine wpAnyH_ready (rs := [0]) (by kernel_rfl) (by simp) ?_
  refine AllReadyH.cons rfl (fun K hK => ?_) AllReadyH.nil
  go_simp
  refine hK.out _ _ ((unhide HH) _ (hd'.alloc hd'.size _).drew) (fun hHeld => ?_)
  clear hK K
  try simp only [Act.put, List.setIfInBounds_toArray, List.set_cons_zero, List.set_cons_succ]
  refine take_x (some 6) 5 rfl rfl ?_
  refine take_x (some 7) 6 rfl rfl ?_
  refine wpAnyH_done (by kernel_rfl) ?_ _
  refine NoPanic.normal ?_
  go_wp2_with fail
  go_ret2
  rw [Int.add_comm xa 3]
  exact (want_lt hbel [-1] [3 + xa] 1 1 _ hsz rfl rfl).drew
theorem want_blk {w V : World} {b1 b2 n k : Nat} {t1 t2 : TypeId} {tk lv : List Int} (hb : Below w.heap.size w V) (h1 : Blk V b1 t1 (tk.map (Value.int .i64))) (h2 : Blk V b2 t2 (lv.map (Value.int .i64))) (l1 : w.heap.size ≤ b1) (l2 : w.heap.size ≤ b2) (hn : n = tk.length) (hk : k = lv.length) :
  RwR tk lv w V (.returned (.tuple #[.slice (some ⟨b1, 0, none⟩) n n, .slice (some ⟨b2, 0, none⟩) k k])) :=
 ⟨_, _, rfl, blk_ints (S := fun k => w.heap.size ≤ k) h1 l1 n hn, blk_ints (S := fun k => w.heap.size ≤ k) h2 l2 k hk, hb⟩
theorem field_at {p : List LClass} {c k : Nat} {w : World} {B : Nat} {v : Value} (h : w.ownsRow B 43 1 v (fieldsOf p c).length ((fieldsOf p c).map (Value.int .i64))) (hk : (k : Int) < ((fieldsOf p c).length : Int)) :
  ∃ g cap, v = .slice (some ⟨g, 0, none⟩) (fieldsOf p c).length cap ∧ w.cell? ⟨g, k, none⟩ = some (.int .i64 (fieldT p c k)) := by
 obtain ⟨g, cap, h1, _, _, h4⟩ := own_read h (by omega)
 refine ⟨g, cap, h1, ?_⟩
 rw [h4 k (by omega), List.getElem?_map, List.getElem?_eq_getElem (by omega)]
 unfold fieldT
 rw [Int.toNat_natCast, List.getD_eq_getElem?_getD, List.getElem?_eq_getElem (by omega)]
 rfl

set_option maxHeartbeats 1000000 in
set_option maxRecDepth 100000 in
theorem rs_wants11 (p : List LClass) (vc : Value) (m : LMeth) (va vco vf : Value) (xa xb : Int) (w : World) (hp : RProg w vc p) (hv : GVals w.cell? m va vco vf) (hs : SupOk p p.length) (hz : szProg p ≤ 4194304) (ha : 0 ≤ xa) (ha2 : xa < (p.length : Int)) (hb : 0 ≤ xb) (hb2 : xb < ((fieldsOf p xa).length : Int)) :
  Calls Tryz.prog 151 #[.agg #[vc], methV m va vco vf, .agg #[.int .i64 11, .int .i64 xa, .int .i64 xb]] w fun e w' => RwR [xa + 3, fieldT p xa xb] [] w w' e := by
 unfold methV
 have HP := hide hp
 obtain ⟨pa, _, _, pcap, rfl, _⟩ := hp
 obtain ⟨aa, _, _, acap, rfl, _⟩ := hv.1
 obtain ⟨ca, _, _, ccap, rfl, _⟩ := hv.2.1
 obtain ⟨fa, _, _, fcap, rfl, _⟩ := hv.2.2
 have hbel : Below w.heap.size w (((w.alloc (.cells #[.slice pa p.length pcap] 24)).alloc (.cells #[.int .i64 m.slot, .slice aa m.args.length acap, .int .i64 m.ret, .int .i64 m.locals, .int .i64 m.stack, .slice ca m.code.length ccap, .slice fa m.frames.length fcap] 63)).alloc (.cells #[.int .i64 11, .int .i64 xa, .int .i64 xb] 60)) := (box2_below _ _ _).alloc (by simp; omega) _
 have hsz : (((w.alloc (.cells #[.slice pa p.length pcap] 24)).alloc (.cells #[.int .i64 m.slot, .slice aa m.args.length acap, .int .i64 m.ret, .int .i64 m.locals, .int .i64 m.stack, .slice ca m.code.length ccap, .slice fa m.frames.length fcap] 63)).alloc (.cells #[.int .i64 11, .int .i64 xa, .int .i64 xb] 60)).heap.size = w.heap.size + 1 + 1 + 1 := by simp
 have B0 := ((Blk.new w #[.slice pa p.length pcap] 24).alloc (.cells #[.int .i64 m.slot, .slice aa m.args.length acap, .int .i64 m.ret, .int .i64 m.locals, .int .i64 m.stack, .slice ca m.code.length ccap, .slice fa m.frames.length fcap] 63)).alloc (.cells #[.int .i64 11, .int .i64 xa, .int .i64 xb] 60)
 have B2 := Blk.new ((w.alloc (.cells #[.slice pa p.length pcap] 24)).alloc (.cells #[.int .i64 m.slot, .slice aa m.args.length acap, .int .i64 m.ret, .int .i64 m.locals, .int .i64 m.stack, .slice ca m.code.length ccap, .slice fa m.frames.length fcap] 63)) #[.int .i64 11, .int .i64 xa, .int .i64 xb] 60
 rw [World.size_alloc, World.size_alloc] at B2
 go_enter Tryz.func151, Tryz.ntmps151
 go_wp2_with fail
 generalize ((w.alloc _).alloc _).alloc _ = W at *
 have hpl : p.length ≤ 4194304 := Nat.le_trans (szProg_len p) hz
 obtain ⟨ca', rfl⟩ := Int.eq_ofNat_of_zero_le ha
 obtain ⟨k, rfl⟩ := Int.eq_ofNat_of_zero_le hb
 have q0 : W.cell? ⟨w.heap.size, 0, none⟩ = some (.slice pa p.length pcap) := B0.cell 0
 have q1 : W.cell? ⟨w.heap.size + 1 + 1, 1, none⟩ = some (.int .i64 (ca' : Int)) := B2.cell 1
 have q2 : W.cell? ⟨w.heap.size + 1 + 1, 2, none⟩ = some (.int .i64 (k : Int)) := B2.cell 2
 have hw : IntKind.i64.wrap (3 + (ca' : Int)) = 3 + (ca' : Int) := by rw [IntKind.wrap_i64]; omega
 have HH := hide (fun U (hU : Below W.heap.size W U) => And.intro ((B0.below hU B0.lt).cell 0) (And.intro ((B2.below hU B2.lt).cell 1) ((B2.below hU B2.lt).cell 2)))
 refine wp_region_noPanic ?_
 refine wp_region_held_drew (S := (fun w' => w'.cell? ⟨w.heap.size, 0, none⟩ = some (.slice pa p.length pcap) ∧ w'.cell? ⟨w.heap.size + 1 + 1, 1, none⟩ = some (.int .i64 (ca' : Int)) ∧ w'.cell? ⟨w.heap.size + 1 + 1, 2, none⟩ = some (.int .i64 (k : Int)))) (by kernel_rfl) ?_ (fun hHeld => ?_)
 ·exact ⟨q0, q1, q2⟩
 refine take_x (some 53) 0 rfl rfl ?_
 refine take_x (some 54) 1 rfl rfl ?_
 refine take_x (some 55) 2 rfl rfl ?_
 refine take_x (some 56) 3 rfl rfl ?_
 refine take_x (some 57) 4 rfl rfl ?_
 refine take_x (some 58) 5 rfl rfl ?_
 refine take_x (some 60) 7 rfl rfl ?_
 refine take_x (some 61) 8 rfl rfl ?_
 refine wpAnyH_ready (rs := [6]) (by kernel_rfl) (by simp) ?_
 refine AllReadyH.cons rfl (fun K hK => ?_) AllReadyH.nil
 go_simp
 refine (ref_fields p p.length hs (Nat.le_refl _) hz ca' _ _ (prog_keep (Keeps.of_below drew_below) (prog_keep (Keeps.of_below hbel) (unhide HP))) (by omega)).mono ?_
 rintro e w1 ⟨v', rfl, hO, hb1⟩
 have hb1' : Below W.heap.size W w1 := ⟨hb1.os, hb1.tape, hb1.output, hb1.size, hb1.block⟩
 obtain ⟨g, gcap, rfl, y0⟩ := field_at hO hb2
 have k0 : (0 : Int) ≤ (k : Int) := by omega
 have HW1 := hide (hbel.trans (hb1'.mono hbel.size))
 obtain ⟨ft, hft⟩ : ∃ ft, ft = fieldT p (ca' : Int) (k : Int) := ⟨_, rfl⟩
 rw [← hft] at y0
 have HFT := hide hft
 clear hft
 generalize (fieldsOf p (ca' : Int)).length = fl at *
 clear hO hb1
 go_wp2_with fail
 refine hK.out _ _ ((unhide HH) _ hb1') (fun hHeld => ?_)
 clear hK K
 try simp only [Act.put, List.setIfInBounds_toArray, List.set_cons_zero, List.set_cons_succ]
 refine take_x (some 62) 9 rfl rfl ?_
 refine wpAnyH_ready (rs := [10]) (by kernel_rfl) (by simp) ?_
 refine AllReadyH.cons rfl (fun K hK => ?_) AllReadyH.nil
 go_simp
 refine hK.out _ _ ((unhide HH) _ hb1') (fun hHeld => ?_)
 clear hK K
 try simp only [Act.put, List.setIfInBounds_toArray, List.set_cons_zero, List.set_cons_succ]
 refine wpAnyH_ready (rs := [11]) (by kernel_rfl) (by simp) ?_
 refine AllReadyH.cons rfl (fun K hK => ?_) AllReadyH.nil
 go_simp
 refine hK.out _ _ ((unhide HH) _ (hb1'.alloc hb1'.size _)) (fun hHeld => ?_)
 clear hK K
 try simp only [Act.put, List.setIfInBounds_toArray, List.set_cons_zero, List.set_cons_succ]
 refine take_x (some 6) 12 rfl rfl ?_
 refine take_x (some 7) 13 rfl rfl ?_
 refine wpAnyH_done (by kernel_rfl) ?_ _
 refine NoPanic.normal ?_
 go_wp2_with fail
 go_ret2
 rw [Int.add_comm (ca' : Int) 3, ← unhide HFT]
 exact want_t (unhide HW1) [3 + (ca' : Int), ft] 2 _ rfl rfl
set_option maxHeartbeats 1000000 in
set_option maxRecDepth 100000 in
theorem rs_wants10 (p : List LClass) (vc : Value) (m : LMeth) (va vco vf : Value) (xa xb : Int) (w : World) (hp : RProg w vc p) (hv : GVals w.cell? m va vco vf) (hs : SupOk p p.length) (hz : szProg p ≤ 4194304) (ha : 0 ≤ xa) (ha2 : xa < (p.length : Int)) (hb : 0 ≤ xb) (hb2 : xb < ((fieldsOf p xa).length : Int)) :
  Calls Tryz.prog 151 #[.agg #[vc], methV m va vco vf, .agg #[.int .i64 10, .int .i64 xa, .int .i64 xb]] w fun e w' => RwR [xa + 3] [fieldT p xa xb] w w' e := by
 unfold methV
 have HP := hide hp
 obtain ⟨pa, _, _, pcap, rfl, _⟩ := hp
 obtain ⟨aa, _, _, acap, rfl, _⟩ := hv.1
 obtain ⟨ca, _, _, ccap, rfl, _⟩ := hv.2.1
 obtain ⟨fa, _, _, fcap, rfl, _⟩ := hv.2.2
 have hbel : Below w.heap.size w (((w.alloc (.cells #[.slice pa p.length pcap] 24)).alloc (.cells #[.int .i64 m.slot, .slice aa m.args.length acap, .int .i64 m.ret, .int .i64 m.locals, .int .i64 m.stack, .slice ca m.code.length ccap, .slice fa m.frames.length fcap] 63)).alloc (.cells #[.int .i64 10, .int .i64 xa, .int .i64 xb] 60)) := (box2_below _ _ _).alloc (by simp; omega) _
 have hsz : (((w.alloc (.cells #[.slice pa p.length pcap] 24)).alloc (.cells #[.int .i64 m.slot, .slice aa m.args.length acap, .int .i64 m.ret, .int .i64 m.locals, .int .i64 m.stack, .slice ca m.code.length ccap, .slice fa m.frames.length fcap] 63)).alloc (.cells #[.int .i64 10, .int .i64 xa, .int .i64 xb] 60)).heap.size = w.heap.size + 1 + 1 + 1 := by simp
 have B0 := ((Blk.new w #[.slice pa p.length pcap] 24).alloc (.cells #[.int .i64 m.slot, .slice aa m.args.length acap, .int .i64 m.ret, .int .i64 m.locals, .int .i64 m.stack, .slice ca m.code.length ccap, .slice fa m.frames.length fcap] 63)).alloc (.cells #[.int .i64 10, .int .i64 xa, .int .i64 xb] 60)
 have B2 := Blk.new ((w.alloc (.cells #[.slice pa p.length pcap] 24)).alloc (.cells #[.int .i64 m.slot, .slice aa m.args.length acap, .int .i64 m.ret, .int .i64 m.locals, .int .i64 m.stack, .slice ca m.code.length ccap, .slice fa m.frames.length fcap] 63)) #[.int .i64 10, .int .i64 xa, .int .i64 xb] 60
 rw [World.size_alloc, World.size_alloc] at B2
 go_enter Tryz.func151, Tryz.ntmps151
 go_wp2_with fail
 generalize ((w.alloc _).alloc _).alloc _ = W at *
 have hpl : p.length ≤ 4194304 := Nat.le_trans (szProg_len p) hz
 obtain ⟨ca', rfl⟩ := Int.eq_ofNat_of_zero_le ha
 obtain ⟨k, rfl⟩ := Int.eq_ofNat_of_zero_le hb
 have q0 : W.cell? ⟨w.heap.size, 0, none⟩ = some (.slice pa p.length pcap) := B0.cell 0
 have q1 : W.cell? ⟨w.heap.size + 1 + 1, 1, none⟩ = some (.int .i64 (ca' : Int)) := B2.cell 1
 have q2 : W.cell? ⟨w.heap.size + 1 + 1, 2, none⟩ = some (.int .i64 (k : Int)) := B2.cell 2
 have hw : IntKind.i64.wrap (3 + (ca' : Int)) = 3 + (ca' : Int) := by rw [IntKind.wrap_i64]; omega
 have HH := hide (fun U (hU : Below W.heap.size W U) => And.intro ((B0.below hU B0.lt).cell 0) (And.intro ((B2.below hU B2.lt).cell 1) ((B2.below hU B2.lt).cell 2)))
 refine wp_region_noPanic ?_
 refine wp_region_held_drew (S := (fun w' => w'.cell? ⟨w.heap.size, 0, none⟩ = some (.slice pa p.length pcap) ∧ w'.cell? ⟨w.heap.size + 1 + 1, 1, none⟩ = some (.int .i64 (ca' : Int)) ∧ w'.cell? ⟨w.heap.size + 1 + 1, 2, none⟩ = some (.int .i64 (k : Int)))) (by kernel_rfl) ?_ (fun hHeld => ?_)
 ·exact ⟨q0, q1, q2⟩
 refine take_x (some 38) 0 rfl rfl ?_
 refine take_x (some 39) 1 rfl rfl ?_
 refine take_x (some 40) 2 rfl rfl ?_
 refine take_x (some 42) 4 rfl rfl ?_
 refine take_x (some 43) 5 rfl rfl ?_
 refine take_x (some 44) 6 rfl rfl ?_
 refine take_x (some 46) 8 rfl rfl ?_
 refine take_x (some 47) 9 rfl rfl ?_
 have hsW := hbel.size
 refine wpAnyH_ready (rs := [3, 7]) (by kernel_rfl) (by simp) ?_
 refine AllReadyH.cons rfl (fun K hK => ?_) (AllReadyH.cons rfl (fun K hK => ?_) AllReadyH.nil)
 ·go_simp
  have hbU : Below W.heap.size W (W.alloc (.cells #[.int .i64 (3 + (ca' : Int))] 43)).drew := (box_below W _).drew
  have A1 : Blk (W.alloc (.cells #[.int .i64 (3 + (ca' : Int))] 43)).drew W.heap.size 43 [.int .i64 (3 + (ca' : Int))] := (Blk.new W _ _).drew
  refine hK.out _ _ ((unhide HH) _ hbU) (fun hHeld => ?_)
  clear hK K
  try simp only [Act.put, List.setIfInBounds_toArray, List.set_cons_zero, List.set_cons_succ]
  generalize (W.alloc _).drew = U at *
  refine wpAnyH_ready (rs := [7]) (by kernel_rfl) (by simp) ?_
  refine AllReadyH.cons rfl (fun K hK => ?_) AllReadyH.nil
  go_simp
  refine (ref_fields p p.length hs (Nat.le_refl _) hz ca' _ _ (prog_keep (Keeps.of_below hbU) (prog_keep (Keeps.of_below hbel) (unhide HP))) (by omega)).mono ?_
  rintro e w1 ⟨v', rfl, hO, hb1⟩
  have hb1' : Below W.heap.size W w1 := hbU.trans (hb1.mono hbU.size)
  have hb1k := hb1
  obtain ⟨g, gcap, rfl, y0⟩ := field_at hO hb2
  have k0 : (0 : Int) ≤ (k : Int) := by omega
  have HW1 := hide (hbel.trans (hb1'.mono hbel.size))
  obtain ⟨ft, hft⟩ : ∃ ft, ft = fieldT p (ca' : Int) (k : Int) := ⟨_, rfl⟩
  rw [← hft] at y0
  have HFT := hide hft
  clear hft
  generalize (fieldsOf p (ca' : Int)).length = fl at *
  clear hO hb1
  have A2 := A1.below hb1k A1.lt
  go_wp2_with fail
  refine hK.out _ _ ((unhide HH) _ hb1') (fun hHeld => ?_)
  clear hK K
  try simp only [Act.put, List.setIfInBounds_toArray, List.set_cons_zero, List.set_cons_succ]
  refine take_x (some 6) 13 rfl rfl ?_
  refine take_x (some 48) 10 rfl rfl ?_
  refine wpAnyH_ready (rs := [11]) (by kernel_rfl) (by simp) ?_
  refine AllReadyH.cons rfl (fun K hK => ?_) AllReadyH.nil
  go_simp
  refine hK.out _ _ ((unhide HH) _ hb1') (fun hHeld => ?_)
  clear hK K
  try simp only [Act.put, List.setIfInBounds_toArray, List.set_cons_zero, List.set_cons_succ]
  refine wpAnyH_ready (rs := [12]) (by kernel_rfl) (by simp) ?_
  refine AllReadyH.cons rfl (fun K hK => ?_) AllReadyH.nil
  go_simp
  refine hK.out _ _ ((unhide HH) _ (hb1'.alloc hb1'.size _)) (fun hHeld => ?_)
  clear hK K
  try simp only [Act.put, List.setIfInBounds_toArray, List.set_cons_zero, List.set_cons_succ]
  refine take_x (some 7) 14 rfl rfl ?_
  refine wpAnyH_done (by kernel_rfl) ?_ _
  refine NoPanic.normal ?_
  go_wp2_with fail
  go_ret2
  rw [Int.add_comm (ca' : Int) 3, ← unhide HFT]
  have hs1 := hb1'.size
  rw [hsz] at A2
  exact want_blk ((unhide HW1).alloc (unhide HW1).size _) (A2.alloc (.cells #[.int .i64 ft] 43)) (Blk.new w1 #[.int .i64 ft] 43) (tk := [3 + (ca' : Int)]) (lv := [ft]) (by omega) (by omega) rfl rfl
 ·go_simp
  have hbU : Below W.heap.size W W.drew := drew_below
  refine (ref_fields p p.length hs (Nat.le_refl _) hz ca' _ _ (prog_keep (Keeps.of_below hbU) (prog_keep (Keeps.of_below hbel) (unhide HP))) (by omega)).mono ?_
  rintro e w1 ⟨v', rfl, hO, hb1⟩
  have hb1' : Below W.heap.size W w1 := hbU.trans (hb1.mono hbU.size)
  have hb1k := hb1
  obtain ⟨g, gcap, rfl, y0⟩ := field_at hO hb2
  have k0 : (0 : Int) ≤ (k : Int) := by omega
  have HW1 := hide (hbel.trans (hb1'.mono hbel.size))
  obtain ⟨ft, hft⟩ : ∃ ft, ft = fieldT p (ca' : Int) (k : Int) := ⟨_, rfl⟩
  rw [← hft] at y0
  have HFT := hide hft
  clear hft
  generalize (fieldsOf p (ca' : Int)).length = fl at *
  clear hO hb1
  have hs1 := hb1'.size
  go_wp2_with fail
  refine hK.out _ _ ((unhide HH) _ hb1') (fun hHeld => ?_)
  clear hK K
  try simp only [Act.put, List.setIfInBounds_toArray, List.set_cons_zero, List.set_cons_succ]
  refine take_x (some 48) 10 rfl rfl ?_
  refine wpAnyH_ready (rs := [3, 11]) (by kernel_rfl) (by simp) ?_
  refine AllReadyH.cons rfl (fun K hK => ?_) (AllReadyH.cons rfl (fun K hK => ?_) AllReadyH.nil)
  ·go_simp
   have y1 : (w1.alloc (.cells #[.int .i64 (3 + (ca' : Int))] 43)).cell? ⟨g, k, none⟩ = some (.int .i64 ft) := Keeps.of_below (box_below w1 _) _ _ y0
   refine hK.out _ _ ((unhide HH) _ (hb1'.alloc hb1'.size _)) (fun hHeld => ?_)
   clear hK K
   try simp only [Act.put, List.setIfInBounds_toArray, List.set_cons_zero, List.set_cons_succ]
   refine take_x (some 6) 13 rfl rfl ?_
   refine wpAnyH_ready (rs := [11]) (by kernel_rfl) (by simp) ?_
   refine AllReadyH.cons rfl (fun K hK => ?_) AllReadyH.nil
   go_simp
   refine hK.out _ _ ((unhide HH) _ (hb1'.alloc hb1'.size _)) (fun hHeld => ?_)
   clear hK K
   try simp only [Act.put, List.setIfInBounds_toArray, List.set_cons_zero, List.set_cons_succ]
   refine wpAnyH_ready (rs := [12]) (by kernel_rfl) (by simp) ?_
   refine AllReadyH.cons rfl (fun K hK => ?_) AllReadyH.nil
   go_simp
   refine hK.out _ _ ((unhide HH) _ ((hb1'.alloc hb1'.size _).alloc (by simp; omega) _)) (fun hHeld => ?_)
   clear hK K
   try simp only [Act.put, List.setIfInBounds_toArray, List.set_cons_zero, List.set_cons_succ]
   refine take_x (some 7) 14 rfl rfl ?_
   refine wpAnyH_done (by kernel_rfl) ?_ _
   refine NoPanic.normal ?_
   go_wp2_with fail
   go_ret2
   rw [Int.add_comm (ca' : Int) 3, ← unhide HFT]
   exact want_tl (unhide HW1) [3 + (ca' : Int)] [ft] 1 1 _ rfl rfl rfl
  ·go_simp
   refine hK.out _ _ ((unhide HH) _ hb1') (fun hHeld => ?_)
   clear hK K
   try simp only [Act.put, List.setIfInBounds_toArray, List.set_cons_zero, List.set_cons_succ]
   refine wpAnyH_ready (rs := [3, 12]) (by kernel_rfl) (by simp) ?_
   refine AllReadyH.cons rfl (fun K hK => ?_) (AllReadyH.cons rfl (fun K hK => ?_) AllReadyH.nil)
   ·go_simp
    refine hK.out _ _ ((unhide HH) _ (hb1'.alloc hb1'.size _)) (fun hHeld => ?_)
    clear hK K
    try simp only [Act.put, List.setIfInBounds_toArray, List.set_cons_zero, List.set_cons_succ]
    refine take_x (some 6) 13 rfl rfl ?_
    refine wpAnyH_ready (rs := [12]) (by kernel_rfl) (by simp) ?_
    refine AllReadyH.cons rfl (fun K hK => ?_) AllReadyH.nil
    go_simp
    refine hK.out _ _ ((unhide HH) _ ((hb1'.alloc hb1'.size _).alloc (by simp; omega) _)) (fun hHeld => ?_)
    clear hK K
    try simp only [Act.put, List.setIfInBounds_toArray, List.set_cons_zero, List.set_cons_succ]
    refine take_x (some 7) 14 rfl rfl ?_
    refine wpAnyH_done (by kernel_rfl) ?_ _
    refine NoPanic.normal ?_
    go_wp2_with fail
    go_ret2
    rw [Int.add_comm (ca' : Int) 3, ← unhide HFT]
    exact want_tl (unhide HW1) [3 + (ca' : Int)] [ft] 1 1 _ rfl rfl rfl
   ·go_simp
    refine hK.out _ _ ((unhide HH) _ (hb1'.alloc hb1'.size _)) (fun hHeld => ?_)
    clear hK K
    try simp only [Act.put, List.setIfInBounds_toArray, List.set_cons_zero, List.set_cons_succ]
    refine wpAnyH_ready (rs := [3]) (by kernel_rfl) (by simp) ?_
    refine AllReadyH.cons rfl (fun K hK => ?_) AllReadyH.nil
    go_simp
    refine hK.out _ _ ((unhide HH) _ ((hb1'.alloc hb1'.size _).alloc (by simp; omega) _)) (fun hHeld => ?_)
    clear hK K
    try simp only [Act.put, List.setIfInBounds_toArray, List.set_cons_zero, List.set_cons_succ]
    refine take_x (some 6) 13 rfl rfl ?_
    refine take_x (some 7) 14 rfl rfl ?_
    refine wpAnyH_done (by kernel_rfl) ?_ _
    refine NoPanic.normal ?_
    go_wp2_with fail
    go_ret2
    rw [Int.add_comm (ca' : Int) 3, ← unhide HFT]
    exact want_lt (unhide HW1) [3 + (ca' : Int)] [ft] 1 1 _ rfl rfl rfl
end Go.Proofs.YtiiokkllmchohaaGreat
