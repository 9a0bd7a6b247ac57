import Derived.Test.YtphclnolomgjoaaGreatDoorX10
import Derived.Test.YtphclnolomgjoaaGreatDoorB37
import Derived.Test.YtphclnolomgjoaaGreatDoorX01
import Derived.BigQuiet
set_option linter.unusedVariables false
set_option linter.unusedSimpArgs false
namespace Go.Proofs.YtphclnolomgjoaaGreatDoor
open Go.RowKit
def LnA (N : Nat) (rb ls : Nat) (w1 : World) (c7 c8 : Value) (wr : World) : Prop := ∃ (k : Nat) (ev : List Int) (a : Option Addr) (c : Nat), k ≤ 50 ∧ k ≤ ls ∧ c8 = .int .i64 k ∧ c7 = .slice a ev.length c ∧ ev.length ≤ 1000 * k ∧ Below w1.heap.size w1 wr ∧ Hid (∃ R bt vp vw vl, RunI k R ∧ LinM N wr rb R bt vp vw vl (.slice a ev.length c) ev ∧ LinI (fun m => m ∈ ev) R)
def LnB (N : Nat) (rb : Nat) (R : KR) (bt : Nat) (vp vw vl : Value) (ev : List Int) (w3 : World) (c7 c10 : Value) (wr : World) : Prop := ∃ (i : Nat) (ev' : List Int) (a : Option Addr) (c : Nat), i ≤ R.last.length ∧ ev' = ev ++ evOf (R.last.take i) ∧ c10 = .int .i64 i ∧ c7 = .slice a ev'.length c ∧ Below N w3 wr ∧ Hid (LinM N wr rb R bt vp vw vl (.slice a ev'.length c) ev')
def LnC (ev : List Int) (x : Int) (w5 : World) (c15 c16 : Value) (wr : World) : Prop := ∃ (q : Nat) (b : Bool) (m : Nat), q ≤ ev.length ∧ c15 = .bool b ∧ c16 = .int .i64 q ∧ (b = false → ∀ i (h : i < ev.length), i < q → ev[i] ≠ x) ∧ wr = w5.drewN m
set_option maxRecDepth 100000 in
set_option maxHeartbeats 4000000 in
theorem lined_walk {W : World} {aq as_ : Option Addr} {lq cq ls cs : Nat} {q : Nat → Int} {S : Nat → Stp} (hq : QIn W aq lq q) (hlq : lq ≤ cq) (hcq : cq ≤ maxLen) (hS : StIn W as_ ls S) (hls : ls ≤ cs) (hcs : cs ≤ maxLen) :
    Calls Tryz.prog 10 #[.slice aq lq cq, .slice as_ ls cs] W fun e w' => e = .returned (.bool true) ∧ Below W.heap.size W w' := by
  have HS : Hid (StIn W as_ ls S) := hS
  clear hS
  have hlen : ls ≤ 9223372036854775807 := by unfold maxLen at hcs; omega
  go_enter Tryz.func10, Tryz.ntmps10
  go_upto_region 5 with (first
    | (go_at_call 15; refine (ql8 _).mono ?_; rintro e w1 ⟨rfl, hb1⟩)
    | (go_at_call 16; refine (qqs (hq.below (n := 0) hb1) hlq hcq).mono ?_; rintro e w2 ⟨rb, rfl, hR2, hb2⟩))
  have hR0 : Hid (∃ R bt vp vw vl, RunI 0 R ∧ LinM w1.heap.size w2 rb R bt vp vw vl (.slice none 0 0) [] ∧ LinI (fun m => m ∈ ([] : List Int)) R) := by
    obtain ⟨nodes, K⟩ := hR2.kinv
    have hI := qyt K
    obtain ⟨P, bt, vp, vw, vl, hM⟩ := hR2
    refine ⟨_, bt, vp, vw, vl, hI, ⟨⟨P, hM.fo' (T := fun _ => False) (Keep.refl _ _) (fun b h => h.elim) (fun b h => ?_) (fun b h => ?_)⟩, World.ownsRow_nil _ _ _ _, fun b h => by simp [Value.ownBlock] at h, hb2.size⟩, ?_⟩
    · rcases h with h | h
      · exact .inl h
      · simp [Value.ownBlock] at h
    · rcases h with h | h
      · have := hb2.size; omega
      · simp [Value.ownBlock] at h
    · exact lin_fresh _ _
  clear hR2 hq
  go_wp2_with fail
  go_loopw [7, 8] (fun c7 c8 wr => LnA w1.heap.size rb ls w1 c7 c8 wr) (fun _ i _ => 50 - (intOf i).toNat)
  case atStart => exact ⟨0, [], none, 0, Nat.zero_le _, Nat.zero_le _, rfl, rfl, by simp, hb2, hR0⟩
  case round =>
    obtain ⟨k, ev, a7, c7, hk, hkl, rfl, rfl, hevl, hB, hR⟩ := hrel
    have hBW : Below W.heap.size W wr := hb1.trans (hB.mono hb1.size)
    by_cases hlt : k < ls ∧ k < 50
    · obtain ⟨hlt1, hlt2⟩ := hlt
      obtain ⟨gb, off, rfl, hgb, q0, q1, q2, q3, i0, i1, i2, i3⟩ := HS.out k hlt1
      have r0 := (hBW.cell (p := ⟨gb, off + k * 4, none⟩) hgb).trans q0
      have r1 := (hBW.cell (p := ⟨gb, off + k * 4 + 1, none⟩) hgb).trans q1
      have r2 := (hBW.cell (p := ⟨gb, off + k * 4 + 2, none⟩) hgb).trans q2
      have r3 := (hBW.cell (p := ⟨gb, off + k * 4 + 3, none⟩) hgb).trans q3
      have hst := lined_calls hR.out hlt2 i0 i1 i2 i3
      have hki : (k : Int) < ls := by omega
      have hki0 : (0 : Int) ≤ k := by omega
      have hki5 : (k : Int) < 50 := by omega
      clear q0 q1 q2 q3 hR
      go_upto_region 13 with (go_at_call 17; refine hst.mono ?_; rintro e w3 ⟨rfl, hR3, hK3⟩)
      have HB3 := Hid.mk' (hB.trans hK3)
      clear hst r0 r1 r2 r3 hBW hB hK3 i0 i1 i2 i3
      obtain ⟨R, bt, vp, vw, vl, hI, hM, hL⟩ := hR3.out
      have hll := hL.len
      have HIL := Hid.mk' (And.intro hI hL)
      have hN := hM.le
      clear hI hL hR3
      go_loopw [7, 10] (fun c7 c10 wr => LnB w1.heap.size rb R bt vp vw vl ev w3 c7 c10 wr) (fun _ i _ => R.last.length - (intOf i).toNat)
      case atStart => exact ⟨0, ev, a7, c7, Nat.zero_le _, by simp [evOf], rfl, rfl, Below.refl _ _, hM⟩
      case round =>
        obtain ⟨i, ev', a7', c7', hi, hev', rfl, rfl, hBi, hMi⟩ := hrel
        have hNi : w1.heap.size ≤ wr.heap.size := hMi.out.le
        have hel : ev'.length ≤ 1000 * k + 1000 := by
          rw [hev', List.length_append]
          have h1 := evOf_len (R.last.take i)
          have h2 := List.length_take_le i R.last
          omega
        obtain ⟨al, cl, hvl, hl1, hl2, z4, hrl, hcl⟩ := hMi.out.lasts
        by_cases hil : i < R.last.length
        · obtain ⟨e, he⟩ : ∃ e, R.last[i]? = some e := ⟨_, List.getElem?_eq_getElem hil⟩
          obtain ⟨g, hal, hg, z0, z1⟩ := hcl i e he
          have htk : R.last.take (i + 1) = R.last.take i ++ [(e.1, e.2)] := by
            rw [List.take_succ_eq_append_getElem hil]
            rw [List.getElem?_eq_getElem hil] at he
            cases he
            rfl
          have HSN : Hid (evOf (R.last.take (i + 1)) = evOf (R.last.take i) ++ (if e.1 = 2 then [e.2] else [])) := by
            rw [htk]; exact evOf_snoc _ _ _
          have hii : (i : Int) < R.last.length := by omega
          subst hal
          clear hcl he htk HIL
          generalize e.1 = kd at *
          generalize e.2 = nm at *
          by_cases hkd : kd = 2
          · have hap := fun W' (hm : LinM w1.heap.size W' rb R bt vp vw vl (.slice a7' ev'.length c7') ev') nb (hnb : Blk W' nb 3 #[.int .i64 nm]) => hm.app (by omega) nm nb hnb
            have hHM := fun W' (hb : Below wr.heap.size wr W') => hMi.out.below hb
            have HEV : Hid (∀ (a : Option Addr) (c : Nat) (w' : World), LinM w1.heap.size w' rb R bt vp vw vl (.slice a (ev'.length + 1) c) (ev' ++ [nm]) → Below w1.heap.size w3 w' → LnB w1.heap.size rb R bt vp vw vl ev w3 (.slice a (ev'.length + 1) c) (.int .i64 ((i : Int) + 1)) w') := fun a c w' h1 h2 => by
              refine ⟨i + 1, ev' ++ [nm], a, c, by omega, ?_, by simp, by simp, h2, ?_⟩
              · rw [HSN.out, if_pos hkd, hev', List.append_assoc]
              · refine Hid.mk' ?_
                simpa using h1
            subst hkd
            clear HSN hev' hMi
            go_wp2_with (at_builtin; refine qbd (by rfl) _ _ _ _ rfl _ _ rfl (by rfl) (hap _ (hHM _ (by exact bel2)) _ (by exact blk2)) ?_; rintro v' w4 ⟨a4, c4, rfl, hc41, hc42, hm4⟩)
            refine ⟨?_, by simp [intOf]; omega⟩
            have := HEV.out _ _ _ hm4.out.1 (hBi.trans (Below.trans (by exact bel2) hm4.out.2))
            simpa using this
          · have HEV : LnB w1.heap.size rb R bt vp vw vl ev w3 (.slice a7' ev'.length c7') (.int .i64 ((i : Int) + 1)) wr := by
              refine ⟨i + 1, ev', a7', c7', by omega, ?_, by simp, rfl, hBi, hMi⟩
              rw [HSN.out, if_neg hkd, hev', List.append_nil]
            have HEV' := Hid.mk' HEV
            clear HSN hev' hMi HEV
            go_wp2_with fail
            exact ⟨HEV'.out, by simp [intOf]; omega⟩
        · have hii : ¬ ((i : Int) < R.last.length) := by omega
          obtain rfl : i = R.last.length := by omega
          rw [List.take_length] at hev'
          obtain ⟨hI, hL⟩ := HIL.out
          have hLf : ∀ x ∈ R.works, ∀ y ∈ R.works, x.leaf = y.leaf → x.num < y.num → x.inn = false → y.inn = true → x.num ∈ ev' := fun x hx y hy h1 h2 h3 h4 => by
            have := hL.fine hI hx hy h1 h2 h3 h4
            rw [hev', List.mem_append, mem_evOf]
            exact this
          have HLF := Hid.mk' hLf
          have HNX : Hid (∀ wx, Below wr.heap.size wr wx → LnA w1.heap.size rb ls w1 (.slice a7' ev'.length c7') (.int .i64 ((k : Int) + 1)) wx) := fun wx hb => by
            have hBx : Below w1.heap.size w1 wx := (HB3.out.trans hBi).trans (hb.mono hNi)
            refine ⟨k + 1, ev', a7', c7', by omega, by omega, by simp, rfl, by omega, hBx, R, bt, vp, vw, vl, hI, hMi.out.below hb, ?_⟩
            refine ⟨hL.lin.congr fun m => ?_, fun m hm => hL.cnt m ?_, fun m hm => ?_, hL.len⟩
            · rw [hev', List.mem_append, mem_evOf]
            · rw [hev', List.mem_append, mem_evOf] at hm; exact hm
            · rw [hev', List.mem_append, mem_evOf]; exact .inr hm
          have HMI := hMi
          have hev7 : ev'.length ≤ c7' ∧ c7' ≤ maxLen := by
            obtain ⟨_, _, e, h1, h2⟩ := qa7 hMi.out.row
            injection e with _ _ e3
            subst e3
            exact ⟨h1, h2⟩
          have hw24 : R.works.length ≤ 24 := by
            obtain ⟨P, hR⟩ := hMi.out.run
            obtain ⟨nodes, K⟩ := qau.kinv ⟨_, _, _, _, _, hR⟩
            rw [hI.wlen]; exact K.inv.wks.wks.len
          clear hLf hI hL hev' HIL hMi hcl hvl
          obtain ⟨aw, cw, hvw, hw1, hw2, z2, hrl, hwk⟩ := HMI.out.wks
          have HWK := Hid.mk' hwk
          clear hwk hvw
          go_upto_region 18 with fail
          go_loopw [11] (fun i wx => ∃ a : Nat, a ≤ R.works.length ∧ i = .int .i64 a ∧ Below wr.heap.size wr wx) (fun i _ => R.works.length - (intOf i).toNat)
          case atStart => exact ⟨0, Nat.zero_le _, rfl, Below.refl _ _⟩
          case round =>
            obtain ⟨a, ha, rfl, hBa⟩ := hrel
            have y2 := (hBa.cell (p := ⟨rb, 2, none⟩) hrl).trans z2
            have hsa := hBa.size
            by_cases hal : a < R.works.length
            · obtain ⟨x, hx⟩ : ∃ x, R.works[a]? = some x := ⟨_, List.getElem?_eq_getElem hal⟩
              obtain ⟨g, hgw, hg, p0, p1, p2, p3, p4, p5⟩ := HWK.out a x hx
              subst hgw
              have HX : Hid (x ∈ R.works) := List.mem_of_getElem? hx
              have hai : (a : Int) < R.works.length := by omega
              have HP := Hid.mk' (And.intro p0 (And.intro p1 (And.intro p2 (And.intro p3 (And.intro p4 p5)))))
              clear p0 p1 p2 p3 p4 p5 hx
              go_upto_region 21 with fail
              obtain ⟨g0, hg0⟩ : ∃ g0, g0 = wr := ⟨_, rfl⟩
              rw [← hg0] at hBa hsa y2 ⊢
              clear hg0
              go_loopw [12] (fun i wx => ∃ b : Nat, b ≤ R.works.length ∧ i = .int .i64 b ∧ Below g0.heap.size g0 wx) (fun i _ => R.works.length - (intOf i).toNat)
              case atStart => exact ⟨0, Nat.zero_le _, rfl, Below.refl _ _⟩
              case round =>
                obtain ⟨b, hb, rfl, hBb⟩ := hrel
                have hBab := hBa.trans (hBb.mono hsa)
                have u2 := (hBab.cell (p := ⟨rb, 2, none⟩) hrl).trans z2
                by_cases hbl : b < R.works.length
                · obtain ⟨y, hy⟩ : ∃ y, R.works[b]? = some y := ⟨_, List.getElem?_eq_getElem hbl⟩
                  obtain ⟨g', hgw, hg', t0, t1, t2, t3, t4, t5⟩ := HWK.out b y hy
                  injection hgw with hgw
                  injection hgw with hgw
                  subst hgw
                  have HY : Hid (y ∈ R.works) := List.mem_of_getElem? hy
                  have hbi : (b : Int) < R.works.length := by omega
                  obtain ⟨p0, p1, p2, p3, p4, p5⟩ := HP.out
                  have hbc := fun (a : Nat) => hBab.cell (p := ⟨g, a, none⟩) hg
                  have s0 := (hbc _).trans p0
                  have s1 := (hbc _).trans p1
                  have s2 := (hbc _).trans p2
                  have s3 := (hbc _).trans p3
                  have s4 := (hbc _).trans p4
                  have s5 := (hbc _).trans p5
                  have v0 := (hbc _).trans t0
                  have v1 := (hbc _).trans t1
                  have v2 := (hbc _).trans t2
                  have v3 := (hbc _).trans t3
                  have v4 := (hbc _).trans t4
                  have v5 := (hbc _).trans t5
                  clear hbc p0 p1 p2 p3 p4 p5 t0 t1 t2 t3 t4 t5 hy y2
                  have hs2 := hBab.size
                  have n2 : ¬ (rb = wr.heap.size) := by omega
                  have n3 : ¬ (g = wr.heap.size) := by omega
                  have hrw : rb < wr.heap.size := by omega
                  have hgw' : g < wr.heap.size := by omega
                  go_upto_region 27 with fail
                  obtain ⟨W6, hW6⟩ : ∃ W6, W6 = (wr.alloc (.cells #[.int .i64 x.num, .int .i64 x.leaf, .int .i64 x.d0, .int .i64 x.d1, .bool x.inn, .int .i64 x.qav] 41)).alloc (.cells #[.int .i64 y.num, .int .i64 y.leaf, .int .i64 y.d0, .int .i64 y.d1, .bool y.inn, .int .i64 y.qav] 41) := ⟨_, rfl⟩
                  have bx : Blk W6 wr.heap.size 41 #[.int .i64 x.num, .int .i64 x.leaf, .int .i64 x.d0, .int .i64 x.d1, .bool x.inn, .int .i64 x.qav] := by rw [hW6]; exact (Blk.new wr 41 _).alloc _
                  have by' : Blk W6 (wr.heap.size + 1) 41 #[.int .i64 y.num, .int .i64 y.leaf, .int .i64 y.d0, .int .i64 y.d1, .bool y.inn, .int .i64 y.qav] := by rw [hW6]; exact Blk.new' (by simp)
                  have hB6 : Below wr.heap.size wr W6 := by rw [hW6]; exact ((Below.refl _ _).alloc (Nat.le_refl _) _).alloc (by simp) _
                  rw [← hW6]
                  clear hW6 s0 s1 s2 s3 s4 s5 v0 v1 v2 v3 v4 v5 u2 n2 n3
                  have hB06 := hBab.trans (hB6.mono hBab.size)
                  have hBb6 := hBb.trans (hB6.mono hBb.size)
                  have HEN : Hid (∀ q (h : q < ev'.length), ∃ g7, a7' = some ⟨g7, 0, none⟩ ∧ W6.cell? ⟨g7, q, none⟩ = some (.int .i64 ev'[q])) := fun q h => by
                    obtain ⟨g7, ⟨c, e⟩, h1, h2⟩ := HMI.out.num h
                    injection e with e1
                    exact ⟨g7, e1, (hB06.cell (p := ⟨g7, q, none⟩) h1).trans h2⟩
                  have HCT : Hid (x.leaf = y.leaf → x.num < y.num → x.inn = false → y.inn = true → (∀ i (h : i < ev'.length), ev'[i] ≠ x.num) → False) := fun h1 h2 h3 h4 h5 => by
                    have := HLF.out x HX.out y HY.out h1 h2 h3 h4
                    obtain ⟨i, hi, he⟩ := List.getElem_of_mem this
                    exact h5 i hi he
                  clear HLF HX HY HMI HP HNX
                  generalize wr.heap.size = g9 at bx by'
                  obtain ⟨xn, xl, x0, x1, xi, xs⟩ := x
                  obtain ⟨yn, yl, y0, y1, yi, ys⟩ := y
                  simp only at bx by' HCT
                  have hcl : ev'.length ≤ c7' ∧ c7' ≤ maxLen := hev7
                  go_loopw [15, 16] (fun c15 c16 wx => LnC ev' xn W6 c15 c16 wx) (fun _ i _ => ev'.length - (intOf i).toNat)
                  case atStart => exact ⟨0, false, 0, Nat.zero_le _, rfl, rfl, fun _ i _ h => by omega, rfl⟩
                  case round =>
                    obtain ⟨qq, bb, m, hq, rfl, rfl, hno, rfl⟩ := hrel
                    have f0 := bx.cell 0
                    have f1 := bx.cell 1
                    have f4 := bx.cell 4
                    have h0 := by'.cell 0
                    have h1 := by'.cell 1
                    have h4 := by'.cell 4
                    simp only [List.getElem?_toArray, List.getElem?_cons_zero, List.getElem?_cons_succ] at f0 f1 f4 h0 h1 h4
                    by_cases hql : qq < ev'.length
                    · obtain ⟨g7, hg7, hce⟩ := HEN.out qq hql
                      subst hg7
                      have hqi : (qq : Int) < ev'.length := by omega
                      have HNO := Hid.mk' hno
                      clear hno HEN HCT
                      cases bb
                      · by_cases hxe : ev'[qq] = xn
                        · have hxd : (ev'[qq] == xn) = true := by simpa using hxe
                          go_wp2_with fail
                          go_quiet (fail)
                          go_wp2_with fail
                          refine ⟨⟨qq + 1, true, m + nq, by omega, rfl, by go_num, fun h => (by cases h), rfl⟩, by simp [intOf]; omega⟩
                        · have hxd : (ev'[qq] == xn) = false := by simpa using hxe
                          have HXE := Hid.mk' hxe
                          clear hxe
                          generalize ev'[qq] = ee at hce hxd
                          go_wp2_with fail
                          go_quiet (fail)
                          go_wp2_with fail
                          refine ⟨⟨qq + 1, false, m + nq, by omega, rfl, by go_num, fun _ i h hi => ?_, rfl⟩, by simp [intOf]; omega⟩
                          rcases (show i < qq ∨ i = qq by omega) with e | rfl
                          · exact HNO.out (by simp) i h e
                          · exact HXE.out
                      · go_wp2_with fail
                        go_quiet (fail)
                        go_wp2_with fail
                        refine ⟨⟨qq + 1, true, m + nq, by omega, rfl, by go_num, fun h => (by cases h), rfl⟩, by simp [intOf]; omega⟩
                    · have hqi : ¬ ((qq : Int) < ev'.length) := by omega
                      have HBE : Hid (Below g0.heap.size g0 (W6.drewN m)) := below_drewN hBb6 m
                      have HNO : Hid (bb = false → ∀ i (h : i < ev'.length), ev'[i] ≠ xn) := fun h i hi => hno h i hi (by omega)
                      clear hno HEN
                      by_cases e1 : xl = yl
                      · have e1' : (xl : Int) = yl := by omega
                        by_cases e2 : xn < yn
                        · cases xi
                          · cases yi
                            · go_wp2_with fail
                              exact ⟨⟨b + 1, by omega, by go_num, HBE.out⟩, by simp [intOf]; omega⟩
                            · cases bb
                              · exact (HCT.out e1 e2 rfl rfl (HNO.out (by simp))).elim
                              · go_wp2_with fail
                                exact ⟨⟨b + 1, by omega, by go_num, HBE.out⟩, by simp [intOf]; omega⟩
                          · go_wp2_with fail
                            exact ⟨⟨b + 1, by omega, by go_num, HBE.out⟩, by simp [intOf]; omega⟩
                        · go_wp2_with fail
                          exact ⟨⟨b + 1, by omega, by go_num, HBE.out⟩, by simp [intOf]; omega⟩
                      · have e1' : ¬ ((xl : Int) = yl) := by omega
                        go_wp2_with fail
                        exact ⟨⟨b + 1, by omega, by go_num, HBE.out⟩, by simp [intOf]; omega⟩
                · have hbi : ¬ ((b : Int) < R.works.length) := by omega
                  clear HP HX HLF HNX HMI HWK
                  go_wp2_with fail
                  exact ⟨⟨a + 1, by omega, by go_num, hBab⟩, by simp [intOf]; omega⟩
            · have hai : ¬ ((a : Int) < R.works.length) := by omega
              have HE := Hid.mk' (HNX.out _ hBa)
              clear HNX HLF HMI HWK
              go_wp2_with fail
              exact ⟨HE.out, by simp [intOf]; omega⟩
    · have hki2 : ¬ ((k : Int) < ls) ∨ ¬ ((k : Int) < 50) := by omega
      have hki0 : (0 : Int) ≤ k := by omega
      rcases hki2 with hki2 | hki2
      all_goals go_wp2_with fail
      all_goals go_ret
      all_goals exact ⟨rfl, hBW⟩
end Go.Proofs.YtphclnolomgjoaaGreatDoor
