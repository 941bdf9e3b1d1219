/- GameLimits: its end. -/
import Derived.Test.YtlbikfimfaecnaaDoorLimitsE
import Derived.Deep.Cut
import Derived.Deep.CutRange
namespace Go.Proofs.YtlbikfimfaecnaaDoor
open Go.RowKit
namespace W

set_option linter.unusedVariables false in
set_option maxRecDepth 100000 in
set_option maxHeartbeats 8000000 in
theorem ph29_110 (m q2 qh lo : Nat) (mv : Int) (ja jak jb jbk jc jck : Nat) (L : List Value) (w wr : World) (hm : m + 1 ≤ 200) (hq : (m + 1) / 2 = q2) (h : EndL w m qh lo mv ja jak jb jbk jc jck L wr) (u1 u2 u3 u4 u5 u6 u7 u8 u10 u11 u12 u13 u26 u27 u28 u29 u30 u31 u32 u33 u34 u35 u36 u37 u38 u39 u40 u41 u42 u43 u44 u45 u46 u47 u48 u49 u50 u51 u52 u53 u54 u55 u56 u57 u58 u59 u60 u61 u62 u63 u64 u65 u66 u67 u68 u69 u70 u71 u72 u73 u74 u75 u76 u77 u78 u79 u80 u81 u82 u83 u84 u85 u86 u87 u88 u89 u90 u91 u92 u93 u94 u95 u96 u97 u98 u99 u100 u101 u102 u103 u104 u105 u106 u107 u108 u109 u110 u111 u112 u113 u114 u115 u116 u117 u118 u119 u120 u121 u122 u123 u124 u125 u126 u127 u128 u129 u130 u131 u132 u133 u134 u135 u136 u137 u138 u139 u140 u141 u142 u143 u144 u145 u146 u147 u148 u149 u150 u151 u152 u153 u154 u155 u156 u157 u158 u159 u160 u161 u162 u163 u164 u165 u166 u167 u168 u169 u170 u171 : Value) :
    Code.wp Tryd.prog (tail 21 (Tryd.f9.body.getD .skip)) (bodyPost Tryd.prog Tryd.f9 fun e w' => e = .returned (.bool true) ∧ Below w.heap.size w w') { tmps := #[.int .i64 ((m : Int) + 1), u1, u2, u3, u4, u5, u6, u7, u8, .bool true, u10, u11, u12, u13, .pointer (some ⟨qh, 0, none⟩), .int .i64 ((0 : Nat) : Int), .int .i64 ((0 : Nat) : Int), .bool true, .int .i64 ((0 : Nat) : Int), .int .i64 ((0 : Nat) : Int), .bool true, .int .i64 0, .int .i64 ((16 : Nat) : Int), .bool false, undef, undef, u26, u27, u28, u29, u30, u31, u32, u33, u34, u35, u36, u37, u38, u39, u40, u41, u42, u43, u44, u45, u46, u47, u48, u49, u50, u51, u52, u53, u54, u55, u56, u57, u58, u59, u60, u61, u62, u63, u64, u65, u66, u67, u68, u69, u70, u71, u72, u73, u74, u75, u76, u77, u78, u79, u80, u81, u82, u83, u84, u85, u86, u87, u88, u89, u90, u91, u92, u93, u94, u95, u96, u97, u98, u99, u100, u101, u102, u103, u104, u105, u106, u107, u108, u109, u110, u111, u112, u113, u114, u115, u116, u117, u118, u119, u120, u121, u122, u123, u124, u125, u126, u127, u128, u129, u130, u131, u132, u133, u134, u135, u136, u137, u138, u139, u140, u141, u142, u143, u144, u145, u146, u147, u148, u149, u150, u151, u152, u153, u154, u155, u156, u157, u158, u159, u160, u161, u162, u163, u164, u165, u166, u167, u168, u169, u170, u171, undef, undef, undef, undef, undef, undef, undef, undef, undef, undef, undef, undef, undef, undef, undef, undef, undef, undef, undef, undef, undef, undef, undef, undef, undef, undef, undef, undef, undef, undef, undef, undef, undef, undef, undef, undef, undef, undef, undef, undef, undef, undef, undef, undef, undef, undef, undef, undef, undef, undef, undef, undef, undef, undef, undef, undef, undef, undef, undef, undef, undef, undef, undef, undef, undef, undef, undef, undef, undef, undef, undef, undef], defers := [] } wr := by
  have HLM := Lib.hid (P.lim_size (m + 1) (m + 1))
  have HE := Lib.hid h
  clear h
  have hm0 : (0 : Int) ≤ (m : Int) := Int.natCast_nonneg _
  obtain ⟨u9, hu1, hf1⟩ : ∃ u, wr.cell? ⟨jc, 0, none⟩ = some u ∧ wr.frozen? ⟨jc, 0, none⟩ = false := by
    have hml : 0 < ((P.lim (m + 1) (m + 1)).moves.set 0 [mv]).length := by rw [List.length_set, HLM.out.2.2]; omega
    obtain ⟨g', k', e, -, -, hc, hf⟩ := own_form HE.out.own.head hml
    injection e with e1 e2 e3
    injection e1 with e1
    injection e1 with e1
    subst e1
    have hlen : 0 < L.length := by
      have h1 : L.length = ((P.lim (m + 1) (m + 1)).moves.set 0 [mv]).length * 1 := HE.out.own.head.1
      omega
    exact ⟨_, hc 0 _ (List.getElem?_eq_getElem hlen), hf 0⟩
  have ox := HE.out.own.setRow (x := .slice none 0 0) (l := []) 0 (OwnI.nil wr wr.heap.size) HE.out.lo1 (fun i u _ p hp => by simp [hold] at hp)
  have hss : ((P.lim (m + 1) (m + 1)).moves.set 0 [mv]).set 0 [] = (P.lim (m + 1) (m + 1)).moves.set 0 [] := by rw [List.set_set]
  have ogv := ox.game (fits_row (fits_row (fits_lim (m + 1) (m + 1) (by omega)) 0 [mv] (by simp)) 0 [] (by simp))
  simp only [hss] at ogv
  have OV := Lib.hid ogv
  have im : (0 : Int) < (m : Int) + 1 := by omega
  have BH := Lib.hid HE.out.fh
  have W := Lib.hid HE.out.fw
  have HNE := Lib.hid HE.out.ne
  have HLE := Lib.hid HE.out.le
  have bb := BH.out
  have pc0 : wr.cell? ⟨qh, 0, none⟩ = some (.slice (some ⟨ja, 0, none⟩) (m + 1) jak) := bb.cell 0 _ rfl
  have pc1 : wr.cell? ⟨qh, 1, none⟩ = some (.slice (some ⟨jb, 0, none⟩) (m + 1) jbk) := bb.cell 1 _ rfl
  have pc2 : wr.cell? ⟨qh, 2, none⟩ = some (.slice (some ⟨jc, 0, none⟩) (m + 1) jck) := bb.cell 2 _ rfl
  clear bb
  clear ox hss ogv HE
  conv => arg 2; simp only [Tryd.f9, Option.getD_some, tail]
  go_upto_region 30 with (fail)
  replace BH := Lib.hid (BH.out.far (p := ⟨jc, 0, none⟩) HNE.out (.slice none 0 0))
  replace W := Lib.hid (W.out.setCell (p := ⟨jc, 0, none⟩) HLE.out (.slice none 0 0))
  generalize (wr.setCell ⟨jc, 0, none⟩ (.slice none 0 0)) = wf1 at BH W OV ⊢
  clear hu1 hf1 pc0 pc1 pc2 HNE HLE
  have bb := BH.out
  have pc0 : wf1.cell? ⟨qh, 0, none⟩ = some (.slice (some ⟨ja, 0, none⟩) (m + 1) jak) := bb.cell 0 _ rfl
  have pc1 : wf1.cell? ⟨qh, 1, none⟩ = some (.slice (some ⟨jb, 0, none⟩) (m + 1) jbk) := bb.cell 1 _ rfl
  have pc2 : wf1.cell? ⟨qh, 2, none⟩ = some (.slice (some ⟨jc, 0, none⟩) (m + 1) jck) := bb.cell 2 _ rfl
  clear bb
  go_wp2_with fail
  refine (right_any _ _ _ OV.out).mono ?_
  rintro e wf2 ⟨rfl, hb⟩
  rw [lim_nil m hm]
  replace W := Lib.hid (W.out.trans (hb.mono W.out.size))
  clear hb pc0 pc1 pc2 BH OV HLM
  have hq2 : ((m : Int) + 1) / 2 = (q2 : Int) := by omega
  go_upto_region 31 with (fail)
  simp only [List.append]
  go_wp2_with fail
  exact bodyPost_ret (v := .bool true) (by simp [results, Tryd.results9, go_sem]) rfl ⟨rfl, W.out⟩

set_option linter.unusedVariables false in
set_option maxRecDepth 100000 in
set_option maxHeartbeats 8000000 in
theorem ph29_111 (m q2 qh lo : Nat) (mv : Int) (ja jak jb jbk jc jck : Nat) (L : List Value) (w wr : World) (hm : m + 1 ≤ 200) (hq : (m + 1) / 2 = q2) (h : EndL w m qh lo mv ja jak jb jbk jc jck L wr) (u1 u2 u3 u4 u5 u6 u7 u8 u10 u11 u12 u13 u26 u27 u28 u29 u30 u31 u32 u33 u34 u35 u36 u37 u38 u39 u40 u41 u42 u43 u44 u45 u46 u47 u48 u49 u50 u51 u52 u53 u54 u55 u56 u57 u58 u59 u60 u61 u62 u63 u64 u65 u66 u67 u68 u69 u70 u71 u72 u73 u74 u75 u76 u77 u78 u79 u80 u81 u82 u83 u84 u85 u86 u87 u88 u89 u90 u91 u92 u93 u94 u95 u96 u97 u98 u99 u100 u101 u102 u103 u104 u105 u106 u107 u108 u109 u110 u111 u112 u113 u114 u115 u116 u117 u118 u119 u120 u121 u122 u123 u124 u125 u126 u127 u128 u129 u130 u131 u132 u133 u134 u135 u136 u137 u138 u139 u140 u141 u142 u143 u144 u145 u146 u147 u148 u149 u150 u151 u152 u153 u154 u155 u156 u157 u158 u159 u160 u161 u162 u163 u164 u165 u166 u167 u168 u169 u170 u171 : Value) :
    Code.wp Tryd.prog (tail 21 (Tryd.f9.body.getD .skip)) (bodyPost Tryd.prog Tryd.f9 fun e w' => e = .returned (.bool true) ∧ Below w.heap.size w w') { tmps := #[.int .i64 ((m : Int) + 1), u1, u2, u3, u4, u5, u6, u7, u8, .bool true, u10, u11, u12, u13, .pointer (some ⟨qh, 0, none⟩), .int .i64 ((0 : Nat) : Int), .int .i64 ((0 : Nat) : Int), .bool true, .int .i64 ((0 : Nat) : Int), .int .i64 ((0 : Nat) : Int), .bool true, .int .i64 0, .int .i64 ((0 : Nat) : Int), .bool true, undef, undef, u26, u27, u28, u29, u30, u31, u32, u33, u34, u35, u36, u37, u38, u39, u40, u41, u42, u43, u44, u45, u46, u47, u48, u49, u50, u51, u52, u53, u54, u55, u56, u57, u58, u59, u60, u61, u62, u63, u64, u65, u66, u67, u68, u69, u70, u71, u72, u73, u74, u75, u76, u77, u78, u79, u80, u81, u82, u83, u84, u85, u86, u87, u88, u89, u90, u91, u92, u93, u94, u95, u96, u97, u98, u99, u100, u101, u102, u103, u104, u105, u106, u107, u108, u109, u110, u111, u112, u113, u114, u115, u116, u117, u118, u119, u120, u121, u122, u123, u124, u125, u126, u127, u128, u129, u130, u131, u132, u133, u134, u135, u136, u137, u138, u139, u140, u141, u142, u143, u144, u145, u146, u147, u148, u149, u150, u151, u152, u153, u154, u155, u156, u157, u158, u159, u160, u161, u162, u163, u164, u165, u166, u167, u168, u169, u170, u171, undef, undef, undef, undef, undef, undef, undef, undef, undef, undef, undef, undef, undef, undef, undef, undef, undef, undef, undef, undef, undef, undef, undef, undef, undef, undef, undef, undef, undef, undef, undef, undef, undef, undef, undef, undef, undef, undef, undef, undef, undef, undef, undef, undef, undef, undef, undef, undef, undef, undef, undef, undef, undef, undef, undef, undef, undef, undef, undef, undef, undef, undef, undef, undef, undef, undef, undef, undef, undef, undef, undef, undef], defers := [] } wr := by
  have HLM := Lib.hid (P.lim_size (m + 1) (m + 1))
  have HE := Lib.hid h
  clear h
  have hm0 : (0 : Int) ≤ (m : Int) := Int.natCast_nonneg _
  obtain ⟨u9, hu1, hf1⟩ : ∃ u, wr.cell? ⟨jc, 0, none⟩ = some u ∧ wr.frozen? ⟨jc, 0, none⟩ = false := by
    have hml : 0 < ((P.lim (m + 1) (m + 1)).moves.set 0 [mv]).length := by rw [List.length_set, HLM.out.2.2]; omega
    obtain ⟨g', k', e, -, -, hc, hf⟩ := own_form HE.out.own.head hml
    injection e with e1 e2 e3
    injection e1 with e1
    injection e1 with e1
    subst e1
    have hlen : 0 < L.length := by
      have h1 : L.length = ((P.lim (m + 1) (m + 1)).moves.set 0 [mv]).length * 1 := HE.out.own.head.1
      omega
    exact ⟨_, hc 0 _ (List.getElem?_eq_getElem hlen), hf 0⟩
  have ox := HE.out.own.setRow (x := .slice none 0 0) (l := []) 0 (OwnI.nil wr wr.heap.size) HE.out.lo1 (fun i u _ p hp => by simp [hold] at hp)
  have hss : ((P.lim (m + 1) (m + 1)).moves.set 0 [mv]).set 0 [] = (P.lim (m + 1) (m + 1)).moves.set 0 [] := by rw [List.set_set]
  have ogv := ox.game (fits_row (fits_row (fits_lim (m + 1) (m + 1) (by omega)) 0 [mv] (by simp)) 0 [] (by simp))
  simp only [hss] at ogv
  have OV := Lib.hid ogv
  have im : (0 : Int) < (m : Int) + 1 := by omega
  have BH := Lib.hid HE.out.fh
  have W := Lib.hid HE.out.fw
  have HNE := Lib.hid HE.out.ne
  have HLE := Lib.hid HE.out.le
  have bb := BH.out
  have pc0 : wr.cell? ⟨qh, 0, none⟩ = some (.slice (some ⟨ja, 0, none⟩) (m + 1) jak) := bb.cell 0 _ rfl
  have pc1 : wr.cell? ⟨qh, 1, none⟩ = some (.slice (some ⟨jb, 0, none⟩) (m + 1) jbk) := bb.cell 1 _ rfl
  have pc2 : wr.cell? ⟨qh, 2, none⟩ = some (.slice (some ⟨jc, 0, none⟩) (m + 1) jck) := bb.cell 2 _ rfl
  clear bb
  clear ox hss ogv HE
  conv => arg 2; simp only [Tryd.f9, Option.getD_some, tail]
  go_upto_region 30 with (fail)
  replace BH := Lib.hid (BH.out.far (p := ⟨jc, 0, none⟩) HNE.out (.slice none 0 0))
  replace W := Lib.hid (W.out.setCell (p := ⟨jc, 0, none⟩) HLE.out (.slice none 0 0))
  generalize (wr.setCell ⟨jc, 0, none⟩ (.slice none 0 0)) = wf1 at BH W OV ⊢
  clear hu1 hf1 pc0 pc1 pc2 HNE HLE
  have bb := BH.out
  have pc0 : wf1.cell? ⟨qh, 0, none⟩ = some (.slice (some ⟨ja, 0, none⟩) (m + 1) jak) := bb.cell 0 _ rfl
  have pc1 : wf1.cell? ⟨qh, 1, none⟩ = some (.slice (some ⟨jb, 0, none⟩) (m + 1) jbk) := bb.cell 1 _ rfl
  have pc2 : wf1.cell? ⟨qh, 2, none⟩ = some (.slice (some ⟨jc, 0, none⟩) (m + 1) jck) := bb.cell 2 _ rfl
  clear bb
  go_wp2_with fail
  refine (right_any _ _ _ OV.out).mono ?_
  rintro e wf2 ⟨rfl, hb⟩
  rw [lim_nil m hm]
  replace W := Lib.hid (W.out.trans (hb.mono W.out.size))
  clear hb pc0 pc1 pc2 BH OV HLM
  have hq2 : ((m : Int) + 1) / 2 = (q2 : Int) := by omega
  go_upto_region 31 with (fail)
  simp only [List.append]
  go_wp2_with fail
  exact bodyPost_ret (v := .bool true) (by simp [results, Tryd.results9, go_sem]) rfl ⟨rfl, W.out⟩
end W
end Go.Proofs.YtlbikfimfaecnaaDoor
