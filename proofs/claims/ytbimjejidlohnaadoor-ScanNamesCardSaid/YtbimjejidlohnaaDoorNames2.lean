/- ScanNames: names and variables. -/
import Derived.Test.YtbimjejidlohnaaDoorNames
namespace Go.Proofs.YtbimjejidlohnaaDoor
open Go.RowKit
namespace W

set_option linter.unusedVariables false in
set_option maxRecDepth 100000 in
set_option maxHeartbeats 1000000 in
theorem ph2_small_big (n : Int) (hn : -9223372036854775808 ≤ n ∧ n ≤ 9223372036854775807) (w w3 : World) (hg : Handle w) (hb3 : Below w.heap.size w w3) (c : Nat) (x : ByteArray) (hxb : x.size ≤ 281474976710656) (h1 : 97 ≤ c) (h2 : c ≤ 122) (g : Nat) (hz : 262144 < x.size) (u1 u3 u4 u5 u6 u9 u14 u15 u16 u17 u18 u19 u20 u21 u22 u23 u24 u25 u26 u27 u28 u29 u30 u31 u32 u33 u34 u35 u36 u37 u38 u39 u40 u41 u42 u43 u44 u45 u46 u47 u48 u49 u50 u51 u52 u53 u54 u55 u56 u57 u58 u59 u60 u61 u62 u63 u64 u65 u66 u67 u68 u69 u70 u71 u72 u73 u74 u75 u76 u77 u78 u79 u80 u81 u82 u83 u84 u85 u86 u87 u88 u89 u90 u91 u92 u93 u94 u95 u96 u97 u98 u99 u100 u101 u102 u103 u104 u105 u106 u107 u108 u109 u110 u111 u112 u113 u114 u115 u116 u117 u118 u119 u120 u121 u122 u123 u124 u125 u126 u127 u128 u129 u130 u131 u132 u133 u134 u135 u136 u137 u138 u139 u140 u141 u142 u143 u144 u145 u146 u147 u148 u149 u150 u151 u152 u153 u154 u155 u156 u157 u158 u159 u160 u161 u162 u163 u164 u165 u166 u167 u168 u169 u170 u171 u172 u173 u174 u175 u176 u177 u178 u179 u180 u181 u182 u183 u184 u185 u186 u187 u188 u189 u190 u191 u192 u193 u194 u195 u196 u197 u198 u199 u200 u201 u202 u203 u204 u205 u206 u207 u208 u209 u210 u211 u212 u213 u214 u215 : Value) :
    Code.wp Tryd.prog (tail 6 (Tryd.f7.body.getD .skip)) (bodyPost Tryd.prog Tryd.f7 fun e w' => e = .returned (.bool true) ∧ Below w.heap.size w w') { tmps := #[.int .u8 (c : Int), u1, .int .i64 n, u3, u4, u5, u6, .bool true, .string x, u9, .slice none 0 0, .iface 45 (.pointer (some ⟨g, 0, none⟩)), .int .i64 262144, .int .i64 2, u14, u15, u16, u17, u18, u19, u20, u21, u22, u23, u24, u25, u26, u27, u28, u29, u30, u31, u32, u33, u34, u35, u36, u37, u38, u39, u40, u41, u42, u43, u44, u45, u46, u47, u48, u49, u50, u51, u52, u53, u54, u55, u56, u57, u58, u59, u60, u61, u62, u63, u64, u65, u66, u67, u68, u69, u70, u71, u72, u73, u74, u75, u76, u77, u78, u79, u80, u81, u82, u83, u84, u85, u86, u87, u88, u89, u90, u91, u92, u93, u94, u95, u96, u97, u98, u99, u100, u101, u102, u103, u104, u105, u106, u107, u108, u109, u110, u111, u112, u113, u114, u115, u116, u117, u118, u119, u120, u121, u122, u123, u124, u125, u126, u127, u128, u129, u130, u131, u132, u133, u134, u135, u136, u137, u138, u139, u140, u141, u142, u143, u144, u145, u146, u147, u148, u149, u150, u151, u152, u153, u154, u155, u156, u157, u158, u159, u160, u161, u162, u163, u164, u165, u166, u167, u168, u169, u170, u171, u172, u173, u174, u175, u176, u177, u178, u179, u180, u181, u182, u183, u184, u185, u186, u187, u188, u189, u190, u191, u192, u193, u194, u195, u196, u197, u198, u199, u200, u201, u202, u203, u204, u205, u206, u207, u208, u209, u210, u211, u212, u213, u214, u215], defers := [] } w3 := by
  have HG := Lib.hid hg
  have HB3 := Lib.hid hb3
  have HN := Lib.hid hn
  clear hg hb3 hn
  have e1 : decide ((97 : Int) ≤ (c : Int)) = true := decide_eq_true (by omega)
  have e2 : decide ((c : Int) ≤ 122) = true := decide_eq_true (by omega)
  have e3 : decide ((65 : Int) ≤ (c : Int)) = true := decide_eq_true (by omega)
  have e4 : decide ((c : Int) ≤ 90) = false := decide_eq_false (by omega)
  have k1 : decide ((262144 : Int) < (x.size : Int)) = true := decide_eq_true (by omega)
  conv => arg 2; simp only [Tryd.f7, Option.getD_some, tail]
  go_upto_if 70 with fail
  go_cut [] from 26 (fun wc => wc = w3)
  case first =>
    go_wp2_with fail
    go_meet
    case rel => rfl
  case rest =>
    obtain rfl : w3 = wc := hcut.symm
    apply_assumption
    exact ph3 n HN.out w w3 HG.out HB3.out _ _ _ _ _ _ _ _ _ _ _ _ _ _ _ _ _ _ _ _ _ _ _ _ _ _ _ _ _ _ _ _ _ _ _ _ _ _ _ _ _ _ _ _ _ _ _ _ _ _ _ _ _ _ _ _ _ _ _ _ _ _ _ _ _ _ _ _ _ _ _ _ _ _ _ _ _ _ _ _ _ _ _ _ _ _ _ _ _ _ _ _ _ _ _ _ _ _ _ _ _ _ _ _ _ _ _ _ _ _ _ _ _ _ _ _ _ _ _ _ _ _ _ _ _ _ _ _ _ _ _ _ _ _ _ _ _ _ _ _ _ _ _ _ _ _ _ _ _ _ _ _ _ _ _ _ _ _ _ _ _ _ _ _ _ _ _ _ _ _ _ _ _ _ _ _ _ _ _ _ _ _ _ _ _ _ _ _ _ _ _ _ _ _ _ _ _ _ _ _ _ _ _ _ _ _ _ _ _ _ _ _ _ _

set_option linter.unusedVariables false in
set_option maxRecDepth 100000 in
set_option maxHeartbeats 1000000 in
theorem ph2_small_long (n : Int) (hn : -9223372036854775808 ≤ n ∧ n ≤ 9223372036854775807) (w w3 : World) (hg : Handle w) (hb3 : Below w.heap.size w w3) (c : Nat) (x : ByteArray) (hxb : x.size ≤ 281474976710656) (h1 : 97 ≤ c) (h2 : c ≤ 122) (g : Nat) (hz : ¬ 262144 < x.size) (hy : 8 < x.size) (u1 u3 u4 u5 u6 u9 u14 u15 u16 u17 u18 u19 u20 u21 u22 u23 u24 u25 u26 u27 u28 u29 u30 u31 u32 u33 u34 u35 u36 u37 u38 u39 u40 u41 u42 u43 u44 u45 u46 u47 u48 u49 u50 u51 u52 u53 u54 u55 u56 u57 u58 u59 u60 u61 u62 u63 u64 u65 u66 u67 u68 u69 u70 u71 u72 u73 u74 u75 u76 u77 u78 u79 u80 u81 u82 u83 u84 u85 u86 u87 u88 u89 u90 u91 u92 u93 u94 u95 u96 u97 u98 u99 u100 u101 u102 u103 u104 u105 u106 u107 u108 u109 u110 u111 u112 u113 u114 u115 u116 u117 u118 u119 u120 u121 u122 u123 u124 u125 u126 u127 u128 u129 u130 u131 u132 u133 u134 u135 u136 u137 u138 u139 u140 u141 u142 u143 u144 u145 u146 u147 u148 u149 u150 u151 u152 u153 u154 u155 u156 u157 u158 u159 u160 u161 u162 u163 u164 u165 u166 u167 u168 u169 u170 u171 u172 u173 u174 u175 u176 u177 u178 u179 u180 u181 u182 u183 u184 u185 u186 u187 u188 u189 u190 u191 u192 u193 u194 u195 u196 u197 u198 u199 u200 u201 u202 u203 u204 u205 u206 u207 u208 u209 u210 u211 u212 u213 u214 u215 : Value) :
    Code.wp Tryd.prog (tail 6 (Tryd.f7.body.getD .skip)) (bodyPost Tryd.prog Tryd.f7 fun e w' => e = .returned (.bool true) ∧ Below w.heap.size w w') { tmps := #[.int .u8 (c : Int), u1, .int .i64 n, u3, u4, u5, u6, .bool true, .string x, u9, .slice none 0 0, .iface 45 (.pointer (some ⟨g, 0, none⟩)), .int .i64 0, .int .i64 5, u14, u15, u16, u17, u18, u19, u20, u21, u22, u23, u24, u25, u26, u27, u28, u29, u30, u31, u32, u33, u34, u35, u36, u37, u38, u39, u40, u41, u42, u43, u44, u45, u46, u47, u48, u49, u50, u51, u52, u53, u54, u55, u56, u57, u58, u59, u60, u61, u62, u63, u64, u65, u66, u67, u68, u69, u70, u71, u72, u73, u74, u75, u76, u77, u78, u79, u80, u81, u82, u83, u84, u85, u86, u87, u88, u89, u90, u91, u92, u93, u94, u95, u96, u97, u98, u99, u100, u101, u102, u103, u104, u105, u106, u107, u108, u109, u110, u111, u112, u113, u114, u115, u116, u117, u118, u119, u120, u121, u122, u123, u124, u125, u126, u127, u128, u129, u130, u131, u132, u133, u134, u135, u136, u137, u138, u139, u140, u141, u142, u143, u144, u145, u146, u147, u148, u149, u150, u151, u152, u153, u154, u155, u156, u157, u158, u159, u160, u161, u162, u163, u164, u165, u166, u167, u168, u169, u170, u171, u172, u173, u174, u175, u176, u177, u178, u179, u180, u181, u182, u183, u184, u185, u186, u187, u188, u189, u190, u191, u192, u193, u194, u195, u196, u197, u198, u199, u200, u201, u202, u203, u204, u205, u206, u207, u208, u209, u210, u211, u212, u213, u214, u215], defers := [] } w3 := by
  have HG := Lib.hid hg
  have HB3 := Lib.hid hb3
  have HN := Lib.hid hn
  clear hg hb3 hn
  have e1 : decide ((97 : Int) ≤ (c : Int)) = true := decide_eq_true (by omega)
  have e2 : decide ((c : Int) ≤ 122) = true := decide_eq_true (by omega)
  have e3 : decide ((65 : Int) ≤ (c : Int)) = true := decide_eq_true (by omega)
  have e4 : decide ((c : Int) ≤ 90) = false := decide_eq_false (by omega)
  have k1 : decide ((262144 : Int) < (x.size : Int)) = false := decide_eq_false (by omega)
  have k2 : decide ((8 : Int) < (x.size : Int)) = true := decide_eq_true (by omega)
  conv => arg 2; simp only [Tryd.f7, Option.getD_some, tail]
  go_upto_if 70 with fail
  go_cut [] from 26 (fun wc => wc = w3)
  case first =>
    go_wp2_with fail
    go_meet
    case rel => rfl
  case rest =>
    obtain rfl : w3 = wc := hcut.symm
    apply_assumption
    exact ph3 n HN.out w w3 HG.out HB3.out _ _ _ _ _ _ _ _ _ _ _ _ _ _ _ _ _ _ _ _ _ _ _ _ _ _ _ _ _ _ _ _ _ _ _ _ _ _ _ _ _ _ _ _ _ _ _ _ _ _ _ _ _ _ _ _ _ _ _ _ _ _ _ _ _ _ _ _ _ _ _ _ _ _ _ _ _ _ _ _ _ _ _ _ _ _ _ _ _ _ _ _ _ _ _ _ _ _ _ _ _ _ _ _ _ _ _ _ _ _ _ _ _ _ _ _ _ _ _ _ _ _ _ _ _ _ _ _ _ _ _ _ _ _ _ _ _ _ _ _ _ _ _ _ _ _ _ _ _ _ _ _ _ _ _ _ _ _ _ _ _ _ _ _ _ _ _ _ _ _ _ _ _ _ _ _ _ _ _ _ _ _ _ _ _ _ _ _ _ _ _ _ _ _ _ _ _ _ _ _ _ _ _ _ _ _ _ _ _ _ _ _ _ _

set_option linter.unusedVariables false in
set_option maxRecDepth 100000 in
set_option maxHeartbeats 1000000 in
theorem ph2_small_short (n : Int) (hn : -9223372036854775808 ≤ n ∧ n ≤ 9223372036854775807) (w w3 : World) (hg : Handle w) (hb3 : Below w.heap.size w w3) (c : Nat) (x : ByteArray) (hxb : x.size ≤ 281474976710656) (h1 : 97 ≤ c) (h2 : c ≤ 122) (g cap : Nat) (hz : ¬ 262144 < x.size) (hy : ¬ 8 < x.size) (a0 : w3.cell? ⟨g, 0, none⟩ = some (.int .i64 2)) (a1 : w3.cell? ⟨g, 1, none⟩ = some (.int .i64 0)) (a2 : w3.cell? ⟨g, 2, none⟩ = some (.string x)) (a3 : w3.cell? ⟨g, 3, none⟩ = some (.int .i64 0)) (u1 u3 u4 u5 u6 u9 u14 u15 u16 u17 u18 u19 u20 u21 u22 u23 u24 u25 u26 u27 u28 u29 u30 u31 u32 u33 u34 u35 u36 u37 u38 u39 u40 u41 u42 u43 u44 u45 u46 u47 u48 u49 u50 u51 u52 u53 u54 u55 u56 u57 u58 u59 u60 u61 u62 u63 u64 u65 u66 u67 u68 u69 u70 u71 u72 u73 u74 u75 u76 u77 u78 u79 u80 u81 u82 u83 u84 u85 u86 u87 u88 u89 u90 u91 u92 u93 u94 u95 u96 u97 u98 u99 u100 u101 u102 u103 u104 u105 u106 u107 u108 u109 u110 u111 u112 u113 u114 u115 u116 u117 u118 u119 u120 u121 u122 u123 u124 u125 u126 u127 u128 u129 u130 u131 u132 u133 u134 u135 u136 u137 u138 u139 u140 u141 u142 u143 u144 u145 u146 u147 u148 u149 u150 u151 u152 u153 u154 u155 u156 u157 u158 u159 u160 u161 u162 u163 u164 u165 u166 u167 u168 u169 u170 u171 u172 u173 u174 u175 u176 u177 u178 u179 u180 u181 u182 u183 u184 u185 u186 u187 u188 u189 u190 u191 u192 u193 u194 u195 u196 u197 u198 u199 u200 u201 u202 u203 u204 u205 u206 u207 u208 u209 u210 u211 u212 u213 u214 u215 : Value) :
    Code.wp Tryd.prog (tail 6 (Tryd.f7.body.getD .skip)) (bodyPost Tryd.prog Tryd.f7 fun e w' => e = .returned (.bool true) ∧ Below w.heap.size w w') { tmps := #[.int .u8 (c : Int), u1, .int .i64 n, u3, u4, u5, u6, .bool true, .string x, u9, .slice (some ⟨g, 0, none⟩) 2 cap, .nilIface, .int .i64 0, .int .i64 0, u14, u15, u16, u17, u18, u19, u20, u21, u22, u23, u24, u25, u26, u27, u28, u29, u30, u31, u32, u33, u34, u35, u36, u37, u38, u39, u40, u41, u42, u43, u44, u45, u46, u47, u48, u49, u50, u51, u52, u53, u54, u55, u56, u57, u58, u59, u60, u61, u62, u63, u64, u65, u66, u67, u68, u69, u70, u71, u72, u73, u74, u75, u76, u77, u78, u79, u80, u81, u82, u83, u84, u85, u86, u87, u88, u89, u90, u91, u92, u93, u94, u95, u96, u97, u98, u99, u100, u101, u102, u103, u104, u105, u106, u107, u108, u109, u110, u111, u112, u113, u114, u115, u116, u117, u118, u119, u120, u121, u122, u123, u124, u125, u126, u127, u128, u129, u130, u131, u132, u133, u134, u135, u136, u137, u138, u139, u140, u141, u142, u143, u144, u145, u146, u147, u148, u149, u150, u151, u152, u153, u154, u155, u156, u157, u158, u159, u160, u161, u162, u163, u164, u165, u166, u167, u168, u169, u170, u171, u172, u173, u174, u175, u176, u177, u178, u179, u180, u181, u182, u183, u184, u185, u186, u187, u188, u189, u190, u191, u192, u193, u194, u195, u196, u197, u198, u199, u200, u201, u202, u203, u204, u205, u206, u207, u208, u209, u210, u211, u212, u213, u214, u215], defers := [] } w3 := by
  have HG := Lib.hid hg
  have HB3 := Lib.hid hb3
  have HN := Lib.hid hn
  clear hg hb3 hn
  have e1 : decide ((97 : Int) ≤ (c : Int)) = true := decide_eq_true (by omega)
  have e2 : decide ((c : Int) ≤ 122) = true := decide_eq_true (by omega)
  have e3 : decide ((65 : Int) ≤ (c : Int)) = true := decide_eq_true (by omega)
  have e4 : decide ((c : Int) ≤ 90) = false := decide_eq_false (by omega)
  have k1 : decide ((262144 : Int) < (x.size : Int)) = false := decide_eq_false (by omega)
  have k2 : decide ((8 : Int) < (x.size : Int)) = false := decide_eq_false (by omega)
  conv => arg 2; simp only [Tryd.f7, Option.getD_some, tail]
  go_upto_if 70 with fail
  go_cut [] from 26 (fun wc => wc = w3)
  case first =>
    go_wp2_with fail
    go_meet
    case rel => rfl
  case rest =>
    obtain rfl : w3 = wc := hcut.symm
    apply_assumption
    exact ph3 n HN.out w w3 HG.out HB3.out _ _ _ _ _ _ _ _ _ _ _ _ _ _ _ _ _ _ _ _ _ _ _ _ _ _ _ _ _ _ _ _ _ _ _ _ _ _ _ _ _ _ _ _ _ _ _ _ _ _ _ _ _ _ _ _ _ _ _ _ _ _ _ _ _ _ _ _ _ _ _ _ _ _ _ _ _ _ _ _ _ _ _ _ _ _ _ _ _ _ _ _ _ _ _ _ _ _ _ _ _ _ _ _ _ _ _ _ _ _ _ _ _ _ _ _ _ _ _ _ _ _ _ _ _ _ _ _ _ _ _ _ _ _ _ _ _ _ _ _ _ _ _ _ _ _ _ _ _ _ _ _ _ _ _ _ _ _ _ _ _ _ _ _ _ _ _ _ _ _ _ _ _ _ _ _ _ _ _ _ _ _ _ _ _ _ _ _ _ _ _ _ _ _ _ _ _ _ _ _ _ _ _ _ _ _ _ _ _ _ _ _ _ _

set_option linter.unusedVariables false in
set_option maxRecDepth 100000 in
set_option maxHeartbeats 1000000 in
theorem ph2_capital_big (n : Int) (hn : -9223372036854775808 ≤ n ∧ n ≤ 9223372036854775807) (w w3 : World) (hg : Handle w) (hb3 : Below w.heap.size w w3) (c : Nat) (x : ByteArray) (hxb : x.size ≤ 281474976710656) (h1 : 65 ≤ c) (h2 : c ≤ 90) (g : Nat) (hz : 262144 < x.size) (u1 u3 u4 u5 u6 u9 u14 u15 u16 u17 u18 u19 u20 u21 u22 u23 u24 u25 u26 u27 u28 u29 u30 u31 u32 u33 u34 u35 u36 u37 u38 u39 u40 u41 u42 u43 u44 u45 u46 u47 u48 u49 u50 u51 u52 u53 u54 u55 u56 u57 u58 u59 u60 u61 u62 u63 u64 u65 u66 u67 u68 u69 u70 u71 u72 u73 u74 u75 u76 u77 u78 u79 u80 u81 u82 u83 u84 u85 u86 u87 u88 u89 u90 u91 u92 u93 u94 u95 u96 u97 u98 u99 u100 u101 u102 u103 u104 u105 u106 u107 u108 u109 u110 u111 u112 u113 u114 u115 u116 u117 u118 u119 u120 u121 u122 u123 u124 u125 u126 u127 u128 u129 u130 u131 u132 u133 u134 u135 u136 u137 u138 u139 u140 u141 u142 u143 u144 u145 u146 u147 u148 u149 u150 u151 u152 u153 u154 u155 u156 u157 u158 u159 u160 u161 u162 u163 u164 u165 u166 u167 u168 u169 u170 u171 u172 u173 u174 u175 u176 u177 u178 u179 u180 u181 u182 u183 u184 u185 u186 u187 u188 u189 u190 u191 u192 u193 u194 u195 u196 u197 u198 u199 u200 u201 u202 u203 u204 u205 u206 u207 u208 u209 u210 u211 u212 u213 u214 u215 : Value) :
    Code.wp Tryd.prog (tail 6 (Tryd.f7.body.getD .skip)) (bodyPost Tryd.prog Tryd.f7 fun e w' => e = .returned (.bool true) ∧ Below w.heap.size w w') { tmps := #[.int .u8 (c : Int), u1, .int .i64 n, u3, u4, u5, u6, .bool true, .string x, u9, .slice none 0 0, .iface 45 (.pointer (some ⟨g, 0, none⟩)), .int .i64 262144, .int .i64 2, u14, u15, u16, u17, u18, u19, u20, u21, u22, u23, u24, u25, u26, u27, u28, u29, u30, u31, u32, u33, u34, u35, u36, u37, u38, u39, u40, u41, u42, u43, u44, u45, u46, u47, u48, u49, u50, u51, u52, u53, u54, u55, u56, u57, u58, u59, u60, u61, u62, u63, u64, u65, u66, u67, u68, u69, u70, u71, u72, u73, u74, u75, u76, u77, u78, u79, u80, u81, u82, u83, u84, u85, u86, u87, u88, u89, u90, u91, u92, u93, u94, u95, u96, u97, u98, u99, u100, u101, u102, u103, u104, u105, u106, u107, u108, u109, u110, u111, u112, u113, u114, u115, u116, u117, u118, u119, u120, u121, u122, u123, u124, u125, u126, u127, u128, u129, u130, u131, u132, u133, u134, u135, u136, u137, u138, u139, u140, u141, u142, u143, u144, u145, u146, u147, u148, u149, u150, u151, u152, u153, u154, u155, u156, u157, u158, u159, u160, u161, u162, u163, u164, u165, u166, u167, u168, u169, u170, u171, u172, u173, u174, u175, u176, u177, u178, u179, u180, u181, u182, u183, u184, u185, u186, u187, u188, u189, u190, u191, u192, u193, u194, u195, u196, u197, u198, u199, u200, u201, u202, u203, u204, u205, u206, u207, u208, u209, u210, u211, u212, u213, u214, u215], defers := [] } w3 := by
  have HG := Lib.hid hg
  have HB3 := Lib.hid hb3
  have HN := Lib.hid hn
  clear hg hb3 hn
  have e1 : decide ((97 : Int) ≤ (c : Int)) = false := decide_eq_false (by omega)
  have e3 : decide ((65 : Int) ≤ (c : Int)) = true := decide_eq_true (by omega)
  have e4 : decide ((c : Int) ≤ 90) = true := decide_eq_true (by omega)
  have k1 : decide ((262144 : Int) < (x.size : Int)) = true := decide_eq_true (by omega)
  conv => arg 2; simp only [Tryd.f7, Option.getD_some, tail]
  go_upto_if 70 with fail
  go_cut [] from 26 (fun wc => wc = w3)
  case first =>
    go_wp2_with fail
    go_meet
    case rel => rfl
  case rest =>
    obtain rfl : w3 = wc := hcut.symm
    apply_assumption
    exact ph3 n HN.out w w3 HG.out HB3.out _ _ _ _ _ _ _ _ _ _ _ _ _ _ _ _ _ _ _ _ _ _ _ _ _ _ _ _ _ _ _ _ _ _ _ _ _ _ _ _ _ _ _ _ _ _ _ _ _ _ _ _ _ _ _ _ _ _ _ _ _ _ _ _ _ _ _ _ _ _ _ _ _ _ _ _ _ _ _ _ _ _ _ _ _ _ _ _ _ _ _ _ _ _ _ _ _ _ _ _ _ _ _ _ _ _ _ _ _ _ _ _ _ _ _ _ _ _ _ _ _ _ _ _ _ _ _ _ _ _ _ _ _ _ _ _ _ _ _ _ _ _ _ _ _ _ _ _ _ _ _ _ _ _ _ _ _ _ _ _ _ _ _ _ _ _ _ _ _ _ _ _ _ _ _ _ _ _ _ _ _ _ _ _ _ _ _ _ _ _ _ _ _ _ _ _ _ _ _ _ _ _ _ _ _ _ _ _ _ _ _ _ _ _

set_option linter.unusedVariables false in
set_option maxRecDepth 100000 in
set_option maxHeartbeats 1000000 in
theorem ph2_capital_long (n : Int) (hn : -9223372036854775808 ≤ n ∧ n ≤ 9223372036854775807) (w w3 : World) (hg : Handle w) (hb3 : Below w.heap.size w w3) (c : Nat) (x : ByteArray) (hxb : x.size ≤ 281474976710656) (h1 : 65 ≤ c) (h2 : c ≤ 90) (g : Nat) (hz : ¬ 262144 < x.size) (hy : 8 < x.size) (u1 u3 u4 u5 u6 u9 u14 u15 u16 u17 u18 u19 u20 u21 u22 u23 u24 u25 u26 u27 u28 u29 u30 u31 u32 u33 u34 u35 u36 u37 u38 u39 u40 u41 u42 u43 u44 u45 u46 u47 u48 u49 u50 u51 u52 u53 u54 u55 u56 u57 u58 u59 u60 u61 u62 u63 u64 u65 u66 u67 u68 u69 u70 u71 u72 u73 u74 u75 u76 u77 u78 u79 u80 u81 u82 u83 u84 u85 u86 u87 u88 u89 u90 u91 u92 u93 u94 u95 u96 u97 u98 u99 u100 u101 u102 u103 u104 u105 u106 u107 u108 u109 u110 u111 u112 u113 u114 u115 u116 u117 u118 u119 u120 u121 u122 u123 u124 u125 u126 u127 u128 u129 u130 u131 u132 u133 u134 u135 u136 u137 u138 u139 u140 u141 u142 u143 u144 u145 u146 u147 u148 u149 u150 u151 u152 u153 u154 u155 u156 u157 u158 u159 u160 u161 u162 u163 u164 u165 u166 u167 u168 u169 u170 u171 u172 u173 u174 u175 u176 u177 u178 u179 u180 u181 u182 u183 u184 u185 u186 u187 u188 u189 u190 u191 u192 u193 u194 u195 u196 u197 u198 u199 u200 u201 u202 u203 u204 u205 u206 u207 u208 u209 u210 u211 u212 u213 u214 u215 : Value) :
    Code.wp Tryd.prog (tail 6 (Tryd.f7.body.getD .skip)) (bodyPost Tryd.prog Tryd.f7 fun e w' => e = .returned (.bool true) ∧ Below w.heap.size w w') { tmps := #[.int .u8 (c : Int), u1, .int .i64 n, u3, u4, u5, u6, .bool true, .string x, u9, .slice none 0 0, .iface 45 (.pointer (some ⟨g, 0, none⟩)), .int .i64 0, .int .i64 5, u14, u15, u16, u17, u18, u19, u20, u21, u22, u23, u24, u25, u26, u27, u28, u29, u30, u31, u32, u33, u34, u35, u36, u37, u38, u39, u40, u41, u42, u43, u44, u45, u46, u47, u48, u49, u50, u51, u52, u53, u54, u55, u56, u57, u58, u59, u60, u61, u62, u63, u64, u65, u66, u67, u68, u69, u70, u71, u72, u73, u74, u75, u76, u77, u78, u79, u80, u81, u82, u83, u84, u85, u86, u87, u88, u89, u90, u91, u92, u93, u94, u95, u96, u97, u98, u99, u100, u101, u102, u103, u104, u105, u106, u107, u108, u109, u110, u111, u112, u113, u114, u115, u116, u117, u118, u119, u120, u121, u122, u123, u124, u125, u126, u127, u128, u129, u130, u131, u132, u133, u134, u135, u136, u137, u138, u139, u140, u141, u142, u143, u144, u145, u146, u147, u148, u149, u150, u151, u152, u153, u154, u155, u156, u157, u158, u159, u160, u161, u162, u163, u164, u165, u166, u167, u168, u169, u170, u171, u172, u173, u174, u175, u176, u177, u178, u179, u180, u181, u182, u183, u184, u185, u186, u187, u188, u189, u190, u191, u192, u193, u194, u195, u196, u197, u198, u199, u200, u201, u202, u203, u204, u205, u206, u207, u208, u209, u210, u211, u212, u213, u214, u215], defers := [] } w3 := by
  have HG := Lib.hid hg
  have HB3 := Lib.hid hb3
  have HN := Lib.hid hn
  clear hg hb3 hn
  have e1 : decide ((97 : Int) ≤ (c : Int)) = false := decide_eq_false (by omega)
  have e3 : decide ((65 : Int) ≤ (c : Int)) = true := decide_eq_true (by omega)
  have e4 : decide ((c : Int) ≤ 90) = true := decide_eq_true (by omega)
  have k1 : decide ((262144 : Int) < (x.size : Int)) = false := decide_eq_false (by omega)
  have k2 : decide ((8 : Int) < (x.size : Int)) = true := decide_eq_true (by omega)
  conv => arg 2; simp only [Tryd.f7, Option.getD_some, tail]
  go_upto_if 70 with fail
  go_cut [] from 26 (fun wc => wc = w3)
  case first =>
    go_wp2_with fail
    go_meet
    case rel => rfl
  case rest =>
    obtain rfl : w3 = wc := hcut.symm
    apply_assumption
    exact ph3 n HN.out w w3 HG.out HB3.out _ _ _ _ _ _ _ _ _ _ _ _ _ _ _ _ _ _ _ _ _ _ _ _ _ _ _ _ _ _ _ _ _ _ _ _ _ _ _ _ _ _ _ _ _ _ _ _ _ _ _ _ _ _ _ _ _ _ _ _ _ _ _ _ _ _ _ _ _ _ _ _ _ _ _ _ _ _ _ _ _ _ _ _ _ _ _ _ _ _ _ _ _ _ _ _ _ _ _ _ _ _ _ _ _ _ _ _ _ _ _ _ _ _ _ _ _ _ _ _ _ _ _ _ _ _ _ _ _ _ _ _ _ _ _ _ _ _ _ _ _ _ _ _ _ _ _ _ _ _ _ _ _ _ _ _ _ _ _ _ _ _ _ _ _ _ _ _ _ _ _ _ _ _ _ _ _ _ _ _ _ _ _ _ _ _ _ _ _ _ _ _ _ _ _ _ _ _ _ _ _ _ _ _ _ _ _ _ _ _ _ _ _ _

set_option linter.unusedVariables false in
set_option maxRecDepth 100000 in
set_option maxHeartbeats 1000000 in
theorem ph2_capital_short (n : Int) (hn : -9223372036854775808 ≤ n ∧ n ≤ 9223372036854775807) (w w3 : World) (hg : Handle w) (hb3 : Below w.heap.size w w3) (c : Nat) (x : ByteArray) (hxb : x.size ≤ 281474976710656) (h1 : 65 ≤ c) (h2 : c ≤ 90) (g cap : Nat) (hz : ¬ 262144 < x.size) (hy : ¬ 8 < x.size) (a0 : w3.cell? ⟨g, 0, none⟩ = some (.int .i64 3)) (a1 : w3.cell? ⟨g, 1, none⟩ = some (.int .i64 0)) (a2 : w3.cell? ⟨g, 2, none⟩ = some (.string x)) (a3 : w3.cell? ⟨g, 3, none⟩ = some (.int .i64 0)) (u1 u3 u4 u5 u6 u9 u14 u15 u16 u17 u18 u19 u20 u21 u22 u23 u24 u25 u26 u27 u28 u29 u30 u31 u32 u33 u34 u35 u36 u37 u38 u39 u40 u41 u42 u43 u44 u45 u46 u47 u48 u49 u50 u51 u52 u53 u54 u55 u56 u57 u58 u59 u60 u61 u62 u63 u64 u65 u66 u67 u68 u69 u70 u71 u72 u73 u74 u75 u76 u77 u78 u79 u80 u81 u82 u83 u84 u85 u86 u87 u88 u89 u90 u91 u92 u93 u94 u95 u96 u97 u98 u99 u100 u101 u102 u103 u104 u105 u106 u107 u108 u109 u110 u111 u112 u113 u114 u115 u116 u117 u118 u119 u120 u121 u122 u123 u124 u125 u126 u127 u128 u129 u130 u131 u132 u133 u134 u135 u136 u137 u138 u139 u140 u141 u142 u143 u144 u145 u146 u147 u148 u149 u150 u151 u152 u153 u154 u155 u156 u157 u158 u159 u160 u161 u162 u163 u164 u165 u166 u167 u168 u169 u170 u171 u172 u173 u174 u175 u176 u177 u178 u179 u180 u181 u182 u183 u184 u185 u186 u187 u188 u189 u190 u191 u192 u193 u194 u195 u196 u197 u198 u199 u200 u201 u202 u203 u204 u205 u206 u207 u208 u209 u210 u211 u212 u213 u214 u215 : Value) :
    Code.wp Tryd.prog (tail 6 (Tryd.f7.body.getD .skip)) (bodyPost Tryd.prog Tryd.f7 fun e w' => e = .returned (.bool true) ∧ Below w.heap.size w w') { tmps := #[.int .u8 (c : Int), u1, .int .i64 n, u3, u4, u5, u6, .bool true, .string x, u9, .slice (some ⟨g, 0, none⟩) 2 cap, .nilIface, .int .i64 0, .int .i64 0, u14, u15, u16, u17, u18, u19, u20, u21, u22, u23, u24, u25, u26, u27, u28, u29, u30, u31, u32, u33, u34, u35, u36, u37, u38, u39, u40, u41, u42, u43, u44, u45, u46, u47, u48, u49, u50, u51, u52, u53, u54, u55, u56, u57, u58, u59, u60, u61, u62, u63, u64, u65, u66, u67, u68, u69, u70, u71, u72, u73, u74, u75, u76, u77, u78, u79, u80, u81, u82, u83, u84, u85, u86, u87, u88, u89, u90, u91, u92, u93, u94, u95, u96, u97, u98, u99, u100, u101, u102, u103, u104, u105, u106, u107, u108, u109, u110, u111, u112, u113, u114, u115, u116, u117, u118, u119, u120, u121, u122, u123, u124, u125, u126, u127, u128, u129, u130, u131, u132, u133, u134, u135, u136, u137, u138, u139, u140, u141, u142, u143, u144, u145, u146, u147, u148, u149, u150, u151, u152, u153, u154, u155, u156, u157, u158, u159, u160, u161, u162, u163, u164, u165, u166, u167, u168, u169, u170, u171, u172, u173, u174, u175, u176, u177, u178, u179, u180, u181, u182, u183, u184, u185, u186, u187, u188, u189, u190, u191, u192, u193, u194, u195, u196, u197, u198, u199, u200, u201, u202, u203, u204, u205, u206, u207, u208, u209, u210, u211, u212, u213, u214, u215], defers := [] } w3 := by
  have HG := Lib.hid hg
  have HB3 := Lib.hid hb3
  have HN := Lib.hid hn
  clear hg hb3 hn
  have e1 : decide ((97 : Int) ≤ (c : Int)) = false := decide_eq_false (by omega)
  have e3 : decide ((65 : Int) ≤ (c : Int)) = true := decide_eq_true (by omega)
  have e4 : decide ((c : Int) ≤ 90) = true := decide_eq_true (by omega)
  have k1 : decide ((262144 : Int) < (x.size : Int)) = false := decide_eq_false (by omega)
  have k2 : decide ((8 : Int) < (x.size : Int)) = false := decide_eq_false (by omega)
  conv => arg 2; simp only [Tryd.f7, Option.getD_some, tail]
  go_upto_if 70 with fail
  go_cut [] from 26 (fun wc => wc = w3)
  case first =>
    go_wp2_with fail
    go_meet
    case rel => rfl
  case rest =>
    obtain rfl : w3 = wc := hcut.symm
    apply_assumption
    exact ph3 n HN.out w w3 HG.out HB3.out _ _ _ _ _ _ _ _ _ _ _ _ _ _ _ _ _ _ _ _ _ _ _ _ _ _ _ _ _ _ _ _ _ _ _ _ _ _ _ _ _ _ _ _ _ _ _ _ _ _ _ _ _ _ _ _ _ _ _ _ _ _ _ _ _ _ _ _ _ _ _ _ _ _ _ _ _ _ _ _ _ _ _ _ _ _ _ _ _ _ _ _ _ _ _ _ _ _ _ _ _ _ _ _ _ _ _ _ _ _ _ _ _ _ _ _ _ _ _ _ _ _ _ _ _ _ _ _ _ _ _ _ _ _ _ _ _ _ _ _ _ _ _ _ _ _ _ _ _ _ _ _ _ _ _ _ _ _ _ _ _ _ _ _ _ _ _ _ _ _ _ _ _ _ _ _ _ _ _ _ _ _ _ _ _ _ _ _ _ _ _ _ _ _ _ _ _ _ _ _ _ _ _ _ _ _ _ _ _ _ _ _ _ _

set_option linter.unusedVariables false in
set_option maxRecDepth 100000 in
set_option maxHeartbeats 1000000 in
theorem ph2_low (n : Int) (hn : -9223372036854775808 ≤ n ∧ n ≤ 9223372036854775807) (w w3 : World) (hg : Handle w) (hb3 : Below w.heap.size w w3) (c : Nat) (x : ByteArray) (hxb : x.size ≤ 281474976710656) (h1 : c < 65) (u1 u3 u4 u5 u6 u9 u10 u11 u12 u13 u14 u15 u16 u17 u18 u19 u20 u21 u22 u23 u24 u25 u26 u27 u28 u29 u30 u31 u32 u33 u34 u35 u36 u37 u38 u39 u40 u41 u42 u43 u44 u45 u46 u47 u48 u49 u50 u51 u52 u53 u54 u55 u56 u57 u58 u59 u60 u61 u62 u63 u64 u65 u66 u67 u68 u69 u70 u71 u72 u73 u74 u75 u76 u77 u78 u79 u80 u81 u82 u83 u84 u85 u86 u87 u88 u89 u90 u91 u92 u93 u94 u95 u96 u97 u98 u99 u100 u101 u102 u103 u104 u105 u106 u107 u108 u109 u110 u111 u112 u113 u114 u115 u116 u117 u118 u119 u120 u121 u122 u123 u124 u125 u126 u127 u128 u129 u130 u131 u132 u133 u134 u135 u136 u137 u138 u139 u140 u141 u142 u143 u144 u145 u146 u147 u148 u149 u150 u151 u152 u153 u154 u155 u156 u157 u158 u159 u160 u161 u162 u163 u164 u165 u166 u167 u168 u169 u170 u171 u172 u173 u174 u175 u176 u177 u178 u179 u180 u181 u182 u183 u184 u185 u186 u187 u188 u189 u190 u191 u192 u193 u194 u195 u196 u197 u198 u199 u200 u201 u202 u203 u204 u205 u206 u207 u208 u209 u210 u211 u212 u213 u214 u215 : Value) :
    Code.wp Tryd.prog (tail 6 (Tryd.f7.body.getD .skip)) (bodyPost Tryd.prog Tryd.f7 fun e w' => e = .returned (.bool true) ∧ Below w.heap.size w w') { tmps := #[.int .u8 (c : Int), u1, .int .i64 n, u3, u4, u5, u6, .bool true, .string x, u9, u10, u11, u12, u13, u14, u15, u16, u17, u18, u19, u20, u21, u22, u23, u24, u25, u26, u27, u28, u29, u30, u31, u32, u33, u34, u35, u36, u37, u38, u39, u40, u41, u42, u43, u44, u45, u46, u47, u48, u49, u50, u51, u52, u53, u54, u55, u56, u57, u58, u59, u60, u61, u62, u63, u64, u65, u66, u67, u68, u69, u70, u71, u72, u73, u74, u75, u76, u77, u78, u79, u80, u81, u82, u83, u84, u85, u86, u87, u88, u89, u90, u91, u92, u93, u94, u95, u96, u97, u98, u99, u100, u101, u102, u103, u104, u105, u106, u107, u108, u109, u110, u111, u112, u113, u114, u115, u116, u117, u118, u119, u120, u121, u122, u123, u124, u125, u126, u127, u128, u129, u130, u131, u132, u133, u134, u135, u136, u137, u138, u139, u140, u141, u142, u143, u144, u145, u146, u147, u148, u149, u150, u151, u152, u153, u154, u155, u156, u157, u158, u159, u160, u161, u162, u163, u164, u165, u166, u167, u168, u169, u170, u171, u172, u173, u174, u175, u176, u177, u178, u179, u180, u181, u182, u183, u184, u185, u186, u187, u188, u189, u190, u191, u192, u193, u194, u195, u196, u197, u198, u199, u200, u201, u202, u203, u204, u205, u206, u207, u208, u209, u210, u211, u212, u213, u214, u215], defers := [] } w3 := by
  have HG := Lib.hid hg
  have HB3 := Lib.hid hb3
  have HN := Lib.hid hn
  clear hg hb3 hn
  have e1 : decide ((97 : Int) ≤ (c : Int)) = false := decide_eq_false (by omega)
  have e3 : decide ((65 : Int) ≤ (c : Int)) = false := decide_eq_false (by omega)
  conv => arg 2; simp only [Tryd.f7, Option.getD_some, tail]
  go_upto_if 70 with fail
  go_cut [] from 26 (fun wc => wc = w3)
  case first =>
    go_wp2_with fail
    go_meet
    case rel => rfl
  case rest =>
    obtain rfl : w3 = wc := hcut.symm
    apply_assumption
    exact ph3 n HN.out w w3 HG.out HB3.out _ _ _ _ _ _ _ _ _ _ _ _ _ _ _ _ _ _ _ _ _ _ _ _ _ _ _ _ _ _ _ _ _ _ _ _ _ _ _ _ _ _ _ _ _ _ _ _ _ _ _ _ _ _ _ _ _ _ _ _ _ _ _ _ _ _ _ _ _ _ _ _ _ _ _ _ _ _ _ _ _ _ _ _ _ _ _ _ _ _ _ _ _ _ _ _ _ _ _ _ _ _ _ _ _ _ _ _ _ _ _ _ _ _ _ _ _ _ _ _ _ _ _ _ _ _ _ _ _ _ _ _ _ _ _ _ _ _ _ _ _ _ _ _ _ _ _ _ _ _ _ _ _ _ _ _ _ _ _ _ _ _ _ _ _ _ _ _ _ _ _ _ _ _ _ _ _ _ _ _ _ _ _ _ _ _ _ _ _ _ _ _ _ _ _ _ _ _ _ _ _ _ _ _ _ _ _ _ _ _ _ _ _ _

set_option linter.unusedVariables false in
set_option maxRecDepth 100000 in
set_option maxHeartbeats 1000000 in
theorem ph2_mid (n : Int) (hn : -9223372036854775808 ≤ n ∧ n ≤ 9223372036854775807) (w w3 : World) (hg : Handle w) (hb3 : Below w.heap.size w w3) (c : Nat) (x : ByteArray) (hxb : x.size ≤ 281474976710656) (h1 : 90 < c) (h2 : c < 97) (u1 u3 u4 u5 u6 u9 u10 u11 u12 u13 u14 u15 u16 u17 u18 u19 u20 u21 u22 u23 u24 u25 u26 u27 u28 u29 u30 u31 u32 u33 u34 u35 u36 u37 u38 u39 u40 u41 u42 u43 u44 u45 u46 u47 u48 u49 u50 u51 u52 u53 u54 u55 u56 u57 u58 u59 u60 u61 u62 u63 u64 u65 u66 u67 u68 u69 u70 u71 u72 u73 u74 u75 u76 u77 u78 u79 u80 u81 u82 u83 u84 u85 u86 u87 u88 u89 u90 u91 u92 u93 u94 u95 u96 u97 u98 u99 u100 u101 u102 u103 u104 u105 u106 u107 u108 u109 u110 u111 u112 u113 u114 u115 u116 u117 u118 u119 u120 u121 u122 u123 u124 u125 u126 u127 u128 u129 u130 u131 u132 u133 u134 u135 u136 u137 u138 u139 u140 u141 u142 u143 u144 u145 u146 u147 u148 u149 u150 u151 u152 u153 u154 u155 u156 u157 u158 u159 u160 u161 u162 u163 u164 u165 u166 u167 u168 u169 u170 u171 u172 u173 u174 u175 u176 u177 u178 u179 u180 u181 u182 u183 u184 u185 u186 u187 u188 u189 u190 u191 u192 u193 u194 u195 u196 u197 u198 u199 u200 u201 u202 u203 u204 u205 u206 u207 u208 u209 u210 u211 u212 u213 u214 u215 : Value) :
    Code.wp Tryd.prog (tail 6 (Tryd.f7.body.getD .skip)) (bodyPost Tryd.prog Tryd.f7 fun e w' => e = .returned (.bool true) ∧ Below w.heap.size w w') { tmps := #[.int .u8 (c : Int), u1, .int .i64 n, u3, u4, u5, u6, .bool true, .string x, u9, u10, u11, u12, u13, u14, u15, u16, u17, u18, u19, u20, u21, u22, u23, u24, u25, u26, u27, u28, u29, u30, u31, u32, u33, u34, u35, u36, u37, u38, u39, u40, u41, u42, u43, u44, u45, u46, u47, u48, u49, u50, u51, u52, u53, u54, u55, u56, u57, u58, u59, u60, u61, u62, u63, u64, u65, u66, u67, u68, u69, u70, u71, u72, u73, u74, u75, u76, u77, u78, u79, u80, u81, u82, u83, u84, u85, u86, u87, u88, u89, u90, u91, u92, u93, u94, u95, u96, u97, u98, u99, u100, u101, u102, u103, u104, u105, u106, u107, u108, u109, u110, u111, u112, u113, u114, u115, u116, u117, u118, u119, u120, u121, u122, u123, u124, u125, u126, u127, u128, u129, u130, u131, u132, u133, u134, u135, u136, u137, u138, u139, u140, u141, u142, u143, u144, u145, u146, u147, u148, u149, u150, u151, u152, u153, u154, u155, u156, u157, u158, u159, u160, u161, u162, u163, u164, u165, u166, u167, u168, u169, u170, u171, u172, u173, u174, u175, u176, u177, u178, u179, u180, u181, u182, u183, u184, u185, u186, u187, u188, u189, u190, u191, u192, u193, u194, u195, u196, u197, u198, u199, u200, u201, u202, u203, u204, u205, u206, u207, u208, u209, u210, u211, u212, u213, u214, u215], defers := [] } w3 := by
  have HG := Lib.hid hg
  have HB3 := Lib.hid hb3
  have HN := Lib.hid hn
  clear hg hb3 hn
  have e1 : decide ((97 : Int) ≤ (c : Int)) = false := decide_eq_false (by omega)
  have e3 : decide ((65 : Int) ≤ (c : Int)) = true := decide_eq_true (by omega)
  have e4 : decide ((c : Int) ≤ 90) = false := decide_eq_false (by omega)
  conv => arg 2; simp only [Tryd.f7, Option.getD_some, tail]
  go_upto_if 70 with fail
  go_cut [] from 26 (fun wc => wc = w3)
  case first =>
    go_wp2_with fail
    go_meet
    case rel => rfl
  case rest =>
    obtain rfl : w3 = wc := hcut.symm
    apply_assumption
    exact ph3 n HN.out w w3 HG.out HB3.out _ _ _ _ _ _ _ _ _ _ _ _ _ _ _ _ _ _ _ _ _ _ _ _ _ _ _ _ _ _ _ _ _ _ _ _ _ _ _ _ _ _ _ _ _ _ _ _ _ _ _ _ _ _ _ _ _ _ _ _ _ _ _ _ _ _ _ _ _ _ _ _ _ _ _ _ _ _ _ _ _ _ _ _ _ _ _ _ _ _ _ _ _ _ _ _ _ _ _ _ _ _ _ _ _ _ _ _ _ _ _ _ _ _ _ _ _ _ _ _ _ _ _ _ _ _ _ _ _ _ _ _ _ _ _ _ _ _ _ _ _ _ _ _ _ _ _ _ _ _ _ _ _ _ _ _ _ _ _ _ _ _ _ _ _ _ _ _ _ _ _ _ _ _ _ _ _ _ _ _ _ _ _ _ _ _ _ _ _ _ _ _ _ _ _ _ _ _ _ _ _ _ _ _ _ _ _ _ _ _ _ _ _ _

set_option linter.unusedVariables false in
set_option maxRecDepth 100000 in
set_option maxHeartbeats 1000000 in
theorem ph2_high (n : Int) (hn : -9223372036854775808 ≤ n ∧ n ≤ 9223372036854775807) (w w3 : World) (hg : Handle w) (hb3 : Below w.heap.size w w3) (c : Nat) (x : ByteArray) (hxb : x.size ≤ 281474976710656) (h1 : 122 < c) (u1 u3 u4 u5 u6 u9 u10 u11 u12 u13 u14 u15 u16 u17 u18 u19 u20 u21 u22 u23 u24 u25 u26 u27 u28 u29 u30 u31 u32 u33 u34 u35 u36 u37 u38 u39 u40 u41 u42 u43 u44 u45 u46 u47 u48 u49 u50 u51 u52 u53 u54 u55 u56 u57 u58 u59 u60 u61 u62 u63 u64 u65 u66 u67 u68 u69 u70 u71 u72 u73 u74 u75 u76 u77 u78 u79 u80 u81 u82 u83 u84 u85 u86 u87 u88 u89 u90 u91 u92 u93 u94 u95 u96 u97 u98 u99 u100 u101 u102 u103 u104 u105 u106 u107 u108 u109 u110 u111 u112 u113 u114 u115 u116 u117 u118 u119 u120 u121 u122 u123 u124 u125 u126 u127 u128 u129 u130 u131 u132 u133 u134 u135 u136 u137 u138 u139 u140 u141 u142 u143 u144 u145 u146 u147 u148 u149 u150 u151 u152 u153 u154 u155 u156 u157 u158 u159 u160 u161 u162 u163 u164 u165 u166 u167 u168 u169 u170 u171 u172 u173 u174 u175 u176 u177 u178 u179 u180 u181 u182 u183 u184 u185 u186 u187 u188 u189 u190 u191 u192 u193 u194 u195 u196 u197 u198 u199 u200 u201 u202 u203 u204 u205 u206 u207 u208 u209 u210 u211 u212 u213 u214 u215 : Value) :
    Code.wp Tryd.prog (tail 6 (Tryd.f7.body.getD .skip)) (bodyPost Tryd.prog Tryd.f7 fun e w' => e = .returned (.bool true) ∧ Below w.heap.size w w') { tmps := #[.int .u8 (c : Int), u1, .int .i64 n, u3, u4, u5, u6, .bool true, .string x, u9, u10, u11, u12, u13, u14, u15, u16, u17, u18, u19, u20, u21, u22, u23, u24, u25, u26, u27, u28, u29, u30, u31, u32, u33, u34, u35, u36, u37, u38, u39, u40, u41, u42, u43, u44, u45, u46, u47, u48, u49, u50, u51, u52, u53, u54, u55, u56, u57, u58, u59, u60, u61, u62, u63, u64, u65, u66, u67, u68, u69, u70, u71, u72, u73, u74, u75, u76, u77, u78, u79, u80, u81, u82, u83, u84, u85, u86, u87, u88, u89, u90, u91, u92, u93, u94, u95, u96, u97, u98, u99, u100, u101, u102, u103, u104, u105, u106, u107, u108, u109, u110, u111, u112, u113, u114, u115, u116, u117, u118, u119, u120, u121, u122, u123, u124, u125, u126, u127, u128, u129, u130, u131, u132, u133, u134, u135, u136, u137, u138, u139, u140, u141, u142, u143, u144, u145, u146, u147, u148, u149, u150, u151, u152, u153, u154, u155, u156, u157, u158, u159, u160, u161, u162, u163, u164, u165, u166, u167, u168, u169, u170, u171, u172, u173, u174, u175, u176, u177, u178, u179, u180, u181, u182, u183, u184, u185, u186, u187, u188, u189, u190, u191, u192, u193, u194, u195, u196, u197, u198, u199, u200, u201, u202, u203, u204, u205, u206, u207, u208, u209, u210, u211, u212, u213, u214, u215], defers := [] } w3 := by
  have HG := Lib.hid hg
  have HB3 := Lib.hid hb3
  have HN := Lib.hid hn
  clear hg hb3 hn
  have e1 : decide ((97 : Int) ≤ (c : Int)) = true := decide_eq_true (by omega)
  have e2 : decide ((c : Int) ≤ 122) = false := decide_eq_false (by omega)
  have e3 : decide ((65 : Int) ≤ (c : Int)) = true := decide_eq_true (by omega)
  have e4 : decide ((c : Int) ≤ 90) = false := decide_eq_false (by omega)
  conv => arg 2; simp only [Tryd.f7, Option.getD_some, tail]
  go_upto_if 70 with fail
  go_cut [] from 26 (fun wc => wc = w3)
  case first =>
    go_wp2_with fail
    go_meet
    case rel => rfl
  case rest =>
    obtain rfl : w3 = wc := hcut.symm
    apply_assumption
    exact ph3 n HN.out w w3 HG.out HB3.out _ _ _ _ _ _ _ _ _ _ _ _ _ _ _ _ _ _ _ _ _ _ _ _ _ _ _ _ _ _ _ _ _ _ _ _ _ _ _ _ _ _ _ _ _ _ _ _ _ _ _ _ _ _ _ _ _ _ _ _ _ _ _ _ _ _ _ _ _ _ _ _ _ _ _ _ _ _ _ _ _ _ _ _ _ _ _ _ _ _ _ _ _ _ _ _ _ _ _ _ _ _ _ _ _ _ _ _ _ _ _ _ _ _ _ _ _ _ _ _ _ _ _ _ _ _ _ _ _ _ _ _ _ _ _ _ _ _ _ _ _ _ _ _ _ _ _ _ _ _ _ _ _ _ _ _ _ _ _ _ _ _ _ _ _ _ _ _ _ _ _ _ _ _ _ _ _ _ _ _ _ _ _ _ _ _ _ _ _ _ _ _ _ _ _ _ _ _ _ _ _ _ _ _ _ _ _ _ _ _ _ _ _ _

set_option linter.unusedVariables false in
set_option maxRecDepth 100000 in
set_option maxHeartbeats 1000000 in
theorem names_any (c : Nat) (hc : c < 256) (rest : ByteArray) (hb : rest.size ≤ 140737488351232) (n : Int) (hn : -9223372036854775808 ≤ n ∧ n ≤ 9223372036854775807) (w : World) (hg : Handle w) : Calls Tryd.prog 7 #[.int .u8 (c : Int), .string rest, .int .i64 n] w fun e w' => e = .returned (.bool true) ∧ Below w.heap.size w w' := by
  have HG := Lib.hid hg
  have HN := Lib.hid hn
  have hk := conv_byte c hc
  clear hg hn
  go_enter Tryd.func7, Tryd.ntmps7
  go_wp2_with fail
  refine (shown_any _ HG.out).mono ?_
  rintro e w1 ⟨rfl, hb1⟩
  have HB1 := Lib.hid hb1
  clear hb1
  go_wp2_with fail
  clear hk
  go_loopw [8, 9] (fun s i wr => ∃ (x : ByteArray) (j : Nat), s = .string x ∧ i = .int .i64 j ∧ j ≤ rest.size ∧ x.size = 1 + j ∧ P.Spelt x c ∧ Below w.heap.size w wr) (fun _ i _ => rest.size - (intOf i).toNat)
  case atStart => exact ⟨bt c, 0, rfl, rfl, Nat.zero_le _, rfl, P.spelt_one c hc, HB1.out.alloc HB1.out.size _⟩
  case round =>
    obtain ⟨x, j, rfl, rfl, hj, hx, hsp, hbw⟩ := hrel
    have HW := Lib.hid hbw
    have HX := Lib.hid hx
    have HP := Lib.hid hsp
    clear hbw hx hsp
    have hj0 : (0 : Int) ≤ (j : Int) := Int.natCast_nonneg _
    by_cases hlt : j < rest.size
    · have hq : decide ((j : Int) < (rest.size : Int)) = true := decide_eq_true (by omega)
      have ix := ix_byte rest j hlt
      obtain ⟨q, hqq⟩ : ∃ q, P.byt rest j = q := ⟨_, rfl⟩
      have hql := P.byt_lt rest j
      rw [hqq] at ix hql
      have hq9 : q % 9 < (⟨#[97, 98, 122, 65, 90, 95, 48, 53, 57]⟩ : ByteArray).size := Nat.mod_lt _ (by decide)
      have HI := Lib.hid (nine _ hq9)
      have hrm : ((q : Nat) : Int).tmod 9 = ((q % 9 : Nat) : Int) := by rw [Int.tmod_eq_emod_of_nonneg (by omega)]; omega
      have hx1 : (x.size : Int) ≤ 281474976710656 := by have h1 := HX.out; omega
      have hx2 : x.size ≤ 281474976710656 := by have h1 := HX.out; omega
      have hcv := conv_byte ((⟨#[97, 98, 122, 65, 90, 95, 48, 53, 57]⟩ : ByteArray)[q % 9]'hq9).toNat (UInt8.toNat_lt _)
      have hcat := fun w : World => cat_any w x (bt ((⟨#[97, 98, 122, 65, 90, 95, 48, 53, 57]⟩ : ByteArray)[q % 9]'hq9).toNat) (by have h1 := HX.out; have h2 : ∀ d, (bt d).size = 1 := fun _ => rfl; rw [h2]; omega)
      have hns : ¬ (9223372036854775807 < x.size + (bt ((⟨#[97, 98, 122, 65, 90, 95, 48, 53, 57]⟩ : ByteArray)[q % 9]'hq9).toNat).size) := by have h1 := HX.out; have h2 : ∀ d, (bt d).size = 1 := fun _ => rfl; rw [h2]; omega
      clear hqq
      go_wp2_with fail
      go_roundw
      case rel => exact ⟨_, j + 1, rfl, by go_num, by omega, by rw [ByteArray.size_append, HX.out]; show 1 + j + 1 = _; omega, P.spelt_more HP.out (UInt8.toNat_lt _) HI.out, HW.out.alloc HW.out.size _⟩
      case measure => simp [intOf]; omega
    · have hxb : x.size ≤ 281474976710656 := by have h1 := HX.out; omega
      obtain rfl : j = rest.size := by omega
      go_wp2_with fail
      refine (all_out x hxb _).mono ?_
      rintro e w2 ⟨v, y, rfl, hout, hb2⟩
      have HB2 := Lib.hid (HW.out.trans (hb2.mono HW.out.size))
      have HO := Lib.hid hout
      clear hb2 hout
      go_upto_region 8 with fail
      go_cut [12, 13] from 26 (fun s12 s13 wc => s12 = .int .i64 ((place (P.scanAll x) : Nat) : Int) ∧ s13 = .int .i64 ((errno (P.scanAll x) : Nat) : Int) ∧ Below w2.heap.size w2 wc)
      case first =>
        go_wp2_with fail
        refine (fault_out w2 HO.out (HG.out.on HB2.out)).mono ?_
        rintro e w3 ⟨rfl, hb3⟩
        have HB3 := Lib.hid hb3
        clear hb3
        go_wp2_with fail
        go_meet
        case rel => exact ⟨rfl, rfl, HB3.out⟩
      case rest =>
        obtain ⟨rfl, rfl, hbc⟩ := hcut
        have hoc := HO.out.on hbc
        have hbw := HB2.out.trans (hbc.mono HB2.out.size)
        apply_assumption
        have hlet : (P.small (P.byt x 0) = true ∨ P.capital (P.byt x 0) = true) → ∀ z, z < x.size → P.inner (P.byt x z) = true := fun hl z hz => by
          by_cases hz1 : 1 ≤ z
          · exact HP.out.2.2 z hz1 hz
          · obtain rfl : z = 0 := by omega
            rcases hl with hl | hl
            · exact P.small_inner hl
            · exact P.capital_inner hl
        by_cases c1 : c < 65
        · exact ph2_low n HN.out w wc HG.out hbw c x hxb c1  _ _ _ _ _ _ _ _ _ _ _ _ _ _ _ _ _ _ _ _ _ _ _ _ _ _ _ _ _ _ _ _ _ _ _ _ _ _ _ _ _ _ _ _ _ _ _ _ _ _ _ _ _ _ _ _ _ _ _ _ _ _ _ _ _ _ _ _ _ _ _ _ _ _ _ _ _ _ _ _ _ _ _ _ _ _ _ _ _ _ _ _ _ _ _ _ _ _ _ _ _ _ _ _ _ _ _ _ _ _ _ _ _ _ _ _ _ _ _ _ _ _ _ _ _ _ _ _ _ _ _ _ _ _ _ _ _ _ _ _ _ _ _ _ _ _ _ _ _ _ _ _ _ _ _ _ _ _ _ _ _ _ _ _ _ _ _ _ _ _ _ _ _ _ _ _ _ _ _ _ _ _ _ _ _ _ _ _ _ _ _ _ _ _ _ _ _ _ _ _ _ _ _ _ _ _ _ _ _ _ _ _
        by_cases c2 : c ≤ 90
        · have hcap : P.capital (P.byt x 0) = true := by rw [HP.out.2.1]; exact (capital_iff c).2 ⟨by omega, c2⟩
          have hsm : ¬ P.small (P.byt x 0) = true := by rw [HP.out.2.1, small_iff]; omega
          by_cases hbig : 262144 < x.size
          · have hs : P.scanAll x = .error (262144, 2) := by unfold P.scanAll; rw [if_pos hbig]
            rw [hs] at hoc ⊢
            obtain ⟨g, rfl, rfl, hf⟩ := hoc
            exact ph2_capital_big n HN.out w wc HG.out hbw c x hxb (by omega) c2 g hbig  _ _ _ _ _ _ _ _ _ _ _ _ _ _ _ _ _ _ _ _ _ _ _ _ _ _ _ _ _ _ _ _ _ _ _ _ _ _ _ _ _ _ _ _ _ _ _ _ _ _ _ _ _ _ _ _ _ _ _ _ _ _ _ _ _ _ _ _ _ _ _ _ _ _ _ _ _ _ _ _ _ _ _ _ _ _ _ _ _ _ _ _ _ _ _ _ _ _ _ _ _ _ _ _ _ _ _ _ _ _ _ _ _ _ _ _ _ _ _ _ _ _ _ _ _ _ _ _ _ _ _ _ _ _ _ _ _ _ _ _ _ _ _ _ _ _ _ _ _ _ _ _ _ _ _ _ _ _ _ _ _ _ _ _ _ _ _ _ _ _ _ _ _ _ _ _ _ _ _ _ _ _ _ _ _ _ _ _ _ _ _ _ _ _ _ _ _ _ _ _ _ _ _ _ _ _ _ _
          · have hl := P.scan_letters HP.out.1 (by omega) (.inr hcap) (hlet (.inr hcap))
            by_cases h8 : 8 < x.size
            · rw [if_pos h8] at hl
              rw [hl] at hoc ⊢
              obtain ⟨g, rfl, rfl, hf⟩ := hoc
              exact ph2_capital_long n HN.out w wc HG.out hbw c x hxb (by omega) c2 g hbig h8  _ _ _ _ _ _ _ _ _ _ _ _ _ _ _ _ _ _ _ _ _ _ _ _ _ _ _ _ _ _ _ _ _ _ _ _ _ _ _ _ _ _ _ _ _ _ _ _ _ _ _ _ _ _ _ _ _ _ _ _ _ _ _ _ _ _ _ _ _ _ _ _ _ _ _ _ _ _ _ _ _ _ _ _ _ _ _ _ _ _ _ _ _ _ _ _ _ _ _ _ _ _ _ _ _ _ _ _ _ _ _ _ _ _ _ _ _ _ _ _ _ _ _ _ _ _ _ _ _ _ _ _ _ _ _ _ _ _ _ _ _ _ _ _ _ _ _ _ _ _ _ _ _ _ _ _ _ _ _ _ _ _ _ _ _ _ _ _ _ _ _ _ _ _ _ _ _ _ _ _ _ _ _ _ _ _ _ _ _ _ _ _ _ _ _ _ _ _ _ _ _ _ _ _ _ _ _ _
            · rw [if_neg h8, if_neg hsm] at hl
              rw [hl] at hoc ⊢
              obtain ⟨g, cap, rfl, rfl, ht⟩ := hoc
              exact ph2_capital_short n HN.out w wc HG.out hbw c x hxb (by omega) c2 g cap hbig h8 (ht.c 0 _ rfl 0 _ rfl) (ht.c 0 _ rfl 1 _ rfl) (ht.c 0 _ rfl 2 _ rfl) (ht.c 0 _ rfl 3 _ rfl)  _ _ _ _ _ _ _ _ _ _ _ _ _ _ _ _ _ _ _ _ _ _ _ _ _ _ _ _ _ _ _ _ _ _ _ _ _ _ _ _ _ _ _ _ _ _ _ _ _ _ _ _ _ _ _ _ _ _ _ _ _ _ _ _ _ _ _ _ _ _ _ _ _ _ _ _ _ _ _ _ _ _ _ _ _ _ _ _ _ _ _ _ _ _ _ _ _ _ _ _ _ _ _ _ _ _ _ _ _ _ _ _ _ _ _ _ _ _ _ _ _ _ _ _ _ _ _ _ _ _ _ _ _ _ _ _ _ _ _ _ _ _ _ _ _ _ _ _ _ _ _ _ _ _ _ _ _ _ _ _ _ _ _ _ _ _ _ _ _ _ _ _ _ _ _ _ _ _ _ _ _ _ _ _ _ _ _ _ _ _ _ _ _ _ _ _ _ _ _ _ _ _ _ _ _ _ _ _
        by_cases c3 : c < 97
        · exact ph2_mid n HN.out w wc HG.out hbw c x hxb (by omega) c3  _ _ _ _ _ _ _ _ _ _ _ _ _ _ _ _ _ _ _ _ _ _ _ _ _ _ _ _ _ _ _ _ _ _ _ _ _ _ _ _ _ _ _ _ _ _ _ _ _ _ _ _ _ _ _ _ _ _ _ _ _ _ _ _ _ _ _ _ _ _ _ _ _ _ _ _ _ _ _ _ _ _ _ _ _ _ _ _ _ _ _ _ _ _ _ _ _ _ _ _ _ _ _ _ _ _ _ _ _ _ _ _ _ _ _ _ _ _ _ _ _ _ _ _ _ _ _ _ _ _ _ _ _ _ _ _ _ _ _ _ _ _ _ _ _ _ _ _ _ _ _ _ _ _ _ _ _ _ _ _ _ _ _ _ _ _ _ _ _ _ _ _ _ _ _ _ _ _ _ _ _ _ _ _ _ _ _ _ _ _ _ _ _ _ _ _ _ _ _ _ _ _ _ _ _ _ _ _ _ _ _ _
        by_cases c4 : c ≤ 122
        · have hsm : P.small (P.byt x 0) = true := by rw [HP.out.2.1]; exact (small_iff c).2 ⟨by omega, c4⟩
          by_cases hbig : 262144 < x.size
          · have hs : P.scanAll x = .error (262144, 2) := by unfold P.scanAll; rw [if_pos hbig]
            rw [hs] at hoc ⊢
            obtain ⟨g, rfl, rfl, hf⟩ := hoc
            exact ph2_small_big n HN.out w wc HG.out hbw c x hxb (by omega) c4 g hbig  _ _ _ _ _ _ _ _ _ _ _ _ _ _ _ _ _ _ _ _ _ _ _ _ _ _ _ _ _ _ _ _ _ _ _ _ _ _ _ _ _ _ _ _ _ _ _ _ _ _ _ _ _ _ _ _ _ _ _ _ _ _ _ _ _ _ _ _ _ _ _ _ _ _ _ _ _ _ _ _ _ _ _ _ _ _ _ _ _ _ _ _ _ _ _ _ _ _ _ _ _ _ _ _ _ _ _ _ _ _ _ _ _ _ _ _ _ _ _ _ _ _ _ _ _ _ _ _ _ _ _ _ _ _ _ _ _ _ _ _ _ _ _ _ _ _ _ _ _ _ _ _ _ _ _ _ _ _ _ _ _ _ _ _ _ _ _ _ _ _ _ _ _ _ _ _ _ _ _ _ _ _ _ _ _ _ _ _ _ _ _ _ _ _ _ _ _ _ _ _ _ _ _ _ _ _ _ _
          · have hl := P.scan_letters HP.out.1 (by omega) (.inl hsm) (hlet (.inl hsm))
            by_cases h8 : 8 < x.size
            · rw [if_pos h8] at hl
              rw [hl] at hoc ⊢
              obtain ⟨g, rfl, rfl, hf⟩ := hoc
              exact ph2_small_long n HN.out w wc HG.out hbw c x hxb (by omega) c4 g hbig h8  _ _ _ _ _ _ _ _ _ _ _ _ _ _ _ _ _ _ _ _ _ _ _ _ _ _ _ _ _ _ _ _ _ _ _ _ _ _ _ _ _ _ _ _ _ _ _ _ _ _ _ _ _ _ _ _ _ _ _ _ _ _ _ _ _ _ _ _ _ _ _ _ _ _ _ _ _ _ _ _ _ _ _ _ _ _ _ _ _ _ _ _ _ _ _ _ _ _ _ _ _ _ _ _ _ _ _ _ _ _ _ _ _ _ _ _ _ _ _ _ _ _ _ _ _ _ _ _ _ _ _ _ _ _ _ _ _ _ _ _ _ _ _ _ _ _ _ _ _ _ _ _ _ _ _ _ _ _ _ _ _ _ _ _ _ _ _ _ _ _ _ _ _ _ _ _ _ _ _ _ _ _ _ _ _ _ _ _ _ _ _ _ _ _ _ _ _ _ _ _ _ _ _ _ _ _ _ _
            · rw [if_neg h8, if_pos hsm] at hl
              rw [hl] at hoc ⊢
              obtain ⟨g, cap, rfl, rfl, ht⟩ := hoc
              exact ph2_small_short n HN.out w wc HG.out hbw c x hxb (by omega) c4 g cap hbig h8 (ht.c 0 _ rfl 0 _ rfl) (ht.c 0 _ rfl 1 _ rfl) (ht.c 0 _ rfl 2 _ rfl) (ht.c 0 _ rfl 3 _ rfl)  _ _ _ _ _ _ _ _ _ _ _ _ _ _ _ _ _ _ _ _ _ _ _ _ _ _ _ _ _ _ _ _ _ _ _ _ _ _ _ _ _ _ _ _ _ _ _ _ _ _ _ _ _ _ _ _ _ _ _ _ _ _ _ _ _ _ _ _ _ _ _ _ _ _ _ _ _ _ _ _ _ _ _ _ _ _ _ _ _ _ _ _ _ _ _ _ _ _ _ _ _ _ _ _ _ _ _ _ _ _ _ _ _ _ _ _ _ _ _ _ _ _ _ _ _ _ _ _ _ _ _ _ _ _ _ _ _ _ _ _ _ _ _ _ _ _ _ _ _ _ _ _ _ _ _ _ _ _ _ _ _ _ _ _ _ _ _ _ _ _ _ _ _ _ _ _ _ _ _ _ _ _ _ _ _ _ _ _ _ _ _ _ _ _ _ _ _ _ _ _ _ _ _ _ _ _ _ _
        exact ph2_high n HN.out w wc HG.out hbw c x hxb (by omega)  _ _ _ _ _ _ _ _ _ _ _ _ _ _ _ _ _ _ _ _ _ _ _ _ _ _ _ _ _ _ _ _ _ _ _ _ _ _ _ _ _ _ _ _ _ _ _ _ _ _ _ _ _ _ _ _ _ _ _ _ _ _ _ _ _ _ _ _ _ _ _ _ _ _ _ _ _ _ _ _ _ _ _ _ _ _ _ _ _ _ _ _ _ _ _ _ _ _ _ _ _ _ _ _ _ _ _ _ _ _ _ _ _ _ _ _ _ _ _ _ _ _ _ _ _ _ _ _ _ _ _ _ _ _ _ _ _ _ _ _ _ _ _ _ _ _ _ _ _ _ _ _ _ _ _ _ _ _ _ _ _ _ _ _ _ _ _ _ _ _ _ _ _ _ _ _ _ _ _ _ _ _ _ _ _ _ _ _ _ _ _ _ _ _ _ _ _ _ _ _ _ _ _ _ _ _ _ _ _ _ _ _
end W
end Go.Proofs.YtbimjejidlohnaaDoor
