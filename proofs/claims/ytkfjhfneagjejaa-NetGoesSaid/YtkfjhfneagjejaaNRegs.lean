/-
  NetGoes: its four drawn regions that put a row together, each over any frame, in whatever order.
-/
import Derived.Test.YtkfjhfneagjejaaNOwn
namespace Go.Proofs.Ytkfjhfneagjejaa.Net
open Go.ChangeShapes Go.WideShapes Go.ChangeAt Go.RowKit Go.Shelf Go.Lib
open Go.Proofs.Ytkfjhfneagjejaa.Queue (Box al dr below_trans ret_bool BoolB)
set_option linter.unusedVariables false

/-- The region of that number. -/
def findR (n : Nat) : Code → Option Code
  | .region i ops b => if i = n then some (.region i ops b) else none
  | .seq a b => match findR n a with
    | some c => some c
    | none => findR n b
  | .cond _ a b => match findR n a with
    | some c => some c
    | none => findR n b
  | .block _ c => findR n c
  | .loop c => findR n c
  | _ => none
set_option maxRecDepth 1000000 in
set_option maxHeartbeats 32000000 in
theorem reg14_wp {Q : Exit → Act → World → Prop} {b3 : Nat} {a : Option Addr} {cap : Nat} {l : List Pc} {t T : Int} {W : World} (HX3 : Hid (Box b3 [.slice a l.length cap, .int .i64 t] W)) (HR3 : Hid (NRow W (.slice a l.length cap) l)) (hl : l.length ≤ 66) (hT : IntKind.i64.wrap (t + 1) = T) {u0 u1 u2 u4 u5 u6 u7 u8 u9 u10 u11 u12 u13 u14 u15 u16 u17 u18 u19 u20 u21 u22 u23 u24 u25 u26 u27 u28 u29 u30 u31 u32 u33 u34 u35 u36 u37 u38 u39 u40 u41 u42 u43 u44 u45 u46 u47 u48 u49 u50 u51 u52 u53 u54 u55 u56 u57 u58 u59 u60 u61 u62 u63 u64 u65 u66 u67 u68 u69 u70 u71 u72 u73 u74 u75 u76 u77 u78 u79 u80 u81 u82 u83 u84 u85 u86 u87 u88 u89 u90 u91 u92 u93 u94 u95 u96 u97 u98 u99 u100 u101 u102 u103 u104 u105 u106 u107 u108 u109 u110 u111 u112 u113 u114 u115 u116 u117 u118 u119 u120 u121 u122 u123 u124 u125 u126 u127 u128 u129 u130 u131 u132 u133 u134 u135 u136 u137 u138 u139 u140 u141 u142 u143 u144 u145 u146 u147 u148 u149 u150 u151 u152 u153 u154 u155 u156 u157 u158 u159 u160 u161 u162 u163 u164 u165 u166 u167 u168 u169 u170 u171 u172 u173 u174 u175 u176 u177 u178 u179 u180 u181 u182 u183 u184 u185 u186 u187 u188 u189 u190 u191 u192 u193 u194 u195 u196 u197 u198 u199 u200 u201 u202 u203 u204 u205 u206 u207 u208 u209 u210 u211 u212 u213 u214 u215 u216 u217 u218 u219 u220 u221 u222 u223 u224 u225 u226 u227 u228 u229 u230 u231 u232 u233 u234 u235 u236 u237 u238 u239 u240 u241 u242 u243 u244 u245 u246 u247 u248 u249 u250 u251 u252 u253 u254 u255 u256 u257 u258 u259 u260 : Value}
    (hQ : ∀ (g : Nat) (ao : Option Addr) (no co : Nat) (v82 v83 v84 v85 v86 v87 v88 v89 : Value) (wx : World), W.heap.size ≤ g → Box g [.slice ao no co, .int .i64 T] wx → NRow wx (.slice ao no co) (l) → OwnN W.heap.size (.slice ao no co) (l) wx → SepB g (.slice ao no co) → Below W.heap.size W wx → Q .normal ⟨#[u0, u1, u2, .pointer (some ⟨b3, 0, none⟩), u4, u5, u6, u7, u8, u9, u10, u11, u12, u13, u14, u15, u16, u17, u18, .pointer (some ⟨g, 0, none⟩), u20, u21, u22, u23, u24, u25, u26, u27, u28, u29, u30, u31, u32, u33, u34, u35, u36, u37, u38, u39, u40, u41, u42, u43, u44, u45, u46, u47, u48, u49, u50, u51, u52, u53, u54, u55, u56, u57, u58, u59, u60, u61, u62, u63, u64, u65, u66, u67, u68, u69, u70, u71, u72, u73, u74, u75, u76, u77, u78, u79, u80, u81, v82, v83, v84, v85, v86, v87, v88, v89, u90, u91, u92, u93, u94, u95, u96, u97, u98, u99, u100, u101, u102, u103, u104, u105, u106, u107, u108, u109, u110, u111, u112, u113, u114, u115, u116, u117, u118, u119, u120, u121, u122, u123, u124, u125, u126, u127, u128, u129, u130, u131, u132, u133, u134, u135, u136, u137, u138, u139, u140, u141, u142, u143, u144, u145, u146, u147, u148, u149, u150, u151, u152, u153, u154, u155, u156, u157, u158, u159, u160, u161, u162, u163, u164, u165, u166, u167, u168, u169, u170, u171, u172, u173, u174, u175, u176, u177, u178, u179, u180, u181, u182, u183, u184, u185, u186, u187, u188, u189, u190, u191, u192, u193, u194, u195, u196, u197, u198, u199, u200, u201, u202, u203, u204, u205, u206, u207, u208, u209, u210, u211, u212, u213, u214, u215, u216, u217, u218, u219, u220, u221, u222, u223, u224, u225, u226, u227, u228, u229, u230, u231, u232, u233, u234, u235, u236, u237, u238, u239, u240, u241, u242, u243, u244, u245, u246, u247, u248, u249, u250, u251, u252, u253, u254, u255, u256, u257, u258, u259, u260], []⟩ wx) :
    Code.wp Try.prog ((Try.f3.body.bind (findR 14)).getD .skip) Q ⟨#[u0, u1, u2, .pointer (some ⟨b3, 0, none⟩), u4, u5, u6, u7, u8, u9, u10, u11, u12, u13, u14, u15, u16, u17, u18, u19, u20, u21, u22, u23, u24, u25, u26, u27, u28, u29, u30, u31, u32, u33, u34, u35, u36, u37, u38, u39, u40, u41, u42, u43, u44, u45, u46, u47, u48, u49, u50, u51, u52, u53, u54, u55, u56, u57, u58, u59, u60, u61, u62, u63, u64, u65, u66, u67, u68, u69, u70, u71, u72, u73, u74, u75, u76, u77, u78, u79, u80, u81, u82, u83, u84, u85, u86, u87, u88, u89, u90, u91, u92, u93, u94, u95, u96, u97, u98, u99, u100, u101, u102, u103, u104, u105, u106, u107, u108, u109, u110, u111, u112, u113, u114, u115, u116, u117, u118, u119, u120, u121, u122, u123, u124, u125, u126, u127, u128, u129, u130, u131, u132, u133, u134, u135, u136, u137, u138, u139, u140, u141, u142, u143, u144, u145, u146, u147, u148, u149, u150, u151, u152, u153, u154, u155, u156, u157, u158, u159, u160, u161, u162, u163, u164, u165, u166, u167, u168, u169, u170, u171, u172, u173, u174, u175, u176, u177, u178, u179, u180, u181, u182, u183, u184, u185, u186, u187, u188, u189, u190, u191, u192, u193, u194, u195, u196, u197, u198, u199, u200, u201, u202, u203, u204, u205, u206, u207, u208, u209, u210, u211, u212, u213, u214, u215, u216, u217, u218, u219, u220, u221, u222, u223, u224, u225, u226, u227, u228, u229, u230, u231, u232, u233, u234, u235, u236, u237, u238, u239, u240, u241, u242, u243, u244, u245, u246, u247, u248, u249, u250, u251, u252, u253, u254, u255, u256, u257, u258, u259, u260], []⟩ W := by
  conv => arg 2; whnf
  refine wp_region_noPanic ?_
  refine wp_region_held_drew (S := fun W' => Below W.heap.size W W') (by kernel_rfl) (dr W) (fun hHeld => ?_)
  try dsimp only
  refine takeH 0 82 (.pointer (some ⟨b3, 1, none⟩)) calm_np rfl rfl (by kernel_rfl) (by kernel_rfl) (by kernel_rfl) (by rfl) (fun W' hSw => by go_simp) hHeld ?_
  try simp only [Act.put, List.setIfInBounds_toArray, List.set_cons_zero, List.set_cons_succ]
  refine takeH 1 83 (.int .i64 t) calm_np rfl rfl (by kernel_rfl) (by kernel_rfl) (by kernel_rfl) (by rfl) (fun W' hSw => by have g0 := (show _ = some (Value.int .i64 t) from (HX3.out.below hSw).at 1 rfl); have hsz := (HX3.out.below hSw).1; go_simp) hHeld ?_
  try simp only [Act.put, List.setIfInBounds_toArray, List.set_cons_zero, List.set_cons_succ]
  refine takeH 2 84 (.int .i64 T) calm_np rfl rfl (by kernel_rfl) (by kernel_rfl) (by kernel_rfl) (by rfl) (fun W' hSw => by go_simp) hHeld ?_
  try simp only [Act.put, List.setIfInBounds_toArray, List.set_cons_zero, List.set_cons_succ]
  refine takeH 4 86 (.pointer (some ⟨b3, 0, none⟩)) calm_np rfl rfl (by kernel_rfl) (by kernel_rfl) (by kernel_rfl) (by rfl) (fun W' hSw => by go_simp) hHeld ?_
  try simp only [Act.put, List.setIfInBounds_toArray, List.set_cons_zero, List.set_cons_succ]
  refine takeH 5 87 (.slice a l.length cap) calm_np rfl rfl (by kernel_rfl) (by kernel_rfl) (by kernel_rfl) (by rfl) (fun W' hSw => by have g0 := (show _ = some (Value.slice a l.length cap) from (HX3.out.below hSw).at 0 rfl); have hsz := (HX3.out.below hSw).1; go_simp) hHeld ?_
  try simp only [Act.put, List.setIfInBounds_toArray, List.set_cons_zero, List.set_cons_succ]
  have hD0 := hHeld.size
  obtain ⟨Wc, hWc⟩ : ∃ Wq, W.drew = Wq := ⟨_, rfl⟩
  rw [hWc] at hHeld ⊢
  rw [hWc] at hD0
  clear hWc
  refine wpAnyH_ready (rs := [3, 8]) (by kernel_rfl) (by simp) (AllReadyH.cons rfl (fun K hK => ?_) (AllReadyH.cons rfl (fun K hK => ?_) AllReadyH.nil))
  · go_simp
    have ho := OwnN.empty Wc (B := W.heap.size) hD0
    have hz := al Wc (.cells #[] 26)
    have hh := below_trans hHeld hz
    clear hHeld hD0
    obtain ⟨Wd, hWd⟩ : ∃ Wq, Wc.alloc (.cells #[] 26) = Wq := ⟨_, rfl⟩
    rw [hWd] at ho hh ⊢
    clear hWd hz
    obtain ⟨go, hgo⟩ : ∃ g, Wc.heap.size = g := ⟨_, rfl⟩
    rw [hgo] at ho ⊢
    clear hgo
    clear Wc
    rename World => Wc
    have hO := ho
    clear ho
    refine hK.out _ _ hh (fun hHeld => ?_)
    clear hK hh
    try simp only [Act.put, List.setIfInBounds_toArray, List.set_cons_zero, List.set_cons_succ]
    have hD0 := hHeld.size
    refine wpAnyH_ready (rs := [6, 8]) (by kernel_rfl) (by simp) (AllReadyH.cons rfl (fun K hK => ?_) (AllReadyH.cons rfl (fun K hK => ?_) AllReadyH.nil))
    · refine step_append_O (by rfl) 88 rfl _ _ rfl W.heap.size _ ([]) rfl hO _ (l) rfl (HR3.out.below hHeld) (by simp) (by omega) hD0 (fun vo Wd ho2 hb2 hg2 hl2 => ?_)
      have hh := hHeld.trans hb2
      clear hHeld hD0 hg2 hl2 hb2 hO
      have hO := ho2
      clear ho2
      clear Wc
      rename World => Wc
      refine hK.out _ _ hh (fun hHeld => ?_)
      clear hK hh
      try simp only [Act.put, List.setIfInBounds_toArray, List.set_cons_zero, List.set_cons_succ]
      have hD0 := hHeld.size
      obtain ⟨ao, no, co, rfl⟩ : ∃ a n c, vo = .slice a n c := (by obtain ⟨a', c', e⟩ := hO.row.slice; exact ⟨a', _, c', e⟩)
      refine takeH 7 89 (.agg #[.slice ao no co, .int .i64 T]) calm_np rfl rfl (by kernel_rfl) (by kernel_rfl) (by kernel_rfl) (by rfl) (fun W' hSw => by go_simp) hHeld ?_
      try simp only [Act.put, List.setIfInBounds_toArray, List.set_cons_zero, List.set_cons_succ]
      refine wpAnyH_ready (rs := [8]) (by kernel_rfl) (by simp) (AllReadyH.cons rfl (fun K hK => ?_) AllReadyH.nil)
      go_simp
      have hx := Box.made Wc [.slice none 0 0, .int .i64 0] 24
      have hz := al Wc (.cells #[.slice none 0 0, .int .i64 0] 24)
      have hgx : W.heap.size ≤ Wc.heap.size := hD0
      have sx : SepB Wc.heap.size (.slice ao no co) := OwnN.sep hO (Nat.le_refl _)
      have hh := below_trans hHeld hz
      clear hHeld hD0
      replace hO := hO.below hz
      obtain ⟨Wd, hWd⟩ : ∃ Wq, Wc.alloc (.cells #[.slice none 0 0, .int .i64 0] 24) = Wq := ⟨_, rfl⟩
      have hX : Box Wc.heap.size [.slice none 0 0, .int .i64 0] Wd := hWd ▸ hx
      rw [hWd] at hh ⊢
      rw [hWd] at hO
      clear hWd hz hx
      obtain ⟨gx, hgxe⟩ : ∃ g, Wc.heap.size = g := ⟨_, rfl⟩
      rw [hgxe] at hX hgx ⊢
      rw [hgxe] at sx
      clear hgxe
      clear Wc
      rename World => Wc
      refine hK.out _ _ hh (fun hHeld => ?_)
      clear hK hh
      try simp only [Act.put, List.setIfInBounds_toArray, List.set_cons_zero, List.set_cons_succ]
      have hD0 := hHeld.size
      refine wpAnyH_ready (rs := [9]) (by kernel_rfl) (by simp) (AllReadyH.cons rfl (fun K hK => ?_) AllReadyH.nil)
      obtain ⟨y0, y1⟩ := box2 hX
      obtain ⟨z0, z1⟩ := frz2 hX
      have hsx := hX.1
      go_simp
      have hX2 : Box gx [.slice ao no co, .int .i64 T] _ := box_put (box_put hX 0 (.slice ao no co) (by simp)) 1 (.int .i64 T) (by simp)
      have hRw := hO.row.sep_two (.slice ao no co) (.int .i64 T) sx
      have hO2 := (hO.sep_set (j := 0) (u := .slice ao no co) sx).sep_set (j := 1) (u := .int .i64 T) sx
      have hh := below_two (b := gx) (.slice ao no co) (.int .i64 T) hHeld hgx
      clear hX hO hHeld hD0 y0 y1 z0 z1 hsx
      have hX := hX2
      have hO := hO2
      clear hX2 hO2
      generalize (Wc.setCell ⟨gx, 0, none⟩ (.slice ao no co)).setCell ⟨gx, 1, none⟩ (.int .i64 T) = Wd at *
      clear Wc
      rename World => Wc
      refine hK.out _ _ hh (fun hHeld => ?_)
      clear hK hh
      try simp only [Act.put, List.setIfInBounds_toArray, List.set_cons_zero, List.set_cons_succ]
      refine wpAnyH_done (by kernel_rfl) ?_ _
      refine NoPanic.normal ?_
      exact hQ gx ao no co _ _ _ _ _ _ _ _ Wc hgx hX (by simpa using hRw) (by simpa using hO) sx hHeld
    · go_simp
      have hx := Box.made Wc [.slice none 0 0, .int .i64 0] 24
      have hz := al Wc (.cells #[.slice none 0 0, .int .i64 0] 24)
      have hgx : W.heap.size ≤ Wc.heap.size := hD0
      have sx : SepB Wc.heap.size (.slice (some ⟨go, 0, none⟩) 0 0) := OwnN.sep hO (Nat.le_refl _)
      have hh := below_trans hHeld hz
      clear hHeld hD0
      replace hO := hO.below hz
      obtain ⟨Wd, hWd⟩ : ∃ Wq, Wc.alloc (.cells #[.slice none 0 0, .int .i64 0] 24) = Wq := ⟨_, rfl⟩
      have hX : Box Wc.heap.size [.slice none 0 0, .int .i64 0] Wd := hWd ▸ hx
      rw [hWd] at hh ⊢
      rw [hWd] at hO
      clear hWd hz hx
      obtain ⟨gx, hgxe⟩ : ∃ g, Wc.heap.size = g := ⟨_, rfl⟩
      rw [hgxe] at hX hgx ⊢
      rw [hgxe] at sx
      clear hgxe
      clear Wc
      rename World => Wc
      refine hK.out _ _ hh (fun hHeld => ?_)
      clear hK hh
      try simp only [Act.put, List.setIfInBounds_toArray, List.set_cons_zero, List.set_cons_succ]
      have hD0 := hHeld.size
      refine wpAnyH_ready (rs := [6]) (by kernel_rfl) (by simp) (AllReadyH.cons rfl (fun K hK => ?_) AllReadyH.nil)
      refine step_append_O (by rfl) 88 rfl _ _ rfl W.heap.size _ ([]) rfl hO _ (l) rfl (HR3.out.below hHeld) (by simp) (by omega) hD0 (fun vo Wd ho2 hb2 hg2 hl2 => ?_)
      have sx2 := sx.after hX.1 hl2
      replace hX := Box.keptN hX hg2 sx
      have hh := hHeld.trans hb2
      clear hHeld hD0 hg2 hl2 hb2 sx hO
      have hO := ho2
      clear ho2
      have sx := sx2
      clear sx2
      clear Wc
      rename World => Wc
      refine hK.out _ _ hh (fun hHeld => ?_)
      clear hK hh
      try simp only [Act.put, List.setIfInBounds_toArray, List.set_cons_zero, List.set_cons_succ]
      have hD0 := hHeld.size
      obtain ⟨ao, no, co, rfl⟩ : ∃ a n c, vo = .slice a n c := (by obtain ⟨a', c', e⟩ := hO.row.slice; exact ⟨a', _, c', e⟩)
      refine takeH 7 89 (.agg #[.slice ao no co, .int .i64 T]) calm_np rfl rfl (by kernel_rfl) (by kernel_rfl) (by kernel_rfl) (by rfl) (fun W' hSw => by go_simp) hHeld ?_
      try simp only [Act.put, List.setIfInBounds_toArray, List.set_cons_zero, List.set_cons_succ]
      refine wpAnyH_ready (rs := [9]) (by kernel_rfl) (by simp) (AllReadyH.cons rfl (fun K hK => ?_) AllReadyH.nil)
      obtain ⟨y0, y1⟩ := box2 hX
      obtain ⟨z0, z1⟩ := frz2 hX
      have hsx := hX.1
      go_simp
      have hX2 : Box gx [.slice ao no co, .int .i64 T] _ := box_put (box_put hX 0 (.slice ao no co) (by simp)) 1 (.int .i64 T) (by simp)
      have hRw := hO.row.sep_two (.slice ao no co) (.int .i64 T) sx
      have hO2 := (hO.sep_set (j := 0) (u := .slice ao no co) sx).sep_set (j := 1) (u := .int .i64 T) sx
      have hh := below_two (b := gx) (.slice ao no co) (.int .i64 T) hHeld hgx
      clear hX hO hHeld hD0 y0 y1 z0 z1 hsx
      have hX := hX2
      have hO := hO2
      clear hX2 hO2
      generalize (Wc.setCell ⟨gx, 0, none⟩ (.slice ao no co)).setCell ⟨gx, 1, none⟩ (.int .i64 T) = Wd at *
      clear Wc
      rename World => Wc
      refine hK.out _ _ hh (fun hHeld => ?_)
      clear hK hh
      try simp only [Act.put, List.setIfInBounds_toArray, List.set_cons_zero, List.set_cons_succ]
      refine wpAnyH_done (by kernel_rfl) ?_ _
      refine NoPanic.normal ?_
      exact hQ gx ao no co _ _ _ _ _ _ _ _ Wc hgx hX (by simpa using hRw) (by simpa using hO) sx hHeld
  · go_simp
    have hx := Box.made Wc [.slice none 0 0, .int .i64 0] 24
    have hz := al Wc (.cells #[.slice none 0 0, .int .i64 0] 24)
    have hgx : W.heap.size ≤ Wc.heap.size := hD0
    have hh := below_trans hHeld hz
    clear hHeld hD0
    obtain ⟨Wd, hWd⟩ : ∃ Wq, Wc.alloc (.cells #[.slice none 0 0, .int .i64 0] 24) = Wq := ⟨_, rfl⟩
    have hX : Box Wc.heap.size [.slice none 0 0, .int .i64 0] Wd := hWd ▸ hx
    rw [hWd] at hh ⊢
    clear hWd hz hx
    obtain ⟨gx, hgxe⟩ : ∃ g, Wc.heap.size = g := ⟨_, rfl⟩
    rw [hgxe] at hX hgx ⊢
    clear hgxe
    clear Wc
    rename World => Wc
    refine hK.out _ _ hh (fun hHeld => ?_)
    clear hK hh
    try simp only [Act.put, List.setIfInBounds_toArray, List.set_cons_zero, List.set_cons_succ]
    have hD0 := hHeld.size
    refine wpAnyH_ready (rs := [3]) (by kernel_rfl) (by simp) (AllReadyH.cons rfl (fun K hK => ?_) AllReadyH.nil)
    go_simp
    have ho := OwnN.empty Wc (B := W.heap.size) hD0
    have hz := al Wc (.cells #[] 26)
    have sx : SepB gx (.slice (some ⟨Wc.heap.size, 0, none⟩) 0 0) := SepB.under hX.1
    have hh := below_trans hHeld hz
    clear hHeld hD0
    replace hX := hX.below hz
    obtain ⟨Wd, hWd⟩ : ∃ Wq, Wc.alloc (.cells #[] 26) = Wq := ⟨_, rfl⟩
    rw [hWd] at ho hh ⊢
    rw [hWd] at hX
    clear hWd hz
    obtain ⟨go, hgo⟩ : ∃ g, Wc.heap.size = g := ⟨_, rfl⟩
    rw [hgo] at ho ⊢
    rw [hgo] at sx
    clear hgo
    clear Wc
    rename World => Wc
    have hO := ho
    clear ho
    refine hK.out _ _ hh (fun hHeld => ?_)
    clear hK hh
    try simp only [Act.put, List.setIfInBounds_toArray, List.set_cons_zero, List.set_cons_succ]
    have hD0 := hHeld.size
    refine wpAnyH_ready (rs := [6]) (by kernel_rfl) (by simp) (AllReadyH.cons rfl (fun K hK => ?_) AllReadyH.nil)
    refine step_append_O (by rfl) 88 rfl _ _ rfl W.heap.size _ ([]) rfl hO _ (l) rfl (HR3.out.below hHeld) (by simp) (by omega) hD0 (fun vo Wd ho2 hb2 hg2 hl2 => ?_)
    have sx2 := sx.after hX.1 hl2
    replace hX := Box.keptN hX hg2 sx
    have hh := hHeld.trans hb2
    clear hHeld hD0 hg2 hl2 hb2 sx hO
    have hO := ho2
    clear ho2
    have sx := sx2
    clear sx2
    clear Wc
    rename World => Wc
    refine hK.out _ _ hh (fun hHeld => ?_)
    clear hK hh
    try simp only [Act.put, List.setIfInBounds_toArray, List.set_cons_zero, List.set_cons_succ]
    have hD0 := hHeld.size
    obtain ⟨ao, no, co, rfl⟩ : ∃ a n c, vo = .slice a n c := (by obtain ⟨a', c', e⟩ := hO.row.slice; exact ⟨a', _, c', e⟩)
    refine takeH 7 89 (.agg #[.slice ao no co, .int .i64 T]) calm_np rfl rfl (by kernel_rfl) (by kernel_rfl) (by kernel_rfl) (by rfl) (fun W' hSw => by go_simp) hHeld ?_
    try simp only [Act.put, List.setIfInBounds_toArray, List.set_cons_zero, List.set_cons_succ]
    refine wpAnyH_ready (rs := [9]) (by kernel_rfl) (by simp) (AllReadyH.cons rfl (fun K hK => ?_) AllReadyH.nil)
    obtain ⟨y0, y1⟩ := box2 hX
    obtain ⟨z0, z1⟩ := frz2 hX
    have hsx := hX.1
    go_simp
    have hX2 : Box gx [.slice ao no co, .int .i64 T] _ := box_put (box_put hX 0 (.slice ao no co) (by simp)) 1 (.int .i64 T) (by simp)
    have hRw := hO.row.sep_two (.slice ao no co) (.int .i64 T) sx
    have hO2 := (hO.sep_set (j := 0) (u := .slice ao no co) sx).sep_set (j := 1) (u := .int .i64 T) sx
    have hh := below_two (b := gx) (.slice ao no co) (.int .i64 T) hHeld hgx
    clear hX hO hHeld hD0 y0 y1 z0 z1 hsx
    have hX := hX2
    have hO := hO2
    clear hX2 hO2
    generalize (Wc.setCell ⟨gx, 0, none⟩ (.slice ao no co)).setCell ⟨gx, 1, none⟩ (.int .i64 T) = Wd at *
    clear Wc
    rename World => Wc
    refine hK.out _ _ hh (fun hHeld => ?_)
    clear hK hh
    try simp only [Act.put, List.setIfInBounds_toArray, List.set_cons_zero, List.set_cons_succ]
    refine wpAnyH_done (by kernel_rfl) ?_ _
    refine NoPanic.normal ?_
    exact hQ gx ao no co _ _ _ _ _ _ _ _ Wc hgx hX (by simpa using hRw) (by simpa using hO) sx hHeld

set_option maxRecDepth 1000000 in
set_option maxHeartbeats 32000000 in
theorem reg28_wp {Q : Exit → Act → World → Prop} {b3 b off cap k : Nat} {l : List Pc} {t : Int} {W : World} (HX3 : Hid (Box b3 [.slice (some ⟨b, off, none⟩) l.length cap, .int .i64 t] W)) (HR3 : Hid (NRow W (.slice (some ⟨b, off, none⟩) l.length cap) l)) (hln : l.length ≤ 64) (hk : k < l.length) (hlc : l.length ≤ cap) (hcap : cap ≤ 9223372036854775807) {u0 u1 u4 u5 u6 u7 u8 u9 u10 u11 u12 u13 u14 u15 u16 u17 u18 u19 u20 u21 u22 u23 u24 u25 u26 u27 u28 u29 u30 u31 u32 u33 u34 u35 u36 u37 u38 u39 u40 u41 u42 u43 u44 u45 u46 u47 u48 u49 u50 u51 u52 u53 u54 u55 u56 u57 u58 u59 u60 u61 u62 u63 u64 u65 u66 u67 u68 u69 u70 u71 u72 u73 u74 u75 u76 u77 u78 u79 u80 u81 u82 u83 u84 u85 u86 u87 u88 u89 u90 u91 u92 u93 u94 u95 u96 u97 u98 u99 u100 u101 u102 u103 u104 u105 u106 u107 u108 u109 u110 u111 u112 u113 u114 u115 u116 u117 u118 u119 u120 u121 u122 u123 u124 u125 u126 u127 u128 u129 u130 u131 u132 u133 u134 u135 u136 u137 u138 u139 u140 u141 u142 u143 u144 u145 u146 u147 u148 u149 u150 u151 u152 u153 u154 u155 u156 u157 u158 u159 u160 u161 u162 u163 u164 u165 u166 u167 u168 u169 u170 u171 u172 u173 u174 u175 u176 u177 u178 u179 u180 u181 u182 u183 u184 u185 u186 u187 u188 u189 u190 u191 u192 u193 u194 u195 u196 u197 u198 u199 u200 u201 u202 u203 u204 u205 u206 u207 u208 u209 u210 u211 u212 u213 u214 u215 u216 u217 u218 u219 u220 u221 u222 u223 u224 u225 u226 u227 u228 u229 u230 u231 u232 u233 u234 u235 u236 u237 u238 u239 u240 u241 u242 u243 u244 u245 u246 u247 u248 u249 u250 u251 u252 u253 u254 u255 u256 u257 u258 u259 u260 : Value}
    (hQ : ∀ (g : Nat) (ao : Option Addr) (no co : Nat) (v185 v186 v187 v188 v189 v190 v191 v192 v193 v194 v195 v196 v197 v198 v199 : Value) (wx : World), W.heap.size ≤ g → Box g [.slice ao no co, .int .i64 t] wx → NRow wx (.slice ao no co) (rest l k) → Below W.heap.size W wx → Q .normal ⟨#[u0, u1, .int .i64 (k : Int), .pointer (some ⟨b3, 0, none⟩), u4, u5, u6, u7, u8, u9, u10, u11, u12, u13, u14, u15, u16, u17, u18, u19, u20, u21, .pointer (some ⟨g, 0, none⟩), u23, u24, u25, u26, u27, u28, u29, u30, u31, u32, u33, u34, u35, u36, u37, u38, u39, u40, u41, u42, u43, u44, u45, u46, u47, u48, u49, u50, u51, u52, u53, u54, u55, u56, u57, u58, u59, u60, u61, u62, u63, u64, u65, u66, u67, u68, u69, u70, u71, u72, u73, u74, u75, u76, u77, u78, u79, u80, u81, u82, u83, u84, u85, u86, u87, u88, u89, u90, u91, u92, u93, u94, u95, u96, u97, u98, u99, u100, u101, u102, u103, u104, u105, u106, u107, u108, u109, u110, u111, u112, u113, u114, u115, u116, u117, u118, u119, u120, u121, u122, u123, u124, u125, u126, u127, u128, u129, u130, u131, u132, u133, u134, u135, u136, u137, u138, u139, u140, u141, u142, u143, u144, u145, u146, u147, u148, u149, u150, u151, u152, u153, u154, u155, u156, u157, u158, u159, u160, u161, u162, u163, u164, u165, u166, u167, u168, u169, u170, u171, u172, u173, u174, u175, u176, u177, u178, u179, u180, u181, u182, u183, u184, v185, v186, v187, v188, v189, v190, v191, v192, v193, v194, v195, v196, v197, v198, v199, u200, u201, u202, u203, u204, u205, u206, u207, u208, u209, u210, u211, u212, u213, u214, u215, u216, u217, u218, u219, u220, u221, u222, u223, u224, u225, u226, u227, u228, u229, u230, u231, u232, u233, u234, u235, u236, u237, u238, u239, u240, u241, u242, u243, u244, u245, u246, u247, u248, u249, u250, u251, u252, u253, u254, u255, u256, u257, u258, u259, u260], []⟩ wx) :
    Code.wp Try.prog ((Try.f3.body.bind (findR 28)).getD .skip) Q ⟨#[u0, u1, .int .i64 (k : Int), .pointer (some ⟨b3, 0, none⟩), u4, u5, u6, u7, u8, u9, u10, u11, u12, u13, u14, u15, u16, u17, u18, u19, u20, u21, u22, u23, u24, u25, u26, u27, u28, u29, u30, u31, u32, u33, u34, u35, u36, u37, u38, u39, u40, u41, u42, u43, u44, u45, u46, u47, u48, u49, u50, u51, u52, u53, u54, u55, u56, u57, u58, u59, u60, u61, u62, u63, u64, u65, u66, u67, u68, u69, u70, u71, u72, u73, u74, u75, u76, u77, u78, u79, u80, u81, u82, u83, u84, u85, u86, u87, u88, u89, u90, u91, u92, u93, u94, u95, u96, u97, u98, u99, u100, u101, u102, u103, u104, u105, u106, u107, u108, u109, u110, u111, u112, u113, u114, u115, u116, u117, u118, u119, u120, u121, u122, u123, u124, u125, u126, u127, u128, u129, u130, u131, u132, u133, u134, u135, u136, u137, u138, u139, u140, u141, u142, u143, u144, u145, u146, u147, u148, u149, u150, u151, u152, u153, u154, u155, u156, u157, u158, u159, u160, u161, u162, u163, u164, u165, u166, u167, u168, u169, u170, u171, u172, u173, u174, u175, u176, u177, u178, u179, u180, u181, u182, u183, u184, u185, u186, u187, u188, u189, u190, u191, u192, u193, u194, u195, u196, u197, u198, u199, u200, u201, u202, u203, u204, u205, u206, u207, u208, u209, u210, u211, u212, u213, u214, u215, u216, u217, u218, u219, u220, u221, u222, u223, u224, u225, u226, u227, u228, u229, u230, u231, u232, u233, u234, u235, u236, u237, u238, u239, u240, u241, u242, u243, u244, u245, u246, u247, u248, u249, u250, u251, u252, u253, u254, u255, u256, u257, u258, u259, u260], []⟩ W := by
  conv => arg 2; whnf
  have kc1 : (0 : Int) ≤ k := by omega
  have kc2 : (k : Int) ≤ l.length := by omega
  have kc3 : (k : Int) ≤ cap := by omega
  have kc4 : (l.length : Int) ≤ cap := by omega
  have kc5 : (0 : Int) ≤ (k : Int) + 1 := by omega
  have kc6 : (k : Int) + 1 ≤ l.length := by omega
  have kc7 : (k : Int) + 1 ≤ cap := by omega
  have kc8 : IntKind.i64.wrap ((k : Int) + 1) = (k : Int) + 1 := IntWalk.i64_in _ (by omega)
  have kc9 : ((k : Int) + 1).toNat = k + 1 := by omega
  have hln2 := hln
  clear hln
  by_cases hcl : cap = k + 1
  · subst hcl
    have hkk : l.length = k + 1 := by omega
    have kc12 : (k : Int) ≤ (k : Int) + 1 := by omega
    have HDP : Hid (∀ W', Below W.heap.size W W' → NRow W' (.slice (some ⟨b, off, none⟩) 0 0) (l.drop (k + 1))) := Lib.hid (fun W' hW => NRow.none_left (by omega))
    clear hkk
    refine wp_region_noPanic ?_
    refine wp_region_held_drew (S := fun W' => Below W.heap.size W W') (by kernel_rfl) (dr W) (fun hHeld => ?_)
    try dsimp only
    refine takeH 0 185 (.pointer (some ⟨b3, 1, none⟩)) calm_np rfl rfl (by kernel_rfl) (by kernel_rfl) (by kernel_rfl) (by rfl) (fun W' hSw => by go_simp) hHeld ?_
    try simp only [Act.put, List.setIfInBounds_toArray, List.set_cons_zero, List.set_cons_succ]
    refine takeH 1 186 (.int .i64 t) calm_np rfl rfl (by kernel_rfl) (by kernel_rfl) (by kernel_rfl) (by rfl) (fun W' hSw => by have g0 := (show _ = some (Value.int .i64 t) from (HX3.out.below hSw).at 1 rfl); have hsz := (HX3.out.below hSw).1; go_simp) hHeld ?_
    try simp only [Act.put, List.setIfInBounds_toArray, List.set_cons_zero, List.set_cons_succ]
    refine takeH 3 188 (.pointer (some ⟨b3, 0, none⟩)) calm_np rfl rfl (by kernel_rfl) (by kernel_rfl) (by kernel_rfl) (by rfl) (fun W' hSw => by go_simp) hHeld ?_
    try simp only [Act.put, List.setIfInBounds_toArray, List.set_cons_zero, List.set_cons_succ]
    refine takeH 4 189 (.slice (some ⟨b, off, none⟩) l.length (k + 1)) calm_np rfl rfl (by kernel_rfl) (by kernel_rfl) (by kernel_rfl) (by rfl) (fun W' hSw => by have g0 := (show _ = some (Value.slice (some ⟨b, off, none⟩) l.length (k + 1)) from (HX3.out.below hSw).at 0 rfl); have hsz := (HX3.out.below hSw).1; go_simp) hHeld ?_
    try simp only [Act.put, List.setIfInBounds_toArray, List.set_cons_zero, List.set_cons_succ]
    refine takeH 5 190 (.int .i64 (k : Int)) calm_np rfl rfl (by kernel_rfl) (by kernel_rfl) (by kernel_rfl) (by rfl) (fun W' hSw => by go_simp) hHeld ?_
    try simp only [Act.put, List.setIfInBounds_toArray, List.set_cons_zero, List.set_cons_succ]
    refine takeH 6 191 (.slice (some ⟨b, off, none⟩) k (k + 1)) calm_np rfl rfl (by kernel_rfl) (by kernel_rfl) (by kernel_rfl) (by rfl) (fun W' hSw => by go_simp) hHeld ?_
    try simp only [Act.put, List.setIfInBounds_toArray, List.set_cons_zero, List.set_cons_succ]
    refine takeH 8 193 (.pointer (some ⟨b3, 0, none⟩)) calm_np rfl rfl (by kernel_rfl) (by kernel_rfl) (by kernel_rfl) (by rfl) (fun W' hSw => by go_simp) hHeld ?_
    try simp only [Act.put, List.setIfInBounds_toArray, List.set_cons_zero, List.set_cons_succ]
    refine takeH 9 194 (.slice (some ⟨b, off, none⟩) l.length (k + 1)) calm_np rfl rfl (by kernel_rfl) (by kernel_rfl) (by kernel_rfl) (by rfl) (fun W' hSw => by have g0 := (show _ = some (Value.slice (some ⟨b, off, none⟩) l.length (k + 1)) from (HX3.out.below hSw).at 0 rfl); have hsz := (HX3.out.below hSw).1; go_simp) hHeld ?_
    try simp only [Act.put, List.setIfInBounds_toArray, List.set_cons_zero, List.set_cons_succ]
    refine takeH 10 195 (.int .i64 (k : Int)) calm_np rfl rfl (by kernel_rfl) (by kernel_rfl) (by kernel_rfl) (by rfl) (fun W' hSw => by go_simp) hHeld ?_
    try simp only [Act.put, List.setIfInBounds_toArray, List.set_cons_zero, List.set_cons_succ]
    refine takeH 11 196 (.int .i64 ((k : Int) + 1)) calm_np rfl rfl (by kernel_rfl) (by kernel_rfl) (by kernel_rfl) (by rfl) (fun W' hSw => by go_simp) hHeld ?_
    try simp only [Act.put, List.setIfInBounds_toArray, List.set_cons_zero, List.set_cons_succ]
    refine takeH 12 197 (.slice (some ⟨b, off, none⟩) 0 0) calm_np rfl rfl (by kernel_rfl) (by kernel_rfl) (by kernel_rfl) (by rfl) (fun W' hSw => by go_simp) hHeld ?_
    try simp only [Act.put, List.setIfInBounds_toArray, List.set_cons_zero, List.set_cons_succ]
    have hD0 := hHeld.size
    obtain ⟨Wc, hWc⟩ : ∃ Wq, W.drew = Wq := ⟨_, rfl⟩
    rw [hWc] at hHeld ⊢
    rw [hWc] at hD0
    clear hWc
    refine wpAnyH_ready (rs := [2, 15]) (by kernel_rfl) (by simp) (AllReadyH.cons rfl (fun K hK => ?_) (AllReadyH.cons rfl (fun K hK => ?_) AllReadyH.nil))
    · go_simp
      have ho := OwnN.empty Wc (B := W.heap.size) hD0
      have hz := al Wc (.cells #[] 26)
      have hh := below_trans hHeld hz
      clear hHeld hD0
      obtain ⟨Wd, hWd⟩ : ∃ Wq, Wc.alloc (.cells #[] 26) = Wq := ⟨_, rfl⟩
      rw [hWd] at ho hh ⊢
      clear hWd hz
      obtain ⟨go, hgo⟩ : ∃ g, Wc.heap.size = g := ⟨_, rfl⟩
      rw [hgo] at ho ⊢
      clear hgo
      clear Wc
      rename World => Wc
      have hO := ho
      clear ho
      refine hK.out _ _ hh (fun hHeld => ?_)
      clear hK hh
      try simp only [Act.put, List.setIfInBounds_toArray, List.set_cons_zero, List.set_cons_succ]
      have hD0 := hHeld.size
      refine wpAnyH_ready (rs := [7, 15]) (by kernel_rfl) (by simp) (AllReadyH.cons rfl (fun K hK => ?_) (AllReadyH.cons rfl (fun K hK => ?_) AllReadyH.nil))
      · refine step_append_O (by rfl) 192 rfl _ _ rfl W.heap.size _ ([]) rfl hO _ (l.take k) rfl (NRow.take (HR3.out.below hHeld) (n := k) (by omega)) (by simp) (by rw [List.length_take]; omega) hD0 (fun v7_ Wd ho2 hb2 hg2 hl2 => ?_)
        have hh := hHeld.trans hb2
        clear hHeld hD0 hg2 hl2 hb2 hO
        have hO := ho2
        clear ho2
        clear Wc
        rename World => Wc
        refine hK.out _ _ hh (fun hHeld => ?_)
        clear hK hh
        try simp only [Act.put, List.setIfInBounds_toArray, List.set_cons_zero, List.set_cons_succ]
        have hD0 := hHeld.size
        refine wpAnyH_ready (rs := [13, 15]) (by kernel_rfl) (by simp) (AllReadyH.cons rfl (fun K hK => ?_) (AllReadyH.cons rfl (fun K hK => ?_) AllReadyH.nil))
        · refine step_append_O (by rfl) 198 rfl _ _ rfl W.heap.size _ (([]) ++ (l.take k)) rfl hO _ (l.drop (k + 1)) rfl (HDP.out _ hHeld) (by simp only [List.nil_append, List.length_take]; omega) (by rw [List.length_drop]; omega) hD0 (fun vo Wd ho2 hb2 hg2 hl2 => ?_)
          have hh := hHeld.trans hb2
          clear hHeld hD0 hg2 hl2 hb2 hO
          have hO := ho2
          clear ho2
          clear Wc
          rename World => Wc
          refine hK.out _ _ hh (fun hHeld => ?_)
          clear hK hh
          try simp only [Act.put, List.setIfInBounds_toArray, List.set_cons_zero, List.set_cons_succ]
          have hD0 := hHeld.size
          obtain ⟨ao, no, co, rfl⟩ : ∃ a n c, vo = .slice a n c := (by obtain ⟨a', c', e⟩ := hO.row.slice; exact ⟨a', _, c', e⟩)
          refine takeH 14 199 (.agg #[.slice ao no co, .int .i64 t]) calm_np rfl rfl (by kernel_rfl) (by kernel_rfl) (by kernel_rfl) (by rfl) (fun W' hSw => by go_simp) hHeld ?_
          try simp only [Act.put, List.setIfInBounds_toArray, List.set_cons_zero, List.set_cons_succ]
          refine wpAnyH_ready (rs := [15]) (by kernel_rfl) (by simp) (AllReadyH.cons rfl (fun K hK => ?_) AllReadyH.nil)
          go_simp
          have hx := Box.made Wc [.slice none 0 0, .int .i64 0] 24
          have hz := al Wc (.cells #[.slice none 0 0, .int .i64 0] 24)
          have hgx : W.heap.size ≤ Wc.heap.size := hD0
          have sx : SepB Wc.heap.size (.slice ao no co) := OwnN.sep hO (Nat.le_refl _)
          have hh := below_trans hHeld hz
          clear hHeld hD0
          replace hO := hO.below hz
          obtain ⟨Wd, hWd⟩ : ∃ Wq, Wc.alloc (.cells #[.slice none 0 0, .int .i64 0] 24) = Wq := ⟨_, rfl⟩
          have hX : Box Wc.heap.size [.slice none 0 0, .int .i64 0] Wd := hWd ▸ hx
          rw [hWd] at hh ⊢
          rw [hWd] at hO
          clear hWd hz hx
          obtain ⟨gx, hgxe⟩ : ∃ g, Wc.heap.size = g := ⟨_, rfl⟩
          rw [hgxe] at hX hgx ⊢
          rw [hgxe] at sx
          clear hgxe
          clear Wc
          rename World => Wc
          refine hK.out _ _ hh (fun hHeld => ?_)
          clear hK hh
          try simp only [Act.put, List.setIfInBounds_toArray, List.set_cons_zero, List.set_cons_succ]
          have hD0 := hHeld.size
          refine wpAnyH_ready (rs := [16]) (by kernel_rfl) (by simp) (AllReadyH.cons rfl (fun K hK => ?_) AllReadyH.nil)
          obtain ⟨y0, y1⟩ := box2 hX
          obtain ⟨z0, z1⟩ := frz2 hX
          have hsx := hX.1
          go_simp
          have hX2 : Box gx [.slice ao no co, .int .i64 t] _ := box_put (box_put hX 0 (.slice ao no co) (by simp)) 1 (.int .i64 t) (by simp)
          have hRw := hO.row.sep_two (.slice ao no co) (.int .i64 t) sx
          have hO2 := (hO.sep_set (j := 0) (u := .slice ao no co) sx).sep_set (j := 1) (u := .int .i64 t) sx
          have hh := below_two (b := gx) (.slice ao no co) (.int .i64 t) hHeld hgx
          clear hX hO hHeld hD0 y0 y1 z0 z1 hsx
          have hX := hX2
          have hO := hO2
          clear hX2 hO2
          generalize (Wc.setCell ⟨gx, 0, none⟩ (.slice ao no co)).setCell ⟨gx, 1, none⟩ (.int .i64 t) = Wd at *
          clear Wc
          rename World => Wc
          refine hK.out _ _ hh (fun hHeld => ?_)
          clear hK hh
          try simp only [Act.put, List.setIfInBounds_toArray, List.set_cons_zero, List.set_cons_succ]
          refine wpAnyH_done (by kernel_rfl) ?_ _
          refine NoPanic.normal ?_
          exact hQ gx ao no co _ _ _ _ _ _ _ _ _ _ _ _ _ _ _ Wc hgx hX (by unfold rest; simpa using hRw) hHeld
        · go_simp
          have hx := Box.made Wc [.slice none 0 0, .int .i64 0] 24
          have hz := al Wc (.cells #[.slice none 0 0, .int .i64 0] 24)
          have hgx : W.heap.size ≤ Wc.heap.size := hD0
          have sx : SepB Wc.heap.size (v7_) := OwnN.sep hO (Nat.le_refl _)
          have hh := below_trans hHeld hz
          clear hHeld hD0
          replace hO := hO.below hz
          obtain ⟨Wd, hWd⟩ : ∃ Wq, Wc.alloc (.cells #[.slice none 0 0, .int .i64 0] 24) = Wq := ⟨_, rfl⟩
          have hX : Box Wc.heap.size [.slice none 0 0, .int .i64 0] Wd := hWd ▸ hx
          rw [hWd] at hh ⊢
          rw [hWd] at hO
          clear hWd hz hx
          obtain ⟨gx, hgxe⟩ : ∃ g, Wc.heap.size = g := ⟨_, rfl⟩
          rw [hgxe] at hX hgx ⊢
          rw [hgxe] at sx
          clear hgxe
          clear Wc
          rename World => Wc
          refine hK.out _ _ hh (fun hHeld => ?_)
          clear hK hh
          try simp only [Act.put, List.setIfInBounds_toArray, List.set_cons_zero, List.set_cons_succ]
          have hD0 := hHeld.size
          refine wpAnyH_ready (rs := [13]) (by kernel_rfl) (by simp) (AllReadyH.cons rfl (fun K hK => ?_) AllReadyH.nil)
          refine step_append_O (by rfl) 198 rfl _ _ rfl W.heap.size _ (([]) ++ (l.take k)) rfl hO _ (l.drop (k + 1)) rfl (HDP.out _ hHeld) (by simp only [List.nil_append, List.length_take]; omega) (by rw [List.length_drop]; omega) hD0 (fun vo Wd ho2 hb2 hg2 hl2 => ?_)
          have sx2 := sx.after hX.1 hl2
          replace hX := Box.keptN hX hg2 sx
          have hh := hHeld.trans hb2
          clear hHeld hD0 hg2 hl2 hb2 sx hO
          have hO := ho2
          clear ho2
          have sx := sx2
          clear sx2
          clear Wc
          rename World => Wc
          refine hK.out _ _ hh (fun hHeld => ?_)
          clear hK hh
          try simp only [Act.put, List.setIfInBounds_toArray, List.set_cons_zero, List.set_cons_succ]
          have hD0 := hHeld.size
          obtain ⟨ao, no, co, rfl⟩ : ∃ a n c, vo = .slice a n c := (by obtain ⟨a', c', e⟩ := hO.row.slice; exact ⟨a', _, c', e⟩)
          refine takeH 14 199 (.agg #[.slice ao no co, .int .i64 t]) calm_np rfl rfl (by kernel_rfl) (by kernel_rfl) (by kernel_rfl) (by rfl) (fun W' hSw => by go_simp) hHeld ?_
          try simp only [Act.put, List.setIfInBounds_toArray, List.set_cons_zero, List.set_cons_succ]
          refine wpAnyH_ready (rs := [16]) (by kernel_rfl) (by simp) (AllReadyH.cons rfl (fun K hK => ?_) AllReadyH.nil)
          obtain ⟨y0, y1⟩ := box2 hX
          obtain ⟨z0, z1⟩ := frz2 hX
          have hsx := hX.1
          go_simp
          have hX2 : Box gx [.slice ao no co, .int .i64 t] _ := box_put (box_put hX 0 (.slice ao no co) (by simp)) 1 (.int .i64 t) (by simp)
          have hRw := hO.row.sep_two (.slice ao no co) (.int .i64 t) sx
          have hO2 := (hO.sep_set (j := 0) (u := .slice ao no co) sx).sep_set (j := 1) (u := .int .i64 t) sx
          have hh := below_two (b := gx) (.slice ao no co) (.int .i64 t) hHeld hgx
          clear hX hO hHeld hD0 y0 y1 z0 z1 hsx
          have hX := hX2
          have hO := hO2
          clear hX2 hO2
          generalize (Wc.setCell ⟨gx, 0, none⟩ (.slice ao no co)).setCell ⟨gx, 1, none⟩ (.int .i64 t) = Wd at *
          clear Wc
          rename World => Wc
          refine hK.out _ _ hh (fun hHeld => ?_)
          clear hK hh
          try simp only [Act.put, List.setIfInBounds_toArray, List.set_cons_zero, List.set_cons_succ]
          refine wpAnyH_done (by kernel_rfl) ?_ _
          refine NoPanic.normal ?_
          exact hQ gx ao no co _ _ _ _ _ _ _ _ _ _ _ _ _ _ _ Wc hgx hX (by unfold rest; simpa using hRw) hHeld
      · go_simp
        have hx := Box.made Wc [.slice none 0 0, .int .i64 0] 24
        have hz := al Wc (.cells #[.slice none 0 0, .int .i64 0] 24)
        have hgx : W.heap.size ≤ Wc.heap.size := hD0
        have sx : SepB Wc.heap.size (.slice (some ⟨go, 0, none⟩) 0 0) := OwnN.sep hO (Nat.le_refl _)
        have hh := below_trans hHeld hz
        clear hHeld hD0
        replace hO := hO.below hz
        obtain ⟨Wd, hWd⟩ : ∃ Wq, Wc.alloc (.cells #[.slice none 0 0, .int .i64 0] 24) = Wq := ⟨_, rfl⟩
        have hX : Box Wc.heap.size [.slice none 0 0, .int .i64 0] Wd := hWd ▸ hx
        rw [hWd] at hh ⊢
        rw [hWd] at hO
        clear hWd hz hx
        obtain ⟨gx, hgxe⟩ : ∃ g, Wc.heap.size = g := ⟨_, rfl⟩
        rw [hgxe] at hX hgx ⊢
        rw [hgxe] at sx
        clear hgxe
        clear Wc
        rename World => Wc
        refine hK.out _ _ hh (fun hHeld => ?_)
        clear hK hh
        try simp only [Act.put, List.setIfInBounds_toArray, List.set_cons_zero, List.set_cons_succ]
        have hD0 := hHeld.size
        refine wpAnyH_ready (rs := [7]) (by kernel_rfl) (by simp) (AllReadyH.cons rfl (fun K hK => ?_) AllReadyH.nil)
        refine step_append_O (by rfl) 192 rfl _ _ rfl W.heap.size _ ([]) rfl hO _ (l.take k) rfl (NRow.take (HR3.out.below hHeld) (n := k) (by omega)) (by simp) (by rw [List.length_take]; omega) hD0 (fun v7_ Wd ho2 hb2 hg2 hl2 => ?_)
        have sx2 := sx.after hX.1 hl2
        replace hX := Box.keptN hX hg2 sx
        have hh := hHeld.trans hb2
        clear hHeld hD0 hg2 hl2 hb2 sx hO
        have hO := ho2
        clear ho2
        have sx := sx2
        clear sx2
        clear Wc
        rename World => Wc
        refine hK.out _ _ hh (fun hHeld => ?_)
        clear hK hh
        try simp only [Act.put, List.setIfInBounds_toArray, List.set_cons_zero, List.set_cons_succ]
        have hD0 := hHeld.size
        refine wpAnyH_ready (rs := [13]) (by kernel_rfl) (by simp) (AllReadyH.cons rfl (fun K hK => ?_) AllReadyH.nil)
        refine step_append_O (by rfl) 198 rfl _ _ rfl W.heap.size _ (([]) ++ (l.take k)) rfl hO _ (l.drop (k + 1)) rfl (HDP.out _ hHeld) (by simp only [List.nil_append, List.length_take]; omega) (by rw [List.length_drop]; omega) hD0 (fun vo Wd ho2 hb2 hg2 hl2 => ?_)
        have sx2 := sx.after hX.1 hl2
        replace hX := Box.keptN hX hg2 sx
        have hh := hHeld.trans hb2
        clear hHeld hD0 hg2 hl2 hb2 sx hO
        have hO := ho2
        clear ho2
        have sx := sx2
        clear sx2
        clear Wc
        rename World => Wc
        refine hK.out _ _ hh (fun hHeld => ?_)
        clear hK hh
        try simp only [Act.put, List.setIfInBounds_toArray, List.set_cons_zero, List.set_cons_succ]
        have hD0 := hHeld.size
        obtain ⟨ao, no, co, rfl⟩ : ∃ a n c, vo = .slice a n c := (by obtain ⟨a', c', e⟩ := hO.row.slice; exact ⟨a', _, c', e⟩)
        refine takeH 14 199 (.agg #[.slice ao no co, .int .i64 t]) calm_np rfl rfl (by kernel_rfl) (by kernel_rfl) (by kernel_rfl) (by rfl) (fun W' hSw => by go_simp) hHeld ?_
        try simp only [Act.put, List.setIfInBounds_toArray, List.set_cons_zero, List.set_cons_succ]
        refine wpAnyH_ready (rs := [16]) (by kernel_rfl) (by simp) (AllReadyH.cons rfl (fun K hK => ?_) AllReadyH.nil)
        obtain ⟨y0, y1⟩ := box2 hX
        obtain ⟨z0, z1⟩ := frz2 hX
        have hsx := hX.1
        go_simp
        have hX2 : Box gx [.slice ao no co, .int .i64 t] _ := box_put (box_put hX 0 (.slice ao no co) (by simp)) 1 (.int .i64 t) (by simp)
        have hRw := hO.row.sep_two (.slice ao no co) (.int .i64 t) sx
        have hO2 := (hO.sep_set (j := 0) (u := .slice ao no co) sx).sep_set (j := 1) (u := .int .i64 t) sx
        have hh := below_two (b := gx) (.slice ao no co) (.int .i64 t) hHeld hgx
        clear hX hO hHeld hD0 y0 y1 z0 z1 hsx
        have hX := hX2
        have hO := hO2
        clear hX2 hO2
        generalize (Wc.setCell ⟨gx, 0, none⟩ (.slice ao no co)).setCell ⟨gx, 1, none⟩ (.int .i64 t) = Wd at *
        clear Wc
        rename World => Wc
        refine hK.out _ _ hh (fun hHeld => ?_)
        clear hK hh
        try simp only [Act.put, List.setIfInBounds_toArray, List.set_cons_zero, List.set_cons_succ]
        refine wpAnyH_done (by kernel_rfl) ?_ _
        refine NoPanic.normal ?_
        exact hQ gx ao no co _ _ _ _ _ _ _ _ _ _ _ _ _ _ _ Wc hgx hX (by unfold rest; simpa using hRw) hHeld
    · go_simp
      have hx := Box.made Wc [.slice none 0 0, .int .i64 0] 24
      have hz := al Wc (.cells #[.slice none 0 0, .int .i64 0] 24)
      have hgx : W.heap.size ≤ Wc.heap.size := hD0
      have hh := below_trans hHeld hz
      clear hHeld hD0
      obtain ⟨Wd, hWd⟩ : ∃ Wq, Wc.alloc (.cells #[.slice none 0 0, .int .i64 0] 24) = Wq := ⟨_, rfl⟩
      have hX : Box Wc.heap.size [.slice none 0 0, .int .i64 0] Wd := hWd ▸ hx
      rw [hWd] at hh ⊢
      clear hWd hz hx
      obtain ⟨gx, hgxe⟩ : ∃ g, Wc.heap.size = g := ⟨_, rfl⟩
      rw [hgxe] at hX hgx ⊢
      clear hgxe
      clear Wc
      rename World => Wc
      refine hK.out _ _ hh (fun hHeld => ?_)
      clear hK hh
      try simp only [Act.put, List.setIfInBounds_toArray, List.set_cons_zero, List.set_cons_succ]
      have hD0 := hHeld.size
      refine wpAnyH_ready (rs := [2]) (by kernel_rfl) (by simp) (AllReadyH.cons rfl (fun K hK => ?_) AllReadyH.nil)
      go_simp
      have ho := OwnN.empty Wc (B := W.heap.size) hD0
      have hz := al Wc (.cells #[] 26)
      have sx : SepB gx (.slice (some ⟨Wc.heap.size, 0, none⟩) 0 0) := SepB.under hX.1
      have hh := below_trans hHeld hz
      clear hHeld hD0
      replace hX := hX.below hz
      obtain ⟨Wd, hWd⟩ : ∃ Wq, Wc.alloc (.cells #[] 26) = Wq := ⟨_, rfl⟩
      rw [hWd] at ho hh ⊢
      rw [hWd] at hX
      clear hWd hz
      obtain ⟨go, hgo⟩ : ∃ g, Wc.heap.size = g := ⟨_, rfl⟩
      rw [hgo] at ho ⊢
      rw [hgo] at sx
      clear hgo
      clear Wc
      rename World => Wc
      have hO := ho
      clear ho
      refine hK.out _ _ hh (fun hHeld => ?_)
      clear hK hh
      try simp only [Act.put, List.setIfInBounds_toArray, List.set_cons_zero, List.set_cons_succ]
      have hD0 := hHeld.size
      refine wpAnyH_ready (rs := [7]) (by kernel_rfl) (by simp) (AllReadyH.cons rfl (fun K hK => ?_) AllReadyH.nil)
      refine step_append_O (by rfl) 192 rfl _ _ rfl W.heap.size _ ([]) rfl hO _ (l.take k) rfl (NRow.take (HR3.out.below hHeld) (n := k) (by omega)) (by simp) (by rw [List.length_take]; omega) hD0 (fun v7_ Wd ho2 hb2 hg2 hl2 => ?_)
      have sx2 := sx.after hX.1 hl2
      replace hX := Box.keptN hX hg2 sx
      have hh := hHeld.trans hb2
      clear hHeld hD0 hg2 hl2 hb2 sx hO
      have hO := ho2
      clear ho2
      have sx := sx2
      clear sx2
      clear Wc
      rename World => Wc
      refine hK.out _ _ hh (fun hHeld => ?_)
      clear hK hh
      try simp only [Act.put, List.setIfInBounds_toArray, List.set_cons_zero, List.set_cons_succ]
      have hD0 := hHeld.size
      refine wpAnyH_ready (rs := [13]) (by kernel_rfl) (by simp) (AllReadyH.cons rfl (fun K hK => ?_) AllReadyH.nil)
      refine step_append_O (by rfl) 198 rfl _ _ rfl W.heap.size _ (([]) ++ (l.take k)) rfl hO _ (l.drop (k + 1)) rfl (HDP.out _ hHeld) (by simp only [List.nil_append, List.length_take]; omega) (by rw [List.length_drop]; omega) hD0 (fun vo Wd ho2 hb2 hg2 hl2 => ?_)
      have sx2 := sx.after hX.1 hl2
      replace hX := Box.keptN hX hg2 sx
      have hh := hHeld.trans hb2
      clear hHeld hD0 hg2 hl2 hb2 sx hO
      have hO := ho2
      clear ho2
      have sx := sx2
      clear sx2
      clear Wc
      rename World => Wc
      refine hK.out _ _ hh (fun hHeld => ?_)
      clear hK hh
      try simp only [Act.put, List.setIfInBounds_toArray, List.set_cons_zero, List.set_cons_succ]
      have hD0 := hHeld.size
      obtain ⟨ao, no, co, rfl⟩ : ∃ a n c, vo = .slice a n c := (by obtain ⟨a', c', e⟩ := hO.row.slice; exact ⟨a', _, c', e⟩)
      refine takeH 14 199 (.agg #[.slice ao no co, .int .i64 t]) calm_np rfl rfl (by kernel_rfl) (by kernel_rfl) (by kernel_rfl) (by rfl) (fun W' hSw => by go_simp) hHeld ?_
      try simp only [Act.put, List.setIfInBounds_toArray, List.set_cons_zero, List.set_cons_succ]
      refine wpAnyH_ready (rs := [16]) (by kernel_rfl) (by simp) (AllReadyH.cons rfl (fun K hK => ?_) AllReadyH.nil)
      obtain ⟨y0, y1⟩ := box2 hX
      obtain ⟨z0, z1⟩ := frz2 hX
      have hsx := hX.1
      go_simp
      have hX2 : Box gx [.slice ao no co, .int .i64 t] _ := box_put (box_put hX 0 (.slice ao no co) (by simp)) 1 (.int .i64 t) (by simp)
      have hRw := hO.row.sep_two (.slice ao no co) (.int .i64 t) sx
      have hO2 := (hO.sep_set (j := 0) (u := .slice ao no co) sx).sep_set (j := 1) (u := .int .i64 t) sx
      have hh := below_two (b := gx) (.slice ao no co) (.int .i64 t) hHeld hgx
      clear hX hO hHeld hD0 y0 y1 z0 z1 hsx
      have hX := hX2
      have hO := hO2
      clear hX2 hO2
      generalize (Wc.setCell ⟨gx, 0, none⟩ (.slice ao no co)).setCell ⟨gx, 1, none⟩ (.int .i64 t) = Wd at *
      clear Wc
      rename World => Wc
      refine hK.out _ _ hh (fun hHeld => ?_)
      clear hK hh
      try simp only [Act.put, List.setIfInBounds_toArray, List.set_cons_zero, List.set_cons_succ]
      refine wpAnyH_done (by kernel_rfl) ?_ _
      refine NoPanic.normal ?_
      exact hQ gx ao no co _ _ _ _ _ _ _ _ _ _ _ _ _ _ _ Wc hgx hX (by unfold rest; simpa using hRw) hHeld
  · have HDP : Hid (∀ W', Below W.heap.size W W' → NRow W' (.slice (some ⟨b, off + (k + 1) * 6, none⟩) (l.length - (k + 1)) (cap - (k + 1))) (l.drop (k + 1))) := Lib.hid (fun W' hW => by have := NRow.drop (HR3.out.below hW) (n := k + 1) (by omega); rwa [addr_add] at this)
    refine wp_region_noPanic ?_
    refine wp_region_held_drew (S := fun W' => Below W.heap.size W W') (by kernel_rfl) (dr W) (fun hHeld => ?_)
    try dsimp only
    refine takeH 0 185 (.pointer (some ⟨b3, 1, none⟩)) calm_np rfl rfl (by kernel_rfl) (by kernel_rfl) (by kernel_rfl) (by rfl) (fun W' hSw => by go_simp) hHeld ?_
    try simp only [Act.put, List.setIfInBounds_toArray, List.set_cons_zero, List.set_cons_succ]
    refine takeH 1 186 (.int .i64 t) calm_np rfl rfl (by kernel_rfl) (by kernel_rfl) (by kernel_rfl) (by rfl) (fun W' hSw => by have g0 := (show _ = some (Value.int .i64 t) from (HX3.out.below hSw).at 1 rfl); have hsz := (HX3.out.below hSw).1; go_simp) hHeld ?_
    try simp only [Act.put, List.setIfInBounds_toArray, List.set_cons_zero, List.set_cons_succ]
    refine takeH 3 188 (.pointer (some ⟨b3, 0, none⟩)) calm_np rfl rfl (by kernel_rfl) (by kernel_rfl) (by kernel_rfl) (by rfl) (fun W' hSw => by go_simp) hHeld ?_
    try simp only [Act.put, List.setIfInBounds_toArray, List.set_cons_zero, List.set_cons_succ]
    refine takeH 4 189 (.slice (some ⟨b, off, none⟩) l.length cap) calm_np rfl rfl (by kernel_rfl) (by kernel_rfl) (by kernel_rfl) (by rfl) (fun W' hSw => by have g0 := (show _ = some (Value.slice (some ⟨b, off, none⟩) l.length cap) from (HX3.out.below hSw).at 0 rfl); have hsz := (HX3.out.below hSw).1; go_simp) hHeld ?_
    try simp only [Act.put, List.setIfInBounds_toArray, List.set_cons_zero, List.set_cons_succ]
    refine takeH 5 190 (.int .i64 (k : Int)) calm_np rfl rfl (by kernel_rfl) (by kernel_rfl) (by kernel_rfl) (by rfl) (fun W' hSw => by go_simp) hHeld ?_
    try simp only [Act.put, List.setIfInBounds_toArray, List.set_cons_zero, List.set_cons_succ]
    refine takeH 6 191 (.slice (some ⟨b, off, none⟩) k cap) calm_np rfl rfl (by kernel_rfl) (by kernel_rfl) (by kernel_rfl) (by rfl) (fun W' hSw => by go_simp) hHeld ?_
    try simp only [Act.put, List.setIfInBounds_toArray, List.set_cons_zero, List.set_cons_succ]
    refine takeH 8 193 (.pointer (some ⟨b3, 0, none⟩)) calm_np rfl rfl (by kernel_rfl) (by kernel_rfl) (by kernel_rfl) (by rfl) (fun W' hSw => by go_simp) hHeld ?_
    try simp only [Act.put, List.setIfInBounds_toArray, List.set_cons_zero, List.set_cons_succ]
    refine takeH 9 194 (.slice (some ⟨b, off, none⟩) l.length cap) calm_np rfl rfl (by kernel_rfl) (by kernel_rfl) (by kernel_rfl) (by rfl) (fun W' hSw => by have g0 := (show _ = some (Value.slice (some ⟨b, off, none⟩) l.length cap) from (HX3.out.below hSw).at 0 rfl); have hsz := (HX3.out.below hSw).1; go_simp) hHeld ?_
    try simp only [Act.put, List.setIfInBounds_toArray, List.set_cons_zero, List.set_cons_succ]
    refine takeH 10 195 (.int .i64 (k : Int)) calm_np rfl rfl (by kernel_rfl) (by kernel_rfl) (by kernel_rfl) (by rfl) (fun W' hSw => by go_simp) hHeld ?_
    try simp only [Act.put, List.setIfInBounds_toArray, List.set_cons_zero, List.set_cons_succ]
    refine takeH 11 196 (.int .i64 ((k : Int) + 1)) calm_np rfl rfl (by kernel_rfl) (by kernel_rfl) (by kernel_rfl) (by rfl) (fun W' hSw => by go_simp) hHeld ?_
    try simp only [Act.put, List.setIfInBounds_toArray, List.set_cons_zero, List.set_cons_succ]
    refine takeH 12 197 (.slice (some ⟨b, off + (k + 1) * 6, none⟩) (l.length - (k + 1)) (cap - (k + 1))) calm_np rfl rfl (by kernel_rfl) (by kernel_rfl) (by kernel_rfl) (by rfl) (fun W' hSw => by go_simp) hHeld ?_
    try simp only [Act.put, List.setIfInBounds_toArray, List.set_cons_zero, List.set_cons_succ]
    have hD0 := hHeld.size
    obtain ⟨Wc, hWc⟩ : ∃ Wq, W.drew = Wq := ⟨_, rfl⟩
    rw [hWc] at hHeld ⊢
    rw [hWc] at hD0
    clear hWc
    refine wpAnyH_ready (rs := [2, 15]) (by kernel_rfl) (by simp) (AllReadyH.cons rfl (fun K hK => ?_) (AllReadyH.cons rfl (fun K hK => ?_) AllReadyH.nil))
    · go_simp
      have ho := OwnN.empty Wc (B := W.heap.size) hD0
      have hz := al Wc (.cells #[] 26)
      have hh := below_trans hHeld hz
      clear hHeld hD0
      obtain ⟨Wd, hWd⟩ : ∃ Wq, Wc.alloc (.cells #[] 26) = Wq := ⟨_, rfl⟩
      rw [hWd] at ho hh ⊢
      clear hWd hz
      obtain ⟨go, hgo⟩ : ∃ g, Wc.heap.size = g := ⟨_, rfl⟩
      rw [hgo] at ho ⊢
      clear hgo
      clear Wc
      rename World => Wc
      have hO := ho
      clear ho
      refine hK.out _ _ hh (fun hHeld => ?_)
      clear hK hh
      try simp only [Act.put, List.setIfInBounds_toArray, List.set_cons_zero, List.set_cons_succ]
      have hD0 := hHeld.size
      refine wpAnyH_ready (rs := [7, 15]) (by kernel_rfl) (by simp) (AllReadyH.cons rfl (fun K hK => ?_) (AllReadyH.cons rfl (fun K hK => ?_) AllReadyH.nil))
      · refine step_append_O (by rfl) 192 rfl _ _ rfl W.heap.size _ ([]) rfl hO _ (l.take k) rfl (NRow.take (HR3.out.below hHeld) (n := k) (by omega)) (by simp) (by rw [List.length_take]; omega) hD0 (fun v7_ Wd ho2 hb2 hg2 hl2 => ?_)
        have hh := hHeld.trans hb2
        clear hHeld hD0 hg2 hl2 hb2 hO
        have hO := ho2
        clear ho2
        clear Wc
        rename World => Wc
        refine hK.out _ _ hh (fun hHeld => ?_)
        clear hK hh
        try simp only [Act.put, List.setIfInBounds_toArray, List.set_cons_zero, List.set_cons_succ]
        have hD0 := hHeld.size
        refine wpAnyH_ready (rs := [13, 15]) (by kernel_rfl) (by simp) (AllReadyH.cons rfl (fun K hK => ?_) (AllReadyH.cons rfl (fun K hK => ?_) AllReadyH.nil))
        · refine step_append_O (by rfl) 198 rfl _ _ rfl W.heap.size _ (([]) ++ (l.take k)) rfl hO _ (l.drop (k + 1)) rfl (HDP.out _ hHeld) (by simp only [List.nil_append, List.length_take]; omega) (by rw [List.length_drop]; omega) hD0 (fun vo Wd ho2 hb2 hg2 hl2 => ?_)
          have hh := hHeld.trans hb2
          clear hHeld hD0 hg2 hl2 hb2 hO
          have hO := ho2
          clear ho2
          clear Wc
          rename World => Wc
          refine hK.out _ _ hh (fun hHeld => ?_)
          clear hK hh
          try simp only [Act.put, List.setIfInBounds_toArray, List.set_cons_zero, List.set_cons_succ]
          have hD0 := hHeld.size
          obtain ⟨ao, no, co, rfl⟩ : ∃ a n c, vo = .slice a n c := (by obtain ⟨a', c', e⟩ := hO.row.slice; exact ⟨a', _, c', e⟩)
          refine takeH 14 199 (.agg #[.slice ao no co, .int .i64 t]) calm_np rfl rfl (by kernel_rfl) (by kernel_rfl) (by kernel_rfl) (by rfl) (fun W' hSw => by go_simp) hHeld ?_
          try simp only [Act.put, List.setIfInBounds_toArray, List.set_cons_zero, List.set_cons_succ]
          refine wpAnyH_ready (rs := [15]) (by kernel_rfl) (by simp) (AllReadyH.cons rfl (fun K hK => ?_) AllReadyH.nil)
          go_simp
          have hx := Box.made Wc [.slice none 0 0, .int .i64 0] 24
          have hz := al Wc (.cells #[.slice none 0 0, .int .i64 0] 24)
          have hgx : W.heap.size ≤ Wc.heap.size := hD0
          have sx : SepB Wc.heap.size (.slice ao no co) := OwnN.sep hO (Nat.le_refl _)
          have hh := below_trans hHeld hz
          clear hHeld hD0
          replace hO := hO.below hz
          obtain ⟨Wd, hWd⟩ : ∃ Wq, Wc.alloc (.cells #[.slice none 0 0, .int .i64 0] 24) = Wq := ⟨_, rfl⟩
          have hX : Box Wc.heap.size [.slice none 0 0, .int .i64 0] Wd := hWd ▸ hx
          rw [hWd] at hh ⊢
          rw [hWd] at hO
          clear hWd hz hx
          obtain ⟨gx, hgxe⟩ : ∃ g, Wc.heap.size = g := ⟨_, rfl⟩
          rw [hgxe] at hX hgx ⊢
          rw [hgxe] at sx
          clear hgxe
          clear Wc
          rename World => Wc
          refine hK.out _ _ hh (fun hHeld => ?_)
          clear hK hh
          try simp only [Act.put, List.setIfInBounds_toArray, List.set_cons_zero, List.set_cons_succ]
          have hD0 := hHeld.size
          refine wpAnyH_ready (rs := [16]) (by kernel_rfl) (by simp) (AllReadyH.cons rfl (fun K hK => ?_) AllReadyH.nil)
          obtain ⟨y0, y1⟩ := box2 hX
          obtain ⟨z0, z1⟩ := frz2 hX
          have hsx := hX.1
          go_simp
          have hX2 : Box gx [.slice ao no co, .int .i64 t] _ := box_put (box_put hX 0 (.slice ao no co) (by simp)) 1 (.int .i64 t) (by simp)
          have hRw := hO.row.sep_two (.slice ao no co) (.int .i64 t) sx
          have hO2 := (hO.sep_set (j := 0) (u := .slice ao no co) sx).sep_set (j := 1) (u := .int .i64 t) sx
          have hh := below_two (b := gx) (.slice ao no co) (.int .i64 t) hHeld hgx
          clear hX hO hHeld hD0 y0 y1 z0 z1 hsx
          have hX := hX2
          have hO := hO2
          clear hX2 hO2
          generalize (Wc.setCell ⟨gx, 0, none⟩ (.slice ao no co)).setCell ⟨gx, 1, none⟩ (.int .i64 t) = Wd at *
          clear Wc
          rename World => Wc
          refine hK.out _ _ hh (fun hHeld => ?_)
          clear hK hh
          try simp only [Act.put, List.setIfInBounds_toArray, List.set_cons_zero, List.set_cons_succ]
          refine wpAnyH_done (by kernel_rfl) ?_ _
          refine NoPanic.normal ?_
          exact hQ gx ao no co _ _ _ _ _ _ _ _ _ _ _ _ _ _ _ Wc hgx hX (by unfold rest; simpa using hRw) hHeld
        · go_simp
          have hx := Box.made Wc [.slice none 0 0, .int .i64 0] 24
          have hz := al Wc (.cells #[.slice none 0 0, .int .i64 0] 24)
          have hgx : W.heap.size ≤ Wc.heap.size := hD0
          have sx : SepB Wc.heap.size (v7_) := OwnN.sep hO (Nat.le_refl _)
          have hh := below_trans hHeld hz
          clear hHeld hD0
          replace hO := hO.below hz
          obtain ⟨Wd, hWd⟩ : ∃ Wq, Wc.alloc (.cells #[.slice none 0 0, .int .i64 0] 24) = Wq := ⟨_, rfl⟩
          have hX : Box Wc.heap.size [.slice none 0 0, .int .i64 0] Wd := hWd ▸ hx
          rw [hWd] at hh ⊢
          rw [hWd] at hO
          clear hWd hz hx
          obtain ⟨gx, hgxe⟩ : ∃ g, Wc.heap.size = g := ⟨_, rfl⟩
          rw [hgxe] at hX hgx ⊢
          rw [hgxe] at sx
          clear hgxe
          clear Wc
          rename World => Wc
          refine hK.out _ _ hh (fun hHeld => ?_)
          clear hK hh
          try simp only [Act.put, List.setIfInBounds_toArray, List.set_cons_zero, List.set_cons_succ]
          have hD0 := hHeld.size
          refine wpAnyH_ready (rs := [13]) (by kernel_rfl) (by simp) (AllReadyH.cons rfl (fun K hK => ?_) AllReadyH.nil)
          refine step_append_O (by rfl) 198 rfl _ _ rfl W.heap.size _ (([]) ++ (l.take k)) rfl hO _ (l.drop (k + 1)) rfl (HDP.out _ hHeld) (by simp only [List.nil_append, List.length_take]; omega) (by rw [List.length_drop]; omega) hD0 (fun vo Wd ho2 hb2 hg2 hl2 => ?_)
          have sx2 := sx.after hX.1 hl2
          replace hX := Box.keptN hX hg2 sx
          have hh := hHeld.trans hb2
          clear hHeld hD0 hg2 hl2 hb2 sx hO
          have hO := ho2
          clear ho2
          have sx := sx2
          clear sx2
          clear Wc
          rename World => Wc
          refine hK.out _ _ hh (fun hHeld => ?_)
          clear hK hh
          try simp only [Act.put, List.setIfInBounds_toArray, List.set_cons_zero, List.set_cons_succ]
          have hD0 := hHeld.size
          obtain ⟨ao, no, co, rfl⟩ : ∃ a n c, vo = .slice a n c := (by obtain ⟨a', c', e⟩ := hO.row.slice; exact ⟨a', _, c', e⟩)
          refine takeH 14 199 (.agg #[.slice ao no co, .int .i64 t]) calm_np rfl rfl (by kernel_rfl) (by kernel_rfl) (by kernel_rfl) (by rfl) (fun W' hSw => by go_simp) hHeld ?_
          try simp only [Act.put, List.setIfInBounds_toArray, List.set_cons_zero, List.set_cons_succ]
          refine wpAnyH_ready (rs := [16]) (by kernel_rfl) (by simp) (AllReadyH.cons rfl (fun K hK => ?_) AllReadyH.nil)
          obtain ⟨y0, y1⟩ := box2 hX
          obtain ⟨z0, z1⟩ := frz2 hX
          have hsx := hX.1
          go_simp
          have hX2 : Box gx [.slice ao no co, .int .i64 t] _ := box_put (box_put hX 0 (.slice ao no co) (by simp)) 1 (.int .i64 t) (by simp)
          have hRw := hO.row.sep_two (.slice ao no co) (.int .i64 t) sx
          have hO2 := (hO.sep_set (j := 0) (u := .slice ao no co) sx).sep_set (j := 1) (u := .int .i64 t) sx
          have hh := below_two (b := gx) (.slice ao no co) (.int .i64 t) hHeld hgx
          clear hX hO hHeld hD0 y0 y1 z0 z1 hsx
          have hX := hX2
          have hO := hO2
          clear hX2 hO2
          generalize (Wc.setCell ⟨gx, 0, none⟩ (.slice ao no co)).setCell ⟨gx, 1, none⟩ (.int .i64 t) = Wd at *
          clear Wc
          rename World => Wc
          refine hK.out _ _ hh (fun hHeld => ?_)
          clear hK hh
          try simp only [Act.put, List.setIfInBounds_toArray, List.set_cons_zero, List.set_cons_succ]
          refine wpAnyH_done (by kernel_rfl) ?_ _
          refine NoPanic.normal ?_
          exact hQ gx ao no co _ _ _ _ _ _ _ _ _ _ _ _ _ _ _ Wc hgx hX (by unfold rest; simpa using hRw) hHeld
      · go_simp
        have hx := Box.made Wc [.slice none 0 0, .int .i64 0] 24
        have hz := al Wc (.cells #[.slice none 0 0, .int .i64 0] 24)
        have hgx : W.heap.size ≤ Wc.heap.size := hD0
        have sx : SepB Wc.heap.size (.slice (some ⟨go, 0, none⟩) 0 0) := OwnN.sep hO (Nat.le_refl _)
        have hh := below_trans hHeld hz
        clear hHeld hD0
        replace hO := hO.below hz
        obtain ⟨Wd, hWd⟩ : ∃ Wq, Wc.alloc (.cells #[.slice none 0 0, .int .i64 0] 24) = Wq := ⟨_, rfl⟩
        have hX : Box Wc.heap.size [.slice none 0 0, .int .i64 0] Wd := hWd ▸ hx
        rw [hWd] at hh ⊢
        rw [hWd] at hO
        clear hWd hz hx
        obtain ⟨gx, hgxe⟩ : ∃ g, Wc.heap.size = g := ⟨_, rfl⟩
        rw [hgxe] at hX hgx ⊢
        rw [hgxe] at sx
        clear hgxe
        clear Wc
        rename World => Wc
        refine hK.out _ _ hh (fun hHeld => ?_)
        clear hK hh
        try simp only [Act.put, List.setIfInBounds_toArray, List.set_cons_zero, List.set_cons_succ]
        have hD0 := hHeld.size
        refine wpAnyH_ready (rs := [7]) (by kernel_rfl) (by simp) (AllReadyH.cons rfl (fun K hK => ?_) AllReadyH.nil)
        refine step_append_O (by rfl) 192 rfl _ _ rfl W.heap.size _ ([]) rfl hO _ (l.take k) rfl (NRow.take (HR3.out.below hHeld) (n := k) (by omega)) (by simp) (by rw [List.length_take]; omega) hD0 (fun v7_ Wd ho2 hb2 hg2 hl2 => ?_)
        have sx2 := sx.after hX.1 hl2
        replace hX := Box.keptN hX hg2 sx
        have hh := hHeld.trans hb2
        clear hHeld hD0 hg2 hl2 hb2 sx hO
        have hO := ho2
        clear ho2
        have sx := sx2
        clear sx2
        clear Wc
        rename World => Wc
        refine hK.out _ _ hh (fun hHeld => ?_)
        clear hK hh
        try simp only [Act.put, List.setIfInBounds_toArray, List.set_cons_zero, List.set_cons_succ]
        have hD0 := hHeld.size
        refine wpAnyH_ready (rs := [13]) (by kernel_rfl) (by simp) (AllReadyH.cons rfl (fun K hK => ?_) AllReadyH.nil)
        refine step_append_O (by rfl) 198 rfl _ _ rfl W.heap.size _ (([]) ++ (l.take k)) rfl hO _ (l.drop (k + 1)) rfl (HDP.out _ hHeld) (by simp only [List.nil_append, List.length_take]; omega) (by rw [List.length_drop]; omega) hD0 (fun vo Wd ho2 hb2 hg2 hl2 => ?_)
        have sx2 := sx.after hX.1 hl2
        replace hX := Box.keptN hX hg2 sx
        have hh := hHeld.trans hb2
        clear hHeld hD0 hg2 hl2 hb2 sx hO
        have hO := ho2
        clear ho2
        have sx := sx2
        clear sx2
        clear Wc
        rename World => Wc
        refine hK.out _ _ hh (fun hHeld => ?_)
        clear hK hh
        try simp only [Act.put, List.setIfInBounds_toArray, List.set_cons_zero, List.set_cons_succ]
        have hD0 := hHeld.size
        obtain ⟨ao, no, co, rfl⟩ : ∃ a n c, vo = .slice a n c := (by obtain ⟨a', c', e⟩ := hO.row.slice; exact ⟨a', _, c', e⟩)
        refine takeH 14 199 (.agg #[.slice ao no co, .int .i64 t]) calm_np rfl rfl (by kernel_rfl) (by kernel_rfl) (by kernel_rfl) (by rfl) (fun W' hSw => by go_simp) hHeld ?_
        try simp only [Act.put, List.setIfInBounds_toArray, List.set_cons_zero, List.set_cons_succ]
        refine wpAnyH_ready (rs := [16]) (by kernel_rfl) (by simp) (AllReadyH.cons rfl (fun K hK => ?_) AllReadyH.nil)
        obtain ⟨y0, y1⟩ := box2 hX
        obtain ⟨z0, z1⟩ := frz2 hX
        have hsx := hX.1
        go_simp
        have hX2 : Box gx [.slice ao no co, .int .i64 t] _ := box_put (box_put hX 0 (.slice ao no co) (by simp)) 1 (.int .i64 t) (by simp)
        have hRw := hO.row.sep_two (.slice ao no co) (.int .i64 t) sx
        have hO2 := (hO.sep_set (j := 0) (u := .slice ao no co) sx).sep_set (j := 1) (u := .int .i64 t) sx
        have hh := below_two (b := gx) (.slice ao no co) (.int .i64 t) hHeld hgx
        clear hX hO hHeld hD0 y0 y1 z0 z1 hsx
        have hX := hX2
        have hO := hO2
        clear hX2 hO2
        generalize (Wc.setCell ⟨gx, 0, none⟩ (.slice ao no co)).setCell ⟨gx, 1, none⟩ (.int .i64 t) = Wd at *
        clear Wc
        rename World => Wc
        refine hK.out _ _ hh (fun hHeld => ?_)
        clear hK hh
        try simp only [Act.put, List.setIfInBounds_toArray, List.set_cons_zero, List.set_cons_succ]
        refine wpAnyH_done (by kernel_rfl) ?_ _
        refine NoPanic.normal ?_
        exact hQ gx ao no co _ _ _ _ _ _ _ _ _ _ _ _ _ _ _ Wc hgx hX (by unfold rest; simpa using hRw) hHeld
    · go_simp
      have hx := Box.made Wc [.slice none 0 0, .int .i64 0] 24
      have hz := al Wc (.cells #[.slice none 0 0, .int .i64 0] 24)
      have hgx : W.heap.size ≤ Wc.heap.size := hD0
      have hh := below_trans hHeld hz
      clear hHeld hD0
      obtain ⟨Wd, hWd⟩ : ∃ Wq, Wc.alloc (.cells #[.slice none 0 0, .int .i64 0] 24) = Wq := ⟨_, rfl⟩
      have hX : Box Wc.heap.size [.slice none 0 0, .int .i64 0] Wd := hWd ▸ hx
      rw [hWd] at hh ⊢
      clear hWd hz hx
      obtain ⟨gx, hgxe⟩ : ∃ g, Wc.heap.size = g := ⟨_, rfl⟩
      rw [hgxe] at hX hgx ⊢
      clear hgxe
      clear Wc
      rename World => Wc
      refine hK.out _ _ hh (fun hHeld => ?_)
      clear hK hh
      try simp only [Act.put, List.setIfInBounds_toArray, List.set_cons_zero, List.set_cons_succ]
      have hD0 := hHeld.size
      refine wpAnyH_ready (rs := [2]) (by kernel_rfl) (by simp) (AllReadyH.cons rfl (fun K hK => ?_) AllReadyH.nil)
      go_simp
      have ho := OwnN.empty Wc (B := W.heap.size) hD0
      have hz := al Wc (.cells #[] 26)
      have sx : SepB gx (.slice (some ⟨Wc.heap.size, 0, none⟩) 0 0) := SepB.under hX.1
      have hh := below_trans hHeld hz
      clear hHeld hD0
      replace hX := hX.below hz
      obtain ⟨Wd, hWd⟩ : ∃ Wq, Wc.alloc (.cells #[] 26) = Wq := ⟨_, rfl⟩
      rw [hWd] at ho hh ⊢
      rw [hWd] at hX
      clear hWd hz
      obtain ⟨go, hgo⟩ : ∃ g, Wc.heap.size = g := ⟨_, rfl⟩
      rw [hgo] at ho ⊢
      rw [hgo] at sx
      clear hgo
      clear Wc
      rename World => Wc
      have hO := ho
      clear ho
      refine hK.out _ _ hh (fun hHeld => ?_)
      clear hK hh
      try simp only [Act.put, List.setIfInBounds_toArray, List.set_cons_zero, List.set_cons_succ]
      have hD0 := hHeld.size
      refine wpAnyH_ready (rs := [7]) (by kernel_rfl) (by simp) (AllReadyH.cons rfl (fun K hK => ?_) AllReadyH.nil)
      refine step_append_O (by rfl) 192 rfl _ _ rfl W.heap.size _ ([]) rfl hO _ (l.take k) rfl (NRow.take (HR3.out.below hHeld) (n := k) (by omega)) (by simp) (by rw [List.length_take]; omega) hD0 (fun v7_ Wd ho2 hb2 hg2 hl2 => ?_)
      have sx2 := sx.after hX.1 hl2
      replace hX := Box.keptN hX hg2 sx
      have hh := hHeld.trans hb2
      clear hHeld hD0 hg2 hl2 hb2 sx hO
      have hO := ho2
      clear ho2
      have sx := sx2
      clear sx2
      clear Wc
      rename World => Wc
      refine hK.out _ _ hh (fun hHeld => ?_)
      clear hK hh
      try simp only [Act.put, List.setIfInBounds_toArray, List.set_cons_zero, List.set_cons_succ]
      have hD0 := hHeld.size
      refine wpAnyH_ready (rs := [13]) (by kernel_rfl) (by simp) (AllReadyH.cons rfl (fun K hK => ?_) AllReadyH.nil)
      refine step_append_O (by rfl) 198 rfl _ _ rfl W.heap.size _ (([]) ++ (l.take k)) rfl hO _ (l.drop (k + 1)) rfl (HDP.out _ hHeld) (by simp only [List.nil_append, List.length_take]; omega) (by rw [List.length_drop]; omega) hD0 (fun vo Wd ho2 hb2 hg2 hl2 => ?_)
      have sx2 := sx.after hX.1 hl2
      replace hX := Box.keptN hX hg2 sx
      have hh := hHeld.trans hb2
      clear hHeld hD0 hg2 hl2 hb2 sx hO
      have hO := ho2
      clear ho2
      have sx := sx2
      clear sx2
      clear Wc
      rename World => Wc
      refine hK.out _ _ hh (fun hHeld => ?_)
      clear hK hh
      try simp only [Act.put, List.setIfInBounds_toArray, List.set_cons_zero, List.set_cons_succ]
      have hD0 := hHeld.size
      obtain ⟨ao, no, co, rfl⟩ : ∃ a n c, vo = .slice a n c := (by obtain ⟨a', c', e⟩ := hO.row.slice; exact ⟨a', _, c', e⟩)
      refine takeH 14 199 (.agg #[.slice ao no co, .int .i64 t]) calm_np rfl rfl (by kernel_rfl) (by kernel_rfl) (by kernel_rfl) (by rfl) (fun W' hSw => by go_simp) hHeld ?_
      try simp only [Act.put, List.setIfInBounds_toArray, List.set_cons_zero, List.set_cons_succ]
      refine wpAnyH_ready (rs := [16]) (by kernel_rfl) (by simp) (AllReadyH.cons rfl (fun K hK => ?_) AllReadyH.nil)
      obtain ⟨y0, y1⟩ := box2 hX
      obtain ⟨z0, z1⟩ := frz2 hX
      have hsx := hX.1
      go_simp
      have hX2 : Box gx [.slice ao no co, .int .i64 t] _ := box_put (box_put hX 0 (.slice ao no co) (by simp)) 1 (.int .i64 t) (by simp)
      have hRw := hO.row.sep_two (.slice ao no co) (.int .i64 t) sx
      have hO2 := (hO.sep_set (j := 0) (u := .slice ao no co) sx).sep_set (j := 1) (u := .int .i64 t) sx
      have hh := below_two (b := gx) (.slice ao no co) (.int .i64 t) hHeld hgx
      clear hX hO hHeld hD0 y0 y1 z0 z1 hsx
      have hX := hX2
      have hO := hO2
      clear hX2 hO2
      generalize (Wc.setCell ⟨gx, 0, none⟩ (.slice ao no co)).setCell ⟨gx, 1, none⟩ (.int .i64 t) = Wd at *
      clear Wc
      rename World => Wc
      refine hK.out _ _ hh (fun hHeld => ?_)
      clear hK hh
      try simp only [Act.put, List.setIfInBounds_toArray, List.set_cons_zero, List.set_cons_succ]
      refine wpAnyH_done (by kernel_rfl) ?_ _
      refine NoPanic.normal ?_
      exact hQ gx ao no co _ _ _ _ _ _ _ _ _ _ _ _ _ _ _ Wc hgx hX (by unfold rest; simpa using hRw) hHeld

set_option maxRecDepth 1000000 in
set_option maxHeartbeats 32000000 in
theorem reg29_wp {Q : Exit → Act → World → Prop} {b3 b21 cap : Nat} {a : Option Addr} {l : List Pc} {t : Int} {x : Pc} {W : World} (HX3 : Hid (Box b3 [.slice a l.length cap, .int .i64 t] W)) (HX21 : Hid (Box b21 [.int .i64 x.n, .bool x.b, .int .i64 x.y, .int .i64 x.k, .int .i64 x.o, .bool x.s] W)) (HR3 : Hid (NRow W (.slice a l.length cap) l)) (hl : l.length ≤ 66) {u0 u1 u2 u4 u5 u6 u7 u8 u9 u10 u11 u12 u13 u14 u15 u16 u17 u18 u19 u20 u22 u23 u24 u25 u26 u27 u28 u29 u30 u31 u32 u33 u34 u35 u36 u37 u38 u39 u40 u41 u42 u43 u44 u45 u46 u47 u48 u49 u50 u51 u52 u53 u54 u55 u56 u57 u58 u59 u60 u61 u62 u63 u64 u65 u66 u67 u68 u69 u70 u71 u72 u73 u74 u75 u76 u77 u78 u79 u80 u81 u82 u83 u84 u85 u86 u87 u88 u89 u90 u91 u92 u93 u94 u95 u96 u97 u98 u99 u100 u101 u102 u103 u104 u105 u106 u107 u108 u109 u110 u111 u112 u113 u114 u115 u116 u117 u118 u119 u120 u121 u122 u123 u124 u125 u126 u127 u128 u129 u130 u131 u132 u133 u134 u135 u136 u137 u138 u139 u140 u141 u142 u143 u144 u145 u146 u147 u148 u149 u150 u151 u152 u153 u154 u155 u156 u157 u158 u159 u160 u161 u162 u163 u164 u165 u166 u167 u168 u169 u170 u171 u172 u173 u174 u175 u176 u177 u178 u179 u180 u181 u182 u183 u184 u185 u186 u187 u188 u189 u190 u191 u192 u193 u194 u195 u196 u197 u198 u199 u200 u201 u202 u203 u204 u205 u206 u207 u208 u209 u210 u211 u212 u213 u214 u215 u216 u217 u218 u219 u220 u221 u222 u223 u224 u225 u226 u227 u228 u229 u230 u231 u232 u233 u234 u235 u236 u237 u238 u239 u240 u241 u242 u243 u244 u245 u246 u247 u248 u249 u250 u251 u252 u253 u254 u255 u256 u257 u258 u259 u260 : Value}
    (hQ : ∀ (g : Nat) (ao : Option Addr) (no co : Nat) (v200 v201 v202 v203 v204 v205 v206 v207 v208 v209 : Value) (wx : World), W.heap.size ≤ g → Box g [.slice ao no co, .int .i64 t] wx → NRow wx (.slice ao no co) (l ++ [x]) → Below W.heap.size W wx → Q .normal ⟨#[u0, u1, u2, .pointer (some ⟨b3, 0, none⟩), u4, u5, u6, u7, u8, u9, u10, u11, u12, u13, u14, u15, u16, u17, u18, u19, u20, .pointer (some ⟨b21, 0, none⟩), u22, .pointer (some ⟨g, 0, none⟩), u24, u25, u26, u27, u28, u29, u30, u31, u32, u33, u34, u35, u36, u37, u38, u39, u40, u41, u42, u43, u44, u45, u46, u47, u48, u49, u50, u51, u52, u53, u54, u55, u56, u57, u58, u59, u60, u61, u62, u63, u64, u65, u66, u67, u68, u69, u70, u71, u72, u73, u74, u75, u76, u77, u78, u79, u80, u81, u82, u83, u84, u85, u86, u87, u88, u89, u90, u91, u92, u93, u94, u95, u96, u97, u98, u99, u100, u101, u102, u103, u104, u105, u106, u107, u108, u109, u110, u111, u112, u113, u114, u115, u116, u117, u118, u119, u120, u121, u122, u123, u124, u125, u126, u127, u128, u129, u130, u131, u132, u133, u134, u135, u136, u137, u138, u139, u140, u141, u142, u143, u144, u145, u146, u147, u148, u149, u150, u151, u152, u153, u154, u155, u156, u157, u158, u159, u160, u161, u162, u163, u164, u165, u166, u167, u168, u169, u170, u171, u172, u173, u174, u175, u176, u177, u178, u179, u180, u181, u182, u183, u184, u185, u186, u187, u188, u189, u190, u191, u192, u193, u194, u195, u196, u197, u198, u199, v200, v201, v202, v203, v204, v205, v206, v207, v208, v209, u210, u211, u212, u213, u214, u215, u216, u217, u218, u219, u220, u221, u222, u223, u224, u225, u226, u227, u228, u229, u230, u231, u232, u233, u234, u235, u236, u237, u238, u239, u240, u241, u242, u243, u244, u245, u246, u247, u248, u249, u250, u251, u252, u253, u254, u255, u256, u257, u258, u259, u260], []⟩ wx) :
    Code.wp Try.prog ((Try.f3.body.bind (findR 29)).getD .skip) Q ⟨#[u0, u1, u2, .pointer (some ⟨b3, 0, none⟩), u4, u5, u6, u7, u8, u9, u10, u11, u12, u13, u14, u15, u16, u17, u18, u19, u20, .pointer (some ⟨b21, 0, none⟩), u22, u23, u24, u25, u26, u27, u28, u29, u30, u31, u32, u33, u34, u35, u36, u37, u38, u39, u40, u41, u42, u43, u44, u45, u46, u47, u48, u49, u50, u51, u52, u53, u54, u55, u56, u57, u58, u59, u60, u61, u62, u63, u64, u65, u66, u67, u68, u69, u70, u71, u72, u73, u74, u75, u76, u77, u78, u79, u80, u81, u82, u83, u84, u85, u86, u87, u88, u89, u90, u91, u92, u93, u94, u95, u96, u97, u98, u99, u100, u101, u102, u103, u104, u105, u106, u107, u108, u109, u110, u111, u112, u113, u114, u115, u116, u117, u118, u119, u120, u121, u122, u123, u124, u125, u126, u127, u128, u129, u130, u131, u132, u133, u134, u135, u136, u137, u138, u139, u140, u141, u142, u143, u144, u145, u146, u147, u148, u149, u150, u151, u152, u153, u154, u155, u156, u157, u158, u159, u160, u161, u162, u163, u164, u165, u166, u167, u168, u169, u170, u171, u172, u173, u174, u175, u176, u177, u178, u179, u180, u181, u182, u183, u184, u185, u186, u187, u188, u189, u190, u191, u192, u193, u194, u195, u196, u197, u198, u199, u200, u201, u202, u203, u204, u205, u206, u207, u208, u209, u210, u211, u212, u213, u214, u215, u216, u217, u218, u219, u220, u221, u222, u223, u224, u225, u226, u227, u228, u229, u230, u231, u232, u233, u234, u235, u236, u237, u238, u239, u240, u241, u242, u243, u244, u245, u246, u247, u248, u249, u250, u251, u252, u253, u254, u255, u256, u257, u258, u259, u260], []⟩ W := by
  conv => arg 2; whnf
  refine wp_region_noPanic ?_
  refine wp_region_held_drew (S := fun W' => Below W.heap.size W W') (by kernel_rfl) (dr W) (fun hHeld => ?_)
  try dsimp only
  refine takeH 0 200 (.pointer (some ⟨b3, 1, none⟩)) calm_np rfl rfl (by kernel_rfl) (by kernel_rfl) (by kernel_rfl) (by rfl) (fun W' hSw => by go_simp) hHeld ?_
  try simp only [Act.put, List.setIfInBounds_toArray, List.set_cons_zero, List.set_cons_succ]
  refine takeH 1 201 (.int .i64 t) calm_np rfl rfl (by kernel_rfl) (by kernel_rfl) (by kernel_rfl) (by rfl) (fun W' hSw => by have g0 := (show _ = some (Value.int .i64 t) from (HX3.out.below hSw).at 1 rfl); have hsz := (HX3.out.below hSw).1; go_simp) hHeld ?_
  try simp only [Act.put, List.setIfInBounds_toArray, List.set_cons_zero, List.set_cons_succ]
  refine takeH 3 203 (.pointer (some ⟨b3, 0, none⟩)) calm_np rfl rfl (by kernel_rfl) (by kernel_rfl) (by kernel_rfl) (by rfl) (fun W' hSw => by go_simp) hHeld ?_
  try simp only [Act.put, List.setIfInBounds_toArray, List.set_cons_zero, List.set_cons_succ]
  refine takeH 4 204 (.slice a l.length cap) calm_np rfl rfl (by kernel_rfl) (by kernel_rfl) (by kernel_rfl) (by rfl) (fun W' hSw => by have g0 := (show _ = some (Value.slice a l.length cap) from (HX3.out.below hSw).at 0 rfl); have hsz := (HX3.out.below hSw).1; go_simp) hHeld ?_
  try simp only [Act.put, List.setIfInBounds_toArray, List.set_cons_zero, List.set_cons_succ]
  refine takeH 6 206 (.agg #[.int .i64 x.n, .bool x.b, .int .i64 x.y, .int .i64 x.k, .int .i64 x.o, .bool x.s]) calm_np rfl rfl (by kernel_rfl) (by kernel_rfl) (by kernel_rfl) (by rfl) (fun W' hSw => by have g0 := (show _ = some (Value.int .i64 x.n) from (HX21.out.below hSw).at 0 rfl); have g1 := (show _ = some (Value.bool x.b) from (HX21.out.below hSw).at 1 rfl); have g2 := (show _ = some (Value.int .i64 x.y) from (HX21.out.below hSw).at 2 rfl); have g3 := (show _ = some (Value.int .i64 x.k) from (HX21.out.below hSw).at 3 rfl); have g4 := (show _ = some (Value.int .i64 x.o) from (HX21.out.below hSw).at 4 rfl); have g5 := (show _ = some (Value.bool x.s) from (HX21.out.below hSw).at 5 rfl); have hsz := (HX21.out.below hSw).1; go_simp) hHeld ?_
  try simp only [Act.put, List.setIfInBounds_toArray, List.set_cons_zero, List.set_cons_succ]
  have hD0 := hHeld.size
  obtain ⟨Wc, hWc⟩ : ∃ Wq, W.drew = Wq := ⟨_, rfl⟩
  rw [hWc] at hHeld ⊢
  rw [hWc] at hD0
  clear hWc
  refine wpAnyH_ready (rs := [2, 7, 10]) (by kernel_rfl) (by simp) (AllReadyH.cons rfl (fun K hK => ?_) (AllReadyH.cons rfl (fun K hK => ?_) (AllReadyH.cons rfl (fun K hK => ?_) AllReadyH.nil)))
  · go_simp
    have ho := OwnN.empty Wc (B := W.heap.size) hD0
    have hz := al Wc (.cells #[] 26)
    have hh := below_trans hHeld hz
    clear hHeld hD0
    obtain ⟨Wd, hWd⟩ : ∃ Wq, Wc.alloc (.cells #[] 26) = Wq := ⟨_, rfl⟩
    rw [hWd] at ho hh ⊢
    clear hWd hz
    obtain ⟨go, hgo⟩ : ∃ g, Wc.heap.size = g := ⟨_, rfl⟩
    rw [hgo] at ho ⊢
    clear hgo
    clear Wc
    rename World => Wc
    have hO := ho
    clear ho
    refine hK.out _ _ hh (fun hHeld => ?_)
    clear hK hh
    try simp only [Act.put, List.setIfInBounds_toArray, List.set_cons_zero, List.set_cons_succ]
    have hD0 := hHeld.size
    refine wpAnyH_ready (rs := [5, 7, 10]) (by kernel_rfl) (by simp) (AllReadyH.cons rfl (fun K hK => ?_) (AllReadyH.cons rfl (fun K hK => ?_) (AllReadyH.cons rfl (fun K hK => ?_) AllReadyH.nil)))
    · refine step_append_O (by rfl) 205 rfl _ _ rfl W.heap.size _ ([]) rfl hO _ (l) rfl (HR3.out.below hHeld) (by simp) (by omega) hD0 (fun v5_ Wd ho2 hb2 hg2 hl2 => ?_)
      have hh := hHeld.trans hb2
      clear hHeld hD0 hg2 hl2 hb2 hO
      have hO := ho2
      clear ho2
      clear Wc
      rename World => Wc
      refine hK.out _ _ hh (fun hHeld => ?_)
      clear hK hh
      try simp only [Act.put, List.setIfInBounds_toArray, List.set_cons_zero, List.set_cons_succ]
      have hD0 := hHeld.size
      refine wpAnyH_ready (rs := [7, 10]) (by kernel_rfl) (by simp) (AllReadyH.cons rfl (fun K hK => ?_) (AllReadyH.cons rfl (fun K hK => ?_) AllReadyH.nil))
      · go_simp
        have hone := NRow.one Wc (x)
        have hz := al Wc (.cells #[.int .i64 x.n, .bool x.b, .int .i64 x.y, .int .i64 x.k, .int .i64 x.o, .bool x.s] 26)
        have sn : SepB Wc.heap.size (v5_) := OwnN.sep hO (Nat.le_refl _)
        have hh := below_trans hHeld hz
        clear hHeld hD0
        replace hO := hO.below hz
        obtain ⟨Wd, hWd⟩ : ∃ Wq, Wc.alloc (.cells #[.int .i64 x.n, .bool x.b, .int .i64 x.y, .int .i64 x.k, .int .i64 x.o, .bool x.s] 26) = Wq := ⟨_, rfl⟩
        have hN := hone
        rw [hWd] at hN hh ⊢
        rw [hWd] at hO
        clear hWd hz hone
        obtain ⟨gn, hgn⟩ : ∃ g, Wc.heap.size = g := ⟨_, rfl⟩
        rw [hgn] at hN ⊢
        rw [hgn] at sn
        clear hgn
        clear Wc
        rename World => Wc
        refine hK.out _ _ hh (fun hHeld => ?_)
        clear hK hh
        try simp only [Act.put, List.setIfInBounds_toArray, List.set_cons_zero, List.set_cons_succ]
        have hD0 := hHeld.size
        refine wpAnyH_ready (rs := [8, 10]) (by kernel_rfl) (by simp) (AllReadyH.cons rfl (fun K hK => ?_) (AllReadyH.cons rfl (fun K hK => ?_) AllReadyH.nil))
        · refine step_append_O (by rfl) 208 rfl _ _ rfl W.heap.size _ (([]) ++ (l)) rfl hO _ ([x]) rfl (hN) (by simp only [List.nil_append]; omega) (by simp) hD0 (fun vo Wd ho2 hb2 hg2 hl2 => ?_)
          clear hN sn
          have hh := hHeld.trans hb2
          clear hHeld hD0 hg2 hl2 hb2 hO
          have hO := ho2
          clear ho2
          clear Wc
          rename World => Wc
          refine hK.out _ _ hh (fun hHeld => ?_)
          clear hK hh
          try simp only [Act.put, List.setIfInBounds_toArray, List.set_cons_zero, List.set_cons_succ]
          have hD0 := hHeld.size
          obtain ⟨ao, no, co, rfl⟩ : ∃ a n c, vo = .slice a n c := (by obtain ⟨a', c', e⟩ := hO.row.slice; exact ⟨a', _, c', e⟩)
          refine takeH 9 209 (.agg #[.slice ao no co, .int .i64 t]) calm_np rfl rfl (by kernel_rfl) (by kernel_rfl) (by kernel_rfl) (by rfl) (fun W' hSw => by go_simp) hHeld ?_
          try simp only [Act.put, List.setIfInBounds_toArray, List.set_cons_zero, List.set_cons_succ]
          refine wpAnyH_ready (rs := [10]) (by kernel_rfl) (by simp) (AllReadyH.cons rfl (fun K hK => ?_) AllReadyH.nil)
          go_simp
          have hx := Box.made Wc [.slice none 0 0, .int .i64 0] 24
          have hz := al Wc (.cells #[.slice none 0 0, .int .i64 0] 24)
          have hgx : W.heap.size ≤ Wc.heap.size := hD0
          have sx : SepB Wc.heap.size (.slice ao no co) := OwnN.sep hO (Nat.le_refl _)
          have hh := below_trans hHeld hz
          clear hHeld hD0
          replace hO := hO.below hz
          obtain ⟨Wd, hWd⟩ : ∃ Wq, Wc.alloc (.cells #[.slice none 0 0, .int .i64 0] 24) = Wq := ⟨_, rfl⟩
          have hX : Box Wc.heap.size [.slice none 0 0, .int .i64 0] Wd := hWd ▸ hx
          rw [hWd] at hh ⊢
          rw [hWd] at hO
          clear hWd hz hx
          obtain ⟨gx, hgxe⟩ : ∃ g, Wc.heap.size = g := ⟨_, rfl⟩
          rw [hgxe] at hX hgx ⊢
          rw [hgxe] at sx
          clear hgxe
          clear Wc
          rename World => Wc
          refine hK.out _ _ hh (fun hHeld => ?_)
          clear hK hh
          try simp only [Act.put, List.setIfInBounds_toArray, List.set_cons_zero, List.set_cons_succ]
          have hD0 := hHeld.size
          refine wpAnyH_ready (rs := [11]) (by kernel_rfl) (by simp) (AllReadyH.cons rfl (fun K hK => ?_) AllReadyH.nil)
          obtain ⟨y0, y1⟩ := box2 hX
          obtain ⟨z0, z1⟩ := frz2 hX
          have hsx := hX.1
          go_simp
          have hX2 : Box gx [.slice ao no co, .int .i64 t] _ := box_put (box_put hX 0 (.slice ao no co) (by simp)) 1 (.int .i64 t) (by simp)
          have hRw := hO.row.sep_two (.slice ao no co) (.int .i64 t) sx
          have hO2 := (hO.sep_set (j := 0) (u := .slice ao no co) sx).sep_set (j := 1) (u := .int .i64 t) sx
          have hh := below_two (b := gx) (.slice ao no co) (.int .i64 t) hHeld hgx
          clear hX hO hHeld hD0 y0 y1 z0 z1 hsx
          have hX := hX2
          have hO := hO2
          clear hX2 hO2
          generalize (Wc.setCell ⟨gx, 0, none⟩ (.slice ao no co)).setCell ⟨gx, 1, none⟩ (.int .i64 t) = Wd at *
          clear Wc
          rename World => Wc
          refine hK.out _ _ hh (fun hHeld => ?_)
          clear hK hh
          try simp only [Act.put, List.setIfInBounds_toArray, List.set_cons_zero, List.set_cons_succ]
          refine wpAnyH_done (by kernel_rfl) ?_ _
          refine NoPanic.normal ?_
          exact hQ gx ao no co _ _ _ _ _ _ _ _ _ _ Wc hgx hX (by simpa using hRw) hHeld
        · go_simp
          have hx := Box.made Wc [.slice none 0 0, .int .i64 0] 24
          have hz := al Wc (.cells #[.slice none 0 0, .int .i64 0] 24)
          have hgx : W.heap.size ≤ Wc.heap.size := hD0
          have sx : SepB Wc.heap.size (v5_) := OwnN.sep hO (Nat.le_refl _)
          have hh := below_trans hHeld hz
          clear hHeld hD0
          replace hO := hO.below hz
          replace hN := hN.below hz
          obtain ⟨Wd, hWd⟩ : ∃ Wq, Wc.alloc (.cells #[.slice none 0 0, .int .i64 0] 24) = Wq := ⟨_, rfl⟩
          have hX : Box Wc.heap.size [.slice none 0 0, .int .i64 0] Wd := hWd ▸ hx
          rw [hWd] at hh ⊢
          rw [hWd] at hO
          rw [hWd] at hN
          clear hWd hz hx
          obtain ⟨gx, hgxe⟩ : ∃ g, Wc.heap.size = g := ⟨_, rfl⟩
          rw [hgxe] at hX hgx ⊢
          rw [hgxe] at sx
          clear hgxe
          clear Wc
          rename World => Wc
          refine hK.out _ _ hh (fun hHeld => ?_)
          clear hK hh
          try simp only [Act.put, List.setIfInBounds_toArray, List.set_cons_zero, List.set_cons_succ]
          have hD0 := hHeld.size
          refine wpAnyH_ready (rs := [8]) (by kernel_rfl) (by simp) (AllReadyH.cons rfl (fun K hK => ?_) AllReadyH.nil)
          refine step_append_O (by rfl) 208 rfl _ _ rfl W.heap.size _ (([]) ++ (l)) rfl hO _ ([x]) rfl (hN) (by simp only [List.nil_append]; omega) (by simp) hD0 (fun vo Wd ho2 hb2 hg2 hl2 => ?_)
          have sx2 := sx.after hX.1 hl2
          replace hX := Box.keptN hX hg2 sx
          clear hN sn
          have hh := hHeld.trans hb2
          clear hHeld hD0 hg2 hl2 hb2 sx hO
          have hO := ho2
          clear ho2
          have sx := sx2
          clear sx2
          clear Wc
          rename World => Wc
          refine hK.out _ _ hh (fun hHeld => ?_)
          clear hK hh
          try simp only [Act.put, List.setIfInBounds_toArray, List.set_cons_zero, List.set_cons_succ]
          have hD0 := hHeld.size
          obtain ⟨ao, no, co, rfl⟩ : ∃ a n c, vo = .slice a n c := (by obtain ⟨a', c', e⟩ := hO.row.slice; exact ⟨a', _, c', e⟩)
          refine takeH 9 209 (.agg #[.slice ao no co, .int .i64 t]) calm_np rfl rfl (by kernel_rfl) (by kernel_rfl) (by kernel_rfl) (by rfl) (fun W' hSw => by go_simp) hHeld ?_
          try simp only [Act.put, List.setIfInBounds_toArray, List.set_cons_zero, List.set_cons_succ]
          refine wpAnyH_ready (rs := [11]) (by kernel_rfl) (by simp) (AllReadyH.cons rfl (fun K hK => ?_) AllReadyH.nil)
          obtain ⟨y0, y1⟩ := box2 hX
          obtain ⟨z0, z1⟩ := frz2 hX
          have hsx := hX.1
          go_simp
          have hX2 : Box gx [.slice ao no co, .int .i64 t] _ := box_put (box_put hX 0 (.slice ao no co) (by simp)) 1 (.int .i64 t) (by simp)
          have hRw := hO.row.sep_two (.slice ao no co) (.int .i64 t) sx
          have hO2 := (hO.sep_set (j := 0) (u := .slice ao no co) sx).sep_set (j := 1) (u := .int .i64 t) sx
          have hh := below_two (b := gx) (.slice ao no co) (.int .i64 t) hHeld hgx
          clear hX hO hHeld hD0 y0 y1 z0 z1 hsx
          have hX := hX2
          have hO := hO2
          clear hX2 hO2
          generalize (Wc.setCell ⟨gx, 0, none⟩ (.slice ao no co)).setCell ⟨gx, 1, none⟩ (.int .i64 t) = Wd at *
          clear Wc
          rename World => Wc
          refine hK.out _ _ hh (fun hHeld => ?_)
          clear hK hh
          try simp only [Act.put, List.setIfInBounds_toArray, List.set_cons_zero, List.set_cons_succ]
          refine wpAnyH_done (by kernel_rfl) ?_ _
          refine NoPanic.normal ?_
          exact hQ gx ao no co _ _ _ _ _ _ _ _ _ _ Wc hgx hX (by simpa using hRw) hHeld
      · go_simp
        have hx := Box.made Wc [.slice none 0 0, .int .i64 0] 24
        have hz := al Wc (.cells #[.slice none 0 0, .int .i64 0] 24)
        have hgx : W.heap.size ≤ Wc.heap.size := hD0
        have sx : SepB Wc.heap.size (v5_) := OwnN.sep hO (Nat.le_refl _)
        have hh := below_trans hHeld hz
        clear hHeld hD0
        replace hO := hO.below hz
        obtain ⟨Wd, hWd⟩ : ∃ Wq, Wc.alloc (.cells #[.slice none 0 0, .int .i64 0] 24) = Wq := ⟨_, rfl⟩
        have hX : Box Wc.heap.size [.slice none 0 0, .int .i64 0] Wd := hWd ▸ hx
        rw [hWd] at hh ⊢
        rw [hWd] at hO
        clear hWd hz hx
        obtain ⟨gx, hgxe⟩ : ∃ g, Wc.heap.size = g := ⟨_, rfl⟩
        rw [hgxe] at hX hgx ⊢
        rw [hgxe] at sx
        clear hgxe
        clear Wc
        rename World => Wc
        refine hK.out _ _ hh (fun hHeld => ?_)
        clear hK hh
        try simp only [Act.put, List.setIfInBounds_toArray, List.set_cons_zero, List.set_cons_succ]
        have hD0 := hHeld.size
        refine wpAnyH_ready (rs := [7]) (by kernel_rfl) (by simp) (AllReadyH.cons rfl (fun K hK => ?_) AllReadyH.nil)
        go_simp
        have hone := NRow.one Wc (x)
        have hz := al Wc (.cells #[.int .i64 x.n, .bool x.b, .int .i64 x.y, .int .i64 x.k, .int .i64 x.o, .bool x.s] 26)
        have sn : SepB Wc.heap.size (v5_) := OwnN.sep hO (Nat.le_refl _)
        have hh := below_trans hHeld hz
        clear hHeld hD0
        replace hO := hO.below hz
        replace hX := hX.below hz
        obtain ⟨Wd, hWd⟩ : ∃ Wq, Wc.alloc (.cells #[.int .i64 x.n, .bool x.b, .int .i64 x.y, .int .i64 x.k, .int .i64 x.o, .bool x.s] 26) = Wq := ⟨_, rfl⟩
        have hN := hone
        rw [hWd] at hN hh ⊢
        rw [hWd] at hO
        rw [hWd] at hX
        clear hWd hz hone
        obtain ⟨gn, hgn⟩ : ∃ g, Wc.heap.size = g := ⟨_, rfl⟩
        rw [hgn] at hN ⊢
        rw [hgn] at sn
        clear hgn
        clear Wc
        rename World => Wc
        refine hK.out _ _ hh (fun hHeld => ?_)
        clear hK hh
        try simp only [Act.put, List.setIfInBounds_toArray, List.set_cons_zero, List.set_cons_succ]
        have hD0 := hHeld.size
        refine wpAnyH_ready (rs := [8]) (by kernel_rfl) (by simp) (AllReadyH.cons rfl (fun K hK => ?_) AllReadyH.nil)
        refine step_append_O (by rfl) 208 rfl _ _ rfl W.heap.size _ (([]) ++ (l)) rfl hO _ ([x]) rfl (hN) (by simp only [List.nil_append]; omega) (by simp) hD0 (fun vo Wd ho2 hb2 hg2 hl2 => ?_)
        have sx2 := sx.after hX.1 hl2
        replace hX := Box.keptN hX hg2 sx
        clear hN sn
        have hh := hHeld.trans hb2
        clear hHeld hD0 hg2 hl2 hb2 sx hO
        have hO := ho2
        clear ho2
        have sx := sx2
        clear sx2
        clear Wc
        rename World => Wc
        refine hK.out _ _ hh (fun hHeld => ?_)
        clear hK hh
        try simp only [Act.put, List.setIfInBounds_toArray, List.set_cons_zero, List.set_cons_succ]
        have hD0 := hHeld.size
        obtain ⟨ao, no, co, rfl⟩ : ∃ a n c, vo = .slice a n c := (by obtain ⟨a', c', e⟩ := hO.row.slice; exact ⟨a', _, c', e⟩)
        refine takeH 9 209 (.agg #[.slice ao no co, .int .i64 t]) calm_np rfl rfl (by kernel_rfl) (by kernel_rfl) (by kernel_rfl) (by rfl) (fun W' hSw => by go_simp) hHeld ?_
        try simp only [Act.put, List.setIfInBounds_toArray, List.set_cons_zero, List.set_cons_succ]
        refine wpAnyH_ready (rs := [11]) (by kernel_rfl) (by simp) (AllReadyH.cons rfl (fun K hK => ?_) AllReadyH.nil)
        obtain ⟨y0, y1⟩ := box2 hX
        obtain ⟨z0, z1⟩ := frz2 hX
        have hsx := hX.1
        go_simp
        have hX2 : Box gx [.slice ao no co, .int .i64 t] _ := box_put (box_put hX 0 (.slice ao no co) (by simp)) 1 (.int .i64 t) (by simp)
        have hRw := hO.row.sep_two (.slice ao no co) (.int .i64 t) sx
        have hO2 := (hO.sep_set (j := 0) (u := .slice ao no co) sx).sep_set (j := 1) (u := .int .i64 t) sx
        have hh := below_two (b := gx) (.slice ao no co) (.int .i64 t) hHeld hgx
        clear hX hO hHeld hD0 y0 y1 z0 z1 hsx
        have hX := hX2
        have hO := hO2
        clear hX2 hO2
        generalize (Wc.setCell ⟨gx, 0, none⟩ (.slice ao no co)).setCell ⟨gx, 1, none⟩ (.int .i64 t) = Wd at *
        clear Wc
        rename World => Wc
        refine hK.out _ _ hh (fun hHeld => ?_)
        clear hK hh
        try simp only [Act.put, List.setIfInBounds_toArray, List.set_cons_zero, List.set_cons_succ]
        refine wpAnyH_done (by kernel_rfl) ?_ _
        refine NoPanic.normal ?_
        exact hQ gx ao no co _ _ _ _ _ _ _ _ _ _ Wc hgx hX (by simpa using hRw) hHeld
    · go_simp
      have hone := NRow.one Wc (x)
      have hz := al Wc (.cells #[.int .i64 x.n, .bool x.b, .int .i64 x.y, .int .i64 x.k, .int .i64 x.o, .bool x.s] 26)
      have sn : SepB Wc.heap.size (.slice (some ⟨go, 0, none⟩) 0 0) := OwnN.sep hO (Nat.le_refl _)
      have hh := below_trans hHeld hz
      clear hHeld hD0
      replace hO := hO.below hz
      obtain ⟨Wd, hWd⟩ : ∃ Wq, Wc.alloc (.cells #[.int .i64 x.n, .bool x.b, .int .i64 x.y, .int .i64 x.k, .int .i64 x.o, .bool x.s] 26) = Wq := ⟨_, rfl⟩
      have hN := hone
      rw [hWd] at hN hh ⊢
      rw [hWd] at hO
      clear hWd hz hone
      obtain ⟨gn, hgn⟩ : ∃ g, Wc.heap.size = g := ⟨_, rfl⟩
      rw [hgn] at hN ⊢
      rw [hgn] at sn
      clear hgn
      clear Wc
      rename World => Wc
      refine hK.out _ _ hh (fun hHeld => ?_)
      clear hK hh
      try simp only [Act.put, List.setIfInBounds_toArray, List.set_cons_zero, List.set_cons_succ]
      have hD0 := hHeld.size
      refine wpAnyH_ready (rs := [5, 10]) (by kernel_rfl) (by simp) (AllReadyH.cons rfl (fun K hK => ?_) (AllReadyH.cons rfl (fun K hK => ?_) AllReadyH.nil))
      · refine step_append_O (by rfl) 205 rfl _ _ rfl W.heap.size _ ([]) rfl hO _ (l) rfl (HR3.out.below hHeld) (by simp) (by omega) hD0 (fun v5_ Wd ho2 hb2 hg2 hl2 => ?_)
        have sn2 := sn.after (one_lt hN) hl2
        replace hN := one_kept hN hg2 sn
        have hh := hHeld.trans hb2
        clear hHeld hD0 hg2 hl2 hb2 sn hO
        have hO := ho2
        clear ho2
        have sn := sn2
        clear sn2
        clear Wc
        rename World => Wc
        refine hK.out _ _ hh (fun hHeld => ?_)
        clear hK hh
        try simp only [Act.put, List.setIfInBounds_toArray, List.set_cons_zero, List.set_cons_succ]
        have hD0 := hHeld.size
        refine wpAnyH_ready (rs := [8, 10]) (by kernel_rfl) (by simp) (AllReadyH.cons rfl (fun K hK => ?_) (AllReadyH.cons rfl (fun K hK => ?_) AllReadyH.nil))
        · refine step_append_O (by rfl) 208 rfl _ _ rfl W.heap.size _ (([]) ++ (l)) rfl hO _ ([x]) rfl (hN) (by simp only [List.nil_append]; omega) (by simp) hD0 (fun vo Wd ho2 hb2 hg2 hl2 => ?_)
          clear hN sn
          have hh := hHeld.trans hb2
          clear hHeld hD0 hg2 hl2 hb2 hO
          have hO := ho2
          clear ho2
          clear Wc
          rename World => Wc
          refine hK.out _ _ hh (fun hHeld => ?_)
          clear hK hh
          try simp only [Act.put, List.setIfInBounds_toArray, List.set_cons_zero, List.set_cons_succ]
          have hD0 := hHeld.size
          obtain ⟨ao, no, co, rfl⟩ : ∃ a n c, vo = .slice a n c := (by obtain ⟨a', c', e⟩ := hO.row.slice; exact ⟨a', _, c', e⟩)
          refine takeH 9 209 (.agg #[.slice ao no co, .int .i64 t]) calm_np rfl rfl (by kernel_rfl) (by kernel_rfl) (by kernel_rfl) (by rfl) (fun W' hSw => by go_simp) hHeld ?_
          try simp only [Act.put, List.setIfInBounds_toArray, List.set_cons_zero, List.set_cons_succ]
          refine wpAnyH_ready (rs := [10]) (by kernel_rfl) (by simp) (AllReadyH.cons rfl (fun K hK => ?_) AllReadyH.nil)
          go_simp
          have hx := Box.made Wc [.slice none 0 0, .int .i64 0] 24
          have hz := al Wc (.cells #[.slice none 0 0, .int .i64 0] 24)
          have hgx : W.heap.size ≤ Wc.heap.size := hD0
          have sx : SepB Wc.heap.size (.slice ao no co) := OwnN.sep hO (Nat.le_refl _)
          have hh := below_trans hHeld hz
          clear hHeld hD0
          replace hO := hO.below hz
          obtain ⟨Wd, hWd⟩ : ∃ Wq, Wc.alloc (.cells #[.slice none 0 0, .int .i64 0] 24) = Wq := ⟨_, rfl⟩
          have hX : Box Wc.heap.size [.slice none 0 0, .int .i64 0] Wd := hWd ▸ hx
          rw [hWd] at hh ⊢
          rw [hWd] at hO
          clear hWd hz hx
          obtain ⟨gx, hgxe⟩ : ∃ g, Wc.heap.size = g := ⟨_, rfl⟩
          rw [hgxe] at hX hgx ⊢
          rw [hgxe] at sx
          clear hgxe
          clear Wc
          rename World => Wc
          refine hK.out _ _ hh (fun hHeld => ?_)
          clear hK hh
          try simp only [Act.put, List.setIfInBounds_toArray, List.set_cons_zero, List.set_cons_succ]
          have hD0 := hHeld.size
          refine wpAnyH_ready (rs := [11]) (by kernel_rfl) (by simp) (AllReadyH.cons rfl (fun K hK => ?_) AllReadyH.nil)
          obtain ⟨y0, y1⟩ := box2 hX
          obtain ⟨z0, z1⟩ := frz2 hX
          have hsx := hX.1
          go_simp
          have hX2 : Box gx [.slice ao no co, .int .i64 t] _ := box_put (box_put hX 0 (.slice ao no co) (by simp)) 1 (.int .i64 t) (by simp)
          have hRw := hO.row.sep_two (.slice ao no co) (.int .i64 t) sx
          have hO2 := (hO.sep_set (j := 0) (u := .slice ao no co) sx).sep_set (j := 1) (u := .int .i64 t) sx
          have hh := below_two (b := gx) (.slice ao no co) (.int .i64 t) hHeld hgx
          clear hX hO hHeld hD0 y0 y1 z0 z1 hsx
          have hX := hX2
          have hO := hO2
          clear hX2 hO2
          generalize (Wc.setCell ⟨gx, 0, none⟩ (.slice ao no co)).setCell ⟨gx, 1, none⟩ (.int .i64 t) = Wd at *
          clear Wc
          rename World => Wc
          refine hK.out _ _ hh (fun hHeld => ?_)
          clear hK hh
          try simp only [Act.put, List.setIfInBounds_toArray, List.set_cons_zero, List.set_cons_succ]
          refine wpAnyH_done (by kernel_rfl) ?_ _
          refine NoPanic.normal ?_
          exact hQ gx ao no co _ _ _ _ _ _ _ _ _ _ Wc hgx hX (by simpa using hRw) hHeld
        · go_simp
          have hx := Box.made Wc [.slice none 0 0, .int .i64 0] 24
          have hz := al Wc (.cells #[.slice none 0 0, .int .i64 0] 24)
          have hgx : W.heap.size ≤ Wc.heap.size := hD0
          have sx : SepB Wc.heap.size (v5_) := OwnN.sep hO (Nat.le_refl _)
          have hh := below_trans hHeld hz
          clear hHeld hD0
          replace hO := hO.below hz
          replace hN := hN.below hz
          obtain ⟨Wd, hWd⟩ : ∃ Wq, Wc.alloc (.cells #[.slice none 0 0, .int .i64 0] 24) = Wq := ⟨_, rfl⟩
          have hX : Box Wc.heap.size [.slice none 0 0, .int .i64 0] Wd := hWd ▸ hx
          rw [hWd] at hh ⊢
          rw [hWd] at hO
          rw [hWd] at hN
          clear hWd hz hx
          obtain ⟨gx, hgxe⟩ : ∃ g, Wc.heap.size = g := ⟨_, rfl⟩
          rw [hgxe] at hX hgx ⊢
          rw [hgxe] at sx
          clear hgxe
          clear Wc
          rename World => Wc
          refine hK.out _ _ hh (fun hHeld => ?_)
          clear hK hh
          try simp only [Act.put, List.setIfInBounds_toArray, List.set_cons_zero, List.set_cons_succ]
          have hD0 := hHeld.size
          refine wpAnyH_ready (rs := [8]) (by kernel_rfl) (by simp) (AllReadyH.cons rfl (fun K hK => ?_) AllReadyH.nil)
          refine step_append_O (by rfl) 208 rfl _ _ rfl W.heap.size _ (([]) ++ (l)) rfl hO _ ([x]) rfl (hN) (by simp only [List.nil_append]; omega) (by simp) hD0 (fun vo Wd ho2 hb2 hg2 hl2 => ?_)
          have sx2 := sx.after hX.1 hl2
          replace hX := Box.keptN hX hg2 sx
          clear hN sn
          have hh := hHeld.trans hb2
          clear hHeld hD0 hg2 hl2 hb2 sx hO
          have hO := ho2
          clear ho2
          have sx := sx2
          clear sx2
          clear Wc
          rename World => Wc
          refine hK.out _ _ hh (fun hHeld => ?_)
          clear hK hh
          try simp only [Act.put, List.setIfInBounds_toArray, List.set_cons_zero, List.set_cons_succ]
          have hD0 := hHeld.size
          obtain ⟨ao, no, co, rfl⟩ : ∃ a n c, vo = .slice a n c := (by obtain ⟨a', c', e⟩ := hO.row.slice; exact ⟨a', _, c', e⟩)
          refine takeH 9 209 (.agg #[.slice ao no co, .int .i64 t]) calm_np rfl rfl (by kernel_rfl) (by kernel_rfl) (by kernel_rfl) (by rfl) (fun W' hSw => by go_simp) hHeld ?_
          try simp only [Act.put, List.setIfInBounds_toArray, List.set_cons_zero, List.set_cons_succ]
          refine wpAnyH_ready (rs := [11]) (by kernel_rfl) (by simp) (AllReadyH.cons rfl (fun K hK => ?_) AllReadyH.nil)
          obtain ⟨y0, y1⟩ := box2 hX
          obtain ⟨z0, z1⟩ := frz2 hX
          have hsx := hX.1
          go_simp
          have hX2 : Box gx [.slice ao no co, .int .i64 t] _ := box_put (box_put hX 0 (.slice ao no co) (by simp)) 1 (.int .i64 t) (by simp)
          have hRw := hO.row.sep_two (.slice ao no co) (.int .i64 t) sx
          have hO2 := (hO.sep_set (j := 0) (u := .slice ao no co) sx).sep_set (j := 1) (u := .int .i64 t) sx
          have hh := below_two (b := gx) (.slice ao no co) (.int .i64 t) hHeld hgx
          clear hX hO hHeld hD0 y0 y1 z0 z1 hsx
          have hX := hX2
          have hO := hO2
          clear hX2 hO2
          generalize (Wc.setCell ⟨gx, 0, none⟩ (.slice ao no co)).setCell ⟨gx, 1, none⟩ (.int .i64 t) = Wd at *
          clear Wc
          rename World => Wc
          refine hK.out _ _ hh (fun hHeld => ?_)
          clear hK hh
          try simp only [Act.put, List.setIfInBounds_toArray, List.set_cons_zero, List.set_cons_succ]
          refine wpAnyH_done (by kernel_rfl) ?_ _
          refine NoPanic.normal ?_
          exact hQ gx ao no co _ _ _ _ _ _ _ _ _ _ Wc hgx hX (by simpa using hRw) hHeld
      · go_simp
        have hx := Box.made Wc [.slice none 0 0, .int .i64 0] 24
        have hz := al Wc (.cells #[.slice none 0 0, .int .i64 0] 24)
        have hgx : W.heap.size ≤ Wc.heap.size := hD0
        have sx : SepB Wc.heap.size (.slice (some ⟨go, 0, none⟩) 0 0) := OwnN.sep hO (Nat.le_refl _)
        have hh := below_trans hHeld hz
        clear hHeld hD0
        replace hO := hO.below hz
        replace hN := hN.below hz
        obtain ⟨Wd, hWd⟩ : ∃ Wq, Wc.alloc (.cells #[.slice none 0 0, .int .i64 0] 24) = Wq := ⟨_, rfl⟩
        have hX : Box Wc.heap.size [.slice none 0 0, .int .i64 0] Wd := hWd ▸ hx
        rw [hWd] at hh ⊢
        rw [hWd] at hO
        rw [hWd] at hN
        clear hWd hz hx
        obtain ⟨gx, hgxe⟩ : ∃ g, Wc.heap.size = g := ⟨_, rfl⟩
        rw [hgxe] at hX hgx ⊢
        rw [hgxe] at sx
        clear hgxe
        clear Wc
        rename World => Wc
        refine hK.out _ _ hh (fun hHeld => ?_)
        clear hK hh
        try simp only [Act.put, List.setIfInBounds_toArray, List.set_cons_zero, List.set_cons_succ]
        have hD0 := hHeld.size
        refine wpAnyH_ready (rs := [5]) (by kernel_rfl) (by simp) (AllReadyH.cons rfl (fun K hK => ?_) AllReadyH.nil)
        refine step_append_O (by rfl) 205 rfl _ _ rfl W.heap.size _ ([]) rfl hO _ (l) rfl (HR3.out.below hHeld) (by simp) (by omega) hD0 (fun v5_ Wd ho2 hb2 hg2 hl2 => ?_)
        have sx2 := sx.after hX.1 hl2
        replace hX := Box.keptN hX hg2 sx
        have sn2 := sn.after (one_lt hN) hl2
        replace hN := one_kept hN hg2 sn
        have hh := hHeld.trans hb2
        clear hHeld hD0 hg2 hl2 hb2 sx sn hO
        have hO := ho2
        clear ho2
        have sx := sx2
        clear sx2
        have sn := sn2
        clear sn2
        clear Wc
        rename World => Wc
        refine hK.out _ _ hh (fun hHeld => ?_)
        clear hK hh
        try simp only [Act.put, List.setIfInBounds_toArray, List.set_cons_zero, List.set_cons_succ]
        have hD0 := hHeld.size
        refine wpAnyH_ready (rs := [8]) (by kernel_rfl) (by simp) (AllReadyH.cons rfl (fun K hK => ?_) AllReadyH.nil)
        refine step_append_O (by rfl) 208 rfl _ _ rfl W.heap.size _ (([]) ++ (l)) rfl hO _ ([x]) rfl (hN) (by simp only [List.nil_append]; omega) (by simp) hD0 (fun vo Wd ho2 hb2 hg2 hl2 => ?_)
        have sx2 := sx.after hX.1 hl2
        replace hX := Box.keptN hX hg2 sx
        clear hN sn
        have hh := hHeld.trans hb2
        clear hHeld hD0 hg2 hl2 hb2 sx hO
        have hO := ho2
        clear ho2
        have sx := sx2
        clear sx2
        clear Wc
        rename World => Wc
        refine hK.out _ _ hh (fun hHeld => ?_)
        clear hK hh
        try simp only [Act.put, List.setIfInBounds_toArray, List.set_cons_zero, List.set_cons_succ]
        have hD0 := hHeld.size
        obtain ⟨ao, no, co, rfl⟩ : ∃ a n c, vo = .slice a n c := (by obtain ⟨a', c', e⟩ := hO.row.slice; exact ⟨a', _, c', e⟩)
        refine takeH 9 209 (.agg #[.slice ao no co, .int .i64 t]) calm_np rfl rfl (by kernel_rfl) (by kernel_rfl) (by kernel_rfl) (by rfl) (fun W' hSw => by go_simp) hHeld ?_
        try simp only [Act.put, List.setIfInBounds_toArray, List.set_cons_zero, List.set_cons_succ]
        refine wpAnyH_ready (rs := [11]) (by kernel_rfl) (by simp) (AllReadyH.cons rfl (fun K hK => ?_) AllReadyH.nil)
        obtain ⟨y0, y1⟩ := box2 hX
        obtain ⟨z0, z1⟩ := frz2 hX
        have hsx := hX.1
        go_simp
        have hX2 : Box gx [.slice ao no co, .int .i64 t] _ := box_put (box_put hX 0 (.slice ao no co) (by simp)) 1 (.int .i64 t) (by simp)
        have hRw := hO.row.sep_two (.slice ao no co) (.int .i64 t) sx
        have hO2 := (hO.sep_set (j := 0) (u := .slice ao no co) sx).sep_set (j := 1) (u := .int .i64 t) sx
        have hh := below_two (b := gx) (.slice ao no co) (.int .i64 t) hHeld hgx
        clear hX hO hHeld hD0 y0 y1 z0 z1 hsx
        have hX := hX2
        have hO := hO2
        clear hX2 hO2
        generalize (Wc.setCell ⟨gx, 0, none⟩ (.slice ao no co)).setCell ⟨gx, 1, none⟩ (.int .i64 t) = Wd at *
        clear Wc
        rename World => Wc
        refine hK.out _ _ hh (fun hHeld => ?_)
        clear hK hh
        try simp only [Act.put, List.setIfInBounds_toArray, List.set_cons_zero, List.set_cons_succ]
        refine wpAnyH_done (by kernel_rfl) ?_ _
        refine NoPanic.normal ?_
        exact hQ gx ao no co _ _ _ _ _ _ _ _ _ _ Wc hgx hX (by simpa using hRw) hHeld
    · go_simp
      have hx := Box.made Wc [.slice none 0 0, .int .i64 0] 24
      have hz := al Wc (.cells #[.slice none 0 0, .int .i64 0] 24)
      have hgx : W.heap.size ≤ Wc.heap.size := hD0
      have sx : SepB Wc.heap.size (.slice (some ⟨go, 0, none⟩) 0 0) := OwnN.sep hO (Nat.le_refl _)
      have hh := below_trans hHeld hz
      clear hHeld hD0
      replace hO := hO.below hz
      obtain ⟨Wd, hWd⟩ : ∃ Wq, Wc.alloc (.cells #[.slice none 0 0, .int .i64 0] 24) = Wq := ⟨_, rfl⟩
      have hX : Box Wc.heap.size [.slice none 0 0, .int .i64 0] Wd := hWd ▸ hx
      rw [hWd] at hh ⊢
      rw [hWd] at hO
      clear hWd hz hx
      obtain ⟨gx, hgxe⟩ : ∃ g, Wc.heap.size = g := ⟨_, rfl⟩
      rw [hgxe] at hX hgx ⊢
      rw [hgxe] at sx
      clear hgxe
      clear Wc
      rename World => Wc
      refine hK.out _ _ hh (fun hHeld => ?_)
      clear hK hh
      try simp only [Act.put, List.setIfInBounds_toArray, List.set_cons_zero, List.set_cons_succ]
      have hD0 := hHeld.size
      refine wpAnyH_ready (rs := [5, 7]) (by kernel_rfl) (by simp) (AllReadyH.cons rfl (fun K hK => ?_) (AllReadyH.cons rfl (fun K hK => ?_) AllReadyH.nil))
      · refine step_append_O (by rfl) 205 rfl _ _ rfl W.heap.size _ ([]) rfl hO _ (l) rfl (HR3.out.below hHeld) (by simp) (by omega) hD0 (fun v5_ Wd ho2 hb2 hg2 hl2 => ?_)
        have sx2 := sx.after hX.1 hl2
        replace hX := Box.keptN hX hg2 sx
        have hh := hHeld.trans hb2
        clear hHeld hD0 hg2 hl2 hb2 sx hO
        have hO := ho2
        clear ho2
        have sx := sx2
        clear sx2
        clear Wc
        rename World => Wc
        refine hK.out _ _ hh (fun hHeld => ?_)
        clear hK hh
        try simp only [Act.put, List.setIfInBounds_toArray, List.set_cons_zero, List.set_cons_succ]
        have hD0 := hHeld.size
        refine wpAnyH_ready (rs := [7]) (by kernel_rfl) (by simp) (AllReadyH.cons rfl (fun K hK => ?_) AllReadyH.nil)
        go_simp
        have hone := NRow.one Wc (x)
        have hz := al Wc (.cells #[.int .i64 x.n, .bool x.b, .int .i64 x.y, .int .i64 x.k, .int .i64 x.o, .bool x.s] 26)
        have sn : SepB Wc.heap.size (v5_) := OwnN.sep hO (Nat.le_refl _)
        have hh := below_trans hHeld hz
        clear hHeld hD0
        replace hO := hO.below hz
        replace hX := hX.below hz
        obtain ⟨Wd, hWd⟩ : ∃ Wq, Wc.alloc (.cells #[.int .i64 x.n, .bool x.b, .int .i64 x.y, .int .i64 x.k, .int .i64 x.o, .bool x.s] 26) = Wq := ⟨_, rfl⟩
        have hN := hone
        rw [hWd] at hN hh ⊢
        rw [hWd] at hO
        rw [hWd] at hX
        clear hWd hz hone
        obtain ⟨gn, hgn⟩ : ∃ g, Wc.heap.size = g := ⟨_, rfl⟩
        rw [hgn] at hN ⊢
        rw [hgn] at sn
        clear hgn
        clear Wc
        rename World => Wc
        refine hK.out _ _ hh (fun hHeld => ?_)
        clear hK hh
        try simp only [Act.put, List.setIfInBounds_toArray, List.set_cons_zero, List.set_cons_succ]
        have hD0 := hHeld.size
        refine wpAnyH_ready (rs := [8]) (by kernel_rfl) (by simp) (AllReadyH.cons rfl (fun K hK => ?_) AllReadyH.nil)
        refine step_append_O (by rfl) 208 rfl _ _ rfl W.heap.size _ (([]) ++ (l)) rfl hO _ ([x]) rfl (hN) (by simp only [List.nil_append]; omega) (by simp) hD0 (fun vo Wd ho2 hb2 hg2 hl2 => ?_)
        have sx2 := sx.after hX.1 hl2
        replace hX := Box.keptN hX hg2 sx
        clear hN sn
        have hh := hHeld.trans hb2
        clear hHeld hD0 hg2 hl2 hb2 sx hO
        have hO := ho2
        clear ho2
        have sx := sx2
        clear sx2
        clear Wc
        rename World => Wc
        refine hK.out _ _ hh (fun hHeld => ?_)
        clear hK hh
        try simp only [Act.put, List.setIfInBounds_toArray, List.set_cons_zero, List.set_cons_succ]
        have hD0 := hHeld.size
        obtain ⟨ao, no, co, rfl⟩ : ∃ a n c, vo = .slice a n c := (by obtain ⟨a', c', e⟩ := hO.row.slice; exact ⟨a', _, c', e⟩)
        refine takeH 9 209 (.agg #[.slice ao no co, .int .i64 t]) calm_np rfl rfl (by kernel_rfl) (by kernel_rfl) (by kernel_rfl) (by rfl) (fun W' hSw => by go_simp) hHeld ?_
        try simp only [Act.put, List.setIfInBounds_toArray, List.set_cons_zero, List.set_cons_succ]
        refine wpAnyH_ready (rs := [11]) (by kernel_rfl) (by simp) (AllReadyH.cons rfl (fun K hK => ?_) AllReadyH.nil)
        obtain ⟨y0, y1⟩ := box2 hX
        obtain ⟨z0, z1⟩ := frz2 hX
        have hsx := hX.1
        go_simp
        have hX2 : Box gx [.slice ao no co, .int .i64 t] _ := box_put (box_put hX 0 (.slice ao no co) (by simp)) 1 (.int .i64 t) (by simp)
        have hRw := hO.row.sep_two (.slice ao no co) (.int .i64 t) sx
        have hO2 := (hO.sep_set (j := 0) (u := .slice ao no co) sx).sep_set (j := 1) (u := .int .i64 t) sx
        have hh := below_two (b := gx) (.slice ao no co) (.int .i64 t) hHeld hgx
        clear hX hO hHeld hD0 y0 y1 z0 z1 hsx
        have hX := hX2
        have hO := hO2
        clear hX2 hO2
        generalize (Wc.setCell ⟨gx, 0, none⟩ (.slice ao no co)).setCell ⟨gx, 1, none⟩ (.int .i64 t) = Wd at *
        clear Wc
        rename World => Wc
        refine hK.out _ _ hh (fun hHeld => ?_)
        clear hK hh
        try simp only [Act.put, List.setIfInBounds_toArray, List.set_cons_zero, List.set_cons_succ]
        refine wpAnyH_done (by kernel_rfl) ?_ _
        refine NoPanic.normal ?_
        exact hQ gx ao no co _ _ _ _ _ _ _ _ _ _ Wc hgx hX (by simpa using hRw) hHeld
      · go_simp
        have hone := NRow.one Wc (x)
        have hz := al Wc (.cells #[.int .i64 x.n, .bool x.b, .int .i64 x.y, .int .i64 x.k, .int .i64 x.o, .bool x.s] 26)
        have sn : SepB Wc.heap.size (.slice (some ⟨go, 0, none⟩) 0 0) := OwnN.sep hO (Nat.le_refl _)
        have hh := below_trans hHeld hz
        clear hHeld hD0
        replace hO := hO.below hz
        replace hX := hX.below hz
        obtain ⟨Wd, hWd⟩ : ∃ Wq, Wc.alloc (.cells #[.int .i64 x.n, .bool x.b, .int .i64 x.y, .int .i64 x.k, .int .i64 x.o, .bool x.s] 26) = Wq := ⟨_, rfl⟩
        have hN := hone
        rw [hWd] at hN hh ⊢
        rw [hWd] at hO
        rw [hWd] at hX
        clear hWd hz hone
        obtain ⟨gn, hgn⟩ : ∃ g, Wc.heap.size = g := ⟨_, rfl⟩
        rw [hgn] at hN ⊢
        rw [hgn] at sn
        clear hgn
        clear Wc
        rename World => Wc
        refine hK.out _ _ hh (fun hHeld => ?_)
        clear hK hh
        try simp only [Act.put, List.setIfInBounds_toArray, List.set_cons_zero, List.set_cons_succ]
        have hD0 := hHeld.size
        refine wpAnyH_ready (rs := [5]) (by kernel_rfl) (by simp) (AllReadyH.cons rfl (fun K hK => ?_) AllReadyH.nil)
        refine step_append_O (by rfl) 205 rfl _ _ rfl W.heap.size _ ([]) rfl hO _ (l) rfl (HR3.out.below hHeld) (by simp) (by omega) hD0 (fun v5_ Wd ho2 hb2 hg2 hl2 => ?_)
        have sx2 := sx.after hX.1 hl2
        replace hX := Box.keptN hX hg2 sx
        have sn2 := sn.after (one_lt hN) hl2
        replace hN := one_kept hN hg2 sn
        have hh := hHeld.trans hb2
        clear hHeld hD0 hg2 hl2 hb2 sx sn hO
        have hO := ho2
        clear ho2
        have sx := sx2
        clear sx2
        have sn := sn2
        clear sn2
        clear Wc
        rename World => Wc
        refine hK.out _ _ hh (fun hHeld => ?_)
        clear hK hh
        try simp only [Act.put, List.setIfInBounds_toArray, List.set_cons_zero, List.set_cons_succ]
        have hD0 := hHeld.size
        refine wpAnyH_ready (rs := [8]) (by kernel_rfl) (by simp) (AllReadyH.cons rfl (fun K hK => ?_) AllReadyH.nil)
        refine step_append_O (by rfl) 208 rfl _ _ rfl W.heap.size _ (([]) ++ (l)) rfl hO _ ([x]) rfl (hN) (by simp only [List.nil_append]; omega) (by simp) hD0 (fun vo Wd ho2 hb2 hg2 hl2 => ?_)
        have sx2 := sx.after hX.1 hl2
        replace hX := Box.keptN hX hg2 sx
        clear hN sn
        have hh := hHeld.trans hb2
        clear hHeld hD0 hg2 hl2 hb2 sx hO
        have hO := ho2
        clear ho2
        have sx := sx2
        clear sx2
        clear Wc
        rename World => Wc
        refine hK.out _ _ hh (fun hHeld => ?_)
        clear hK hh
        try simp only [Act.put, List.setIfInBounds_toArray, List.set_cons_zero, List.set_cons_succ]
        have hD0 := hHeld.size
        obtain ⟨ao, no, co, rfl⟩ : ∃ a n c, vo = .slice a n c := (by obtain ⟨a', c', e⟩ := hO.row.slice; exact ⟨a', _, c', e⟩)
        refine takeH 9 209 (.agg #[.slice ao no co, .int .i64 t]) calm_np rfl rfl (by kernel_rfl) (by kernel_rfl) (by kernel_rfl) (by rfl) (fun W' hSw => by go_simp) hHeld ?_
        try simp only [Act.put, List.setIfInBounds_toArray, List.set_cons_zero, List.set_cons_succ]
        refine wpAnyH_ready (rs := [11]) (by kernel_rfl) (by simp) (AllReadyH.cons rfl (fun K hK => ?_) AllReadyH.nil)
        obtain ⟨y0, y1⟩ := box2 hX
        obtain ⟨z0, z1⟩ := frz2 hX
        have hsx := hX.1
        go_simp
        have hX2 : Box gx [.slice ao no co, .int .i64 t] _ := box_put (box_put hX 0 (.slice ao no co) (by simp)) 1 (.int .i64 t) (by simp)
        have hRw := hO.row.sep_two (.slice ao no co) (.int .i64 t) sx
        have hO2 := (hO.sep_set (j := 0) (u := .slice ao no co) sx).sep_set (j := 1) (u := .int .i64 t) sx
        have hh := below_two (b := gx) (.slice ao no co) (.int .i64 t) hHeld hgx
        clear hX hO hHeld hD0 y0 y1 z0 z1 hsx
        have hX := hX2
        have hO := hO2
        clear hX2 hO2
        generalize (Wc.setCell ⟨gx, 0, none⟩ (.slice ao no co)).setCell ⟨gx, 1, none⟩ (.int .i64 t) = Wd at *
        clear Wc
        rename World => Wc
        refine hK.out _ _ hh (fun hHeld => ?_)
        clear hK hh
        try simp only [Act.put, List.setIfInBounds_toArray, List.set_cons_zero, List.set_cons_succ]
        refine wpAnyH_done (by kernel_rfl) ?_ _
        refine NoPanic.normal ?_
        exact hQ gx ao no co _ _ _ _ _ _ _ _ _ _ Wc hgx hX (by simpa using hRw) hHeld
  · go_simp
    have hone := NRow.one Wc (x)
    have hz := al Wc (.cells #[.int .i64 x.n, .bool x.b, .int .i64 x.y, .int .i64 x.k, .int .i64 x.o, .bool x.s] 26)
    have hh := below_trans hHeld hz
    clear hHeld hD0
    obtain ⟨Wd, hWd⟩ : ∃ Wq, Wc.alloc (.cells #[.int .i64 x.n, .bool x.b, .int .i64 x.y, .int .i64 x.k, .int .i64 x.o, .bool x.s] 26) = Wq := ⟨_, rfl⟩
    have hN := hone
    rw [hWd] at hN hh ⊢
    clear hWd hz hone
    obtain ⟨gn, hgn⟩ : ∃ g, Wc.heap.size = g := ⟨_, rfl⟩
    rw [hgn] at hN ⊢
    clear hgn
    clear Wc
    rename World => Wc
    refine hK.out _ _ hh (fun hHeld => ?_)
    clear hK hh
    try simp only [Act.put, List.setIfInBounds_toArray, List.set_cons_zero, List.set_cons_succ]
    have hD0 := hHeld.size
    refine wpAnyH_ready (rs := [2, 10]) (by kernel_rfl) (by simp) (AllReadyH.cons rfl (fun K hK => ?_) (AllReadyH.cons rfl (fun K hK => ?_) AllReadyH.nil))
    · go_simp
      have ho := OwnN.empty Wc (B := W.heap.size) hD0
      have hz := al Wc (.cells #[] 26)
      have sn : SepB gn (.slice (some ⟨Wc.heap.size, 0, none⟩) 0 0) := SepB.under (one_lt hN)
      have hh := below_trans hHeld hz
      clear hHeld hD0
      replace hN := hN.below hz
      obtain ⟨Wd, hWd⟩ : ∃ Wq, Wc.alloc (.cells #[] 26) = Wq := ⟨_, rfl⟩
      rw [hWd] at ho hh ⊢
      rw [hWd] at hN
      clear hWd hz
      obtain ⟨go, hgo⟩ : ∃ g, Wc.heap.size = g := ⟨_, rfl⟩
      rw [hgo] at ho ⊢
      rw [hgo] at sn
      clear hgo
      clear Wc
      rename World => Wc
      have hO := ho
      clear ho
      refine hK.out _ _ hh (fun hHeld => ?_)
      clear hK hh
      try simp only [Act.put, List.setIfInBounds_toArray, List.set_cons_zero, List.set_cons_succ]
      have hD0 := hHeld.size
      refine wpAnyH_ready (rs := [5, 10]) (by kernel_rfl) (by simp) (AllReadyH.cons rfl (fun K hK => ?_) (AllReadyH.cons rfl (fun K hK => ?_) AllReadyH.nil))
      · refine step_append_O (by rfl) 205 rfl _ _ rfl W.heap.size _ ([]) rfl hO _ (l) rfl (HR3.out.below hHeld) (by simp) (by omega) hD0 (fun v5_ Wd ho2 hb2 hg2 hl2 => ?_)
        have sn2 := sn.after (one_lt hN) hl2
        replace hN := one_kept hN hg2 sn
        have hh := hHeld.trans hb2
        clear hHeld hD0 hg2 hl2 hb2 sn hO
        have hO := ho2
        clear ho2
        have sn := sn2
        clear sn2
        clear Wc
        rename World => Wc
        refine hK.out _ _ hh (fun hHeld => ?_)
        clear hK hh
        try simp only [Act.put, List.setIfInBounds_toArray, List.set_cons_zero, List.set_cons_succ]
        have hD0 := hHeld.size
        refine wpAnyH_ready (rs := [8, 10]) (by kernel_rfl) (by simp) (AllReadyH.cons rfl (fun K hK => ?_) (AllReadyH.cons rfl (fun K hK => ?_) AllReadyH.nil))
        · refine step_append_O (by rfl) 208 rfl _ _ rfl W.heap.size _ (([]) ++ (l)) rfl hO _ ([x]) rfl (hN) (by simp only [List.nil_append]; omega) (by simp) hD0 (fun vo Wd ho2 hb2 hg2 hl2 => ?_)
          clear hN sn
          have hh := hHeld.trans hb2
          clear hHeld hD0 hg2 hl2 hb2 hO
          have hO := ho2
          clear ho2
          clear Wc
          rename World => Wc
          refine hK.out _ _ hh (fun hHeld => ?_)
          clear hK hh
          try simp only [Act.put, List.setIfInBounds_toArray, List.set_cons_zero, List.set_cons_succ]
          have hD0 := hHeld.size
          obtain ⟨ao, no, co, rfl⟩ : ∃ a n c, vo = .slice a n c := (by obtain ⟨a', c', e⟩ := hO.row.slice; exact ⟨a', _, c', e⟩)
          refine takeH 9 209 (.agg #[.slice ao no co, .int .i64 t]) calm_np rfl rfl (by kernel_rfl) (by kernel_rfl) (by kernel_rfl) (by rfl) (fun W' hSw => by go_simp) hHeld ?_
          try simp only [Act.put, List.setIfInBounds_toArray, List.set_cons_zero, List.set_cons_succ]
          refine wpAnyH_ready (rs := [10]) (by kernel_rfl) (by simp) (AllReadyH.cons rfl (fun K hK => ?_) AllReadyH.nil)
          go_simp
          have hx := Box.made Wc [.slice none 0 0, .int .i64 0] 24
          have hz := al Wc (.cells #[.slice none 0 0, .int .i64 0] 24)
          have hgx : W.heap.size ≤ Wc.heap.size := hD0
          have sx : SepB Wc.heap.size (.slice ao no co) := OwnN.sep hO (Nat.le_refl _)
          have hh := below_trans hHeld hz
          clear hHeld hD0
          replace hO := hO.below hz
          obtain ⟨Wd, hWd⟩ : ∃ Wq, Wc.alloc (.cells #[.slice none 0 0, .int .i64 0] 24) = Wq := ⟨_, rfl⟩
          have hX : Box Wc.heap.size [.slice none 0 0, .int .i64 0] Wd := hWd ▸ hx
          rw [hWd] at hh ⊢
          rw [hWd] at hO
          clear hWd hz hx
          obtain ⟨gx, hgxe⟩ : ∃ g, Wc.heap.size = g := ⟨_, rfl⟩
          rw [hgxe] at hX hgx ⊢
          rw [hgxe] at sx
          clear hgxe
          clear Wc
          rename World => Wc
          refine hK.out _ _ hh (fun hHeld => ?_)
          clear hK hh
          try simp only [Act.put, List.setIfInBounds_toArray, List.set_cons_zero, List.set_cons_succ]
          have hD0 := hHeld.size
          refine wpAnyH_ready (rs := [11]) (by kernel_rfl) (by simp) (AllReadyH.cons rfl (fun K hK => ?_) AllReadyH.nil)
          obtain ⟨y0, y1⟩ := box2 hX
          obtain ⟨z0, z1⟩ := frz2 hX
          have hsx := hX.1
          go_simp
          have hX2 : Box gx [.slice ao no co, .int .i64 t] _ := box_put (box_put hX 0 (.slice ao no co) (by simp)) 1 (.int .i64 t) (by simp)
          have hRw := hO.row.sep_two (.slice ao no co) (.int .i64 t) sx
          have hO2 := (hO.sep_set (j := 0) (u := .slice ao no co) sx).sep_set (j := 1) (u := .int .i64 t) sx
          have hh := below_two (b := gx) (.slice ao no co) (.int .i64 t) hHeld hgx
          clear hX hO hHeld hD0 y0 y1 z0 z1 hsx
          have hX := hX2
          have hO := hO2
          clear hX2 hO2
          generalize (Wc.setCell ⟨gx, 0, none⟩ (.slice ao no co)).setCell ⟨gx, 1, none⟩ (.int .i64 t) = Wd at *
          clear Wc
          rename World => Wc
          refine hK.out _ _ hh (fun hHeld => ?_)
          clear hK hh
          try simp only [Act.put, List.setIfInBounds_toArray, List.set_cons_zero, List.set_cons_succ]
          refine wpAnyH_done (by kernel_rfl) ?_ _
          refine NoPanic.normal ?_
          exact hQ gx ao no co _ _ _ _ _ _ _ _ _ _ Wc hgx hX (by simpa using hRw) hHeld
        · go_simp
          have hx := Box.made Wc [.slice none 0 0, .int .i64 0] 24
          have hz := al Wc (.cells #[.slice none 0 0, .int .i64 0] 24)
          have hgx : W.heap.size ≤ Wc.heap.size := hD0
          have sx : SepB Wc.heap.size (v5_) := OwnN.sep hO (Nat.le_refl _)
          have hh := below_trans hHeld hz
          clear hHeld hD0
          replace hO := hO.below hz
          replace hN := hN.below hz
          obtain ⟨Wd, hWd⟩ : ∃ Wq, Wc.alloc (.cells #[.slice none 0 0, .int .i64 0] 24) = Wq := ⟨_, rfl⟩
          have hX : Box Wc.heap.size [.slice none 0 0, .int .i64 0] Wd := hWd ▸ hx
          rw [hWd] at hh ⊢
          rw [hWd] at hO
          rw [hWd] at hN
          clear hWd hz hx
          obtain ⟨gx, hgxe⟩ : ∃ g, Wc.heap.size = g := ⟨_, rfl⟩
          rw [hgxe] at hX hgx ⊢
          rw [hgxe] at sx
          clear hgxe
          clear Wc
          rename World => Wc
          refine hK.out _ _ hh (fun hHeld => ?_)
          clear hK hh
          try simp only [Act.put, List.setIfInBounds_toArray, List.set_cons_zero, List.set_cons_succ]
          have hD0 := hHeld.size
          refine wpAnyH_ready (rs := [8]) (by kernel_rfl) (by simp) (AllReadyH.cons rfl (fun K hK => ?_) AllReadyH.nil)
          refine step_append_O (by rfl) 208 rfl _ _ rfl W.heap.size _ (([]) ++ (l)) rfl hO _ ([x]) rfl (hN) (by simp only [List.nil_append]; omega) (by simp) hD0 (fun vo Wd ho2 hb2 hg2 hl2 => ?_)
          have sx2 := sx.after hX.1 hl2
          replace hX := Box.keptN hX hg2 sx
          clear hN sn
          have hh := hHeld.trans hb2
          clear hHeld hD0 hg2 hl2 hb2 sx hO
          have hO := ho2
          clear ho2
          have sx := sx2
          clear sx2
          clear Wc
          rename World => Wc
          refine hK.out _ _ hh (fun hHeld => ?_)
          clear hK hh
          try simp only [Act.put, List.setIfInBounds_toArray, List.set_cons_zero, List.set_cons_succ]
          have hD0 := hHeld.size
          obtain ⟨ao, no, co, rfl⟩ : ∃ a n c, vo = .slice a n c := (by obtain ⟨a', c', e⟩ := hO.row.slice; exact ⟨a', _, c', e⟩)
          refine takeH 9 209 (.agg #[.slice ao no co, .int .i64 t]) calm_np rfl rfl (by kernel_rfl) (by kernel_rfl) (by kernel_rfl) (by rfl) (fun W' hSw => by go_simp) hHeld ?_
          try simp only [Act.put, List.setIfInBounds_toArray, List.set_cons_zero, List.set_cons_succ]
          refine wpAnyH_ready (rs := [11]) (by kernel_rfl) (by simp) (AllReadyH.cons rfl (fun K hK => ?_) AllReadyH.nil)
          obtain ⟨y0, y1⟩ := box2 hX
          obtain ⟨z0, z1⟩ := frz2 hX
          have hsx := hX.1
          go_simp
          have hX2 : Box gx [.slice ao no co, .int .i64 t] _ := box_put (box_put hX 0 (.slice ao no co) (by simp)) 1 (.int .i64 t) (by simp)
          have hRw := hO.row.sep_two (.slice ao no co) (.int .i64 t) sx
          have hO2 := (hO.sep_set (j := 0) (u := .slice ao no co) sx).sep_set (j := 1) (u := .int .i64 t) sx
          have hh := below_two (b := gx) (.slice ao no co) (.int .i64 t) hHeld hgx
          clear hX hO hHeld hD0 y0 y1 z0 z1 hsx
          have hX := hX2
          have hO := hO2
          clear hX2 hO2
          generalize (Wc.setCell ⟨gx, 0, none⟩ (.slice ao no co)).setCell ⟨gx, 1, none⟩ (.int .i64 t) = Wd at *
          clear Wc
          rename World => Wc
          refine hK.out _ _ hh (fun hHeld => ?_)
          clear hK hh
          try simp only [Act.put, List.setIfInBounds_toArray, List.set_cons_zero, List.set_cons_succ]
          refine wpAnyH_done (by kernel_rfl) ?_ _
          refine NoPanic.normal ?_
          exact hQ gx ao no co _ _ _ _ _ _ _ _ _ _ Wc hgx hX (by simpa using hRw) hHeld
      · go_simp
        have hx := Box.made Wc [.slice none 0 0, .int .i64 0] 24
        have hz := al Wc (.cells #[.slice none 0 0, .int .i64 0] 24)
        have hgx : W.heap.size ≤ Wc.heap.size := hD0
        have sx : SepB Wc.heap.size (.slice (some ⟨go, 0, none⟩) 0 0) := OwnN.sep hO (Nat.le_refl _)
        have hh := below_trans hHeld hz
        clear hHeld hD0
        replace hO := hO.below hz
        replace hN := hN.below hz
        obtain ⟨Wd, hWd⟩ : ∃ Wq, Wc.alloc (.cells #[.slice none 0 0, .int .i64 0] 24) = Wq := ⟨_, rfl⟩
        have hX : Box Wc.heap.size [.slice none 0 0, .int .i64 0] Wd := hWd ▸ hx
        rw [hWd] at hh ⊢
        rw [hWd] at hO
        rw [hWd] at hN
        clear hWd hz hx
        obtain ⟨gx, hgxe⟩ : ∃ g, Wc.heap.size = g := ⟨_, rfl⟩
        rw [hgxe] at hX hgx ⊢
        rw [hgxe] at sx
        clear hgxe
        clear Wc
        rename World => Wc
        refine hK.out _ _ hh (fun hHeld => ?_)
        clear hK hh
        try simp only [Act.put, List.setIfInBounds_toArray, List.set_cons_zero, List.set_cons_succ]
        have hD0 := hHeld.size
        refine wpAnyH_ready (rs := [5]) (by kernel_rfl) (by simp) (AllReadyH.cons rfl (fun K hK => ?_) AllReadyH.nil)
        refine step_append_O (by rfl) 205 rfl _ _ rfl W.heap.size _ ([]) rfl hO _ (l) rfl (HR3.out.below hHeld) (by simp) (by omega) hD0 (fun v5_ Wd ho2 hb2 hg2 hl2 => ?_)
        have sx2 := sx.after hX.1 hl2
        replace hX := Box.keptN hX hg2 sx
        have sn2 := sn.after (one_lt hN) hl2
        replace hN := one_kept hN hg2 sn
        have hh := hHeld.trans hb2
        clear hHeld hD0 hg2 hl2 hb2 sx sn hO
        have hO := ho2
        clear ho2
        have sx := sx2
        clear sx2
        have sn := sn2
        clear sn2
        clear Wc
        rename World => Wc
        refine hK.out _ _ hh (fun hHeld => ?_)
        clear hK hh
        try simp only [Act.put, List.setIfInBounds_toArray, List.set_cons_zero, List.set_cons_succ]
        have hD0 := hHeld.size
        refine wpAnyH_ready (rs := [8]) (by kernel_rfl) (by simp) (AllReadyH.cons rfl (fun K hK => ?_) AllReadyH.nil)
        refine step_append_O (by rfl) 208 rfl _ _ rfl W.heap.size _ (([]) ++ (l)) rfl hO _ ([x]) rfl (hN) (by simp only [List.nil_append]; omega) (by simp) hD0 (fun vo Wd ho2 hb2 hg2 hl2 => ?_)
        have sx2 := sx.after hX.1 hl2
        replace hX := Box.keptN hX hg2 sx
        clear hN sn
        have hh := hHeld.trans hb2
        clear hHeld hD0 hg2 hl2 hb2 sx hO
        have hO := ho2
        clear ho2
        have sx := sx2
        clear sx2
        clear Wc
        rename World => Wc
        refine hK.out _ _ hh (fun hHeld => ?_)
        clear hK hh
        try simp only [Act.put, List.setIfInBounds_toArray, List.set_cons_zero, List.set_cons_succ]
        have hD0 := hHeld.size
        obtain ⟨ao, no, co, rfl⟩ : ∃ a n c, vo = .slice a n c := (by obtain ⟨a', c', e⟩ := hO.row.slice; exact ⟨a', _, c', e⟩)
        refine takeH 9 209 (.agg #[.slice ao no co, .int .i64 t]) calm_np rfl rfl (by kernel_rfl) (by kernel_rfl) (by kernel_rfl) (by rfl) (fun W' hSw => by go_simp) hHeld ?_
        try simp only [Act.put, List.setIfInBounds_toArray, List.set_cons_zero, List.set_cons_succ]
        refine wpAnyH_ready (rs := [11]) (by kernel_rfl) (by simp) (AllReadyH.cons rfl (fun K hK => ?_) AllReadyH.nil)
        obtain ⟨y0, y1⟩ := box2 hX
        obtain ⟨z0, z1⟩ := frz2 hX
        have hsx := hX.1
        go_simp
        have hX2 : Box gx [.slice ao no co, .int .i64 t] _ := box_put (box_put hX 0 (.slice ao no co) (by simp)) 1 (.int .i64 t) (by simp)
        have hRw := hO.row.sep_two (.slice ao no co) (.int .i64 t) sx
        have hO2 := (hO.sep_set (j := 0) (u := .slice ao no co) sx).sep_set (j := 1) (u := .int .i64 t) sx
        have hh := below_two (b := gx) (.slice ao no co) (.int .i64 t) hHeld hgx
        clear hX hO hHeld hD0 y0 y1 z0 z1 hsx
        have hX := hX2
        have hO := hO2
        clear hX2 hO2
        generalize (Wc.setCell ⟨gx, 0, none⟩ (.slice ao no co)).setCell ⟨gx, 1, none⟩ (.int .i64 t) = Wd at *
        clear Wc
        rename World => Wc
        refine hK.out _ _ hh (fun hHeld => ?_)
        clear hK hh
        try simp only [Act.put, List.setIfInBounds_toArray, List.set_cons_zero, List.set_cons_succ]
        refine wpAnyH_done (by kernel_rfl) ?_ _
        refine NoPanic.normal ?_
        exact hQ gx ao no co _ _ _ _ _ _ _ _ _ _ Wc hgx hX (by simpa using hRw) hHeld
    · go_simp
      have hx := Box.made Wc [.slice none 0 0, .int .i64 0] 24
      have hz := al Wc (.cells #[.slice none 0 0, .int .i64 0] 24)
      have hgx : W.heap.size ≤ Wc.heap.size := hD0
      have hh := below_trans hHeld hz
      clear hHeld hD0
      replace hN := hN.below hz
      obtain ⟨Wd, hWd⟩ : ∃ Wq, Wc.alloc (.cells #[.slice none 0 0, .int .i64 0] 24) = Wq := ⟨_, rfl⟩
      have hX : Box Wc.heap.size [.slice none 0 0, .int .i64 0] Wd := hWd ▸ hx
      rw [hWd] at hh ⊢
      rw [hWd] at hN
      clear hWd hz hx
      obtain ⟨gx, hgxe⟩ : ∃ g, Wc.heap.size = g := ⟨_, rfl⟩
      rw [hgxe] at hX hgx ⊢
      clear hgxe
      clear Wc
      rename World => Wc
      refine hK.out _ _ hh (fun hHeld => ?_)
      clear hK hh
      try simp only [Act.put, List.setIfInBounds_toArray, List.set_cons_zero, List.set_cons_succ]
      have hD0 := hHeld.size
      refine wpAnyH_ready (rs := [2]) (by kernel_rfl) (by simp) (AllReadyH.cons rfl (fun K hK => ?_) AllReadyH.nil)
      go_simp
      have ho := OwnN.empty Wc (B := W.heap.size) hD0
      have hz := al Wc (.cells #[] 26)
      have sx : SepB gx (.slice (some ⟨Wc.heap.size, 0, none⟩) 0 0) := SepB.under hX.1
      have sn : SepB gn (.slice (some ⟨Wc.heap.size, 0, none⟩) 0 0) := SepB.under (one_lt hN)
      have hh := below_trans hHeld hz
      clear hHeld hD0
      replace hX := hX.below hz
      replace hN := hN.below hz
      obtain ⟨Wd, hWd⟩ : ∃ Wq, Wc.alloc (.cells #[] 26) = Wq := ⟨_, rfl⟩
      rw [hWd] at ho hh ⊢
      rw [hWd] at hX
      rw [hWd] at hN
      clear hWd hz
      obtain ⟨go, hgo⟩ : ∃ g, Wc.heap.size = g := ⟨_, rfl⟩
      rw [hgo] at ho ⊢
      rw [hgo] at sx
      rw [hgo] at sn
      clear hgo
      clear Wc
      rename World => Wc
      have hO := ho
      clear ho
      refine hK.out _ _ hh (fun hHeld => ?_)
      clear hK hh
      try simp only [Act.put, List.setIfInBounds_toArray, List.set_cons_zero, List.set_cons_succ]
      have hD0 := hHeld.size
      refine wpAnyH_ready (rs := [5]) (by kernel_rfl) (by simp) (AllReadyH.cons rfl (fun K hK => ?_) AllReadyH.nil)
      refine step_append_O (by rfl) 205 rfl _ _ rfl W.heap.size _ ([]) rfl hO _ (l) rfl (HR3.out.below hHeld) (by simp) (by omega) hD0 (fun v5_ Wd ho2 hb2 hg2 hl2 => ?_)
      have sx2 := sx.after hX.1 hl2
      replace hX := Box.keptN hX hg2 sx
      have sn2 := sn.after (one_lt hN) hl2
      replace hN := one_kept hN hg2 sn
      have hh := hHeld.trans hb2
      clear hHeld hD0 hg2 hl2 hb2 sx sn hO
      have hO := ho2
      clear ho2
      have sx := sx2
      clear sx2
      have sn := sn2
      clear sn2
      clear Wc
      rename World => Wc
      refine hK.out _ _ hh (fun hHeld => ?_)
      clear hK hh
      try simp only [Act.put, List.setIfInBounds_toArray, List.set_cons_zero, List.set_cons_succ]
      have hD0 := hHeld.size
      refine wpAnyH_ready (rs := [8]) (by kernel_rfl) (by simp) (AllReadyH.cons rfl (fun K hK => ?_) AllReadyH.nil)
      refine step_append_O (by rfl) 208 rfl _ _ rfl W.heap.size _ (([]) ++ (l)) rfl hO _ ([x]) rfl (hN) (by simp only [List.nil_append]; omega) (by simp) hD0 (fun vo Wd ho2 hb2 hg2 hl2 => ?_)
      have sx2 := sx.after hX.1 hl2
      replace hX := Box.keptN hX hg2 sx
      clear hN sn
      have hh := hHeld.trans hb2
      clear hHeld hD0 hg2 hl2 hb2 sx hO
      have hO := ho2
      clear ho2
      have sx := sx2
      clear sx2
      clear Wc
      rename World => Wc
      refine hK.out _ _ hh (fun hHeld => ?_)
      clear hK hh
      try simp only [Act.put, List.setIfInBounds_toArray, List.set_cons_zero, List.set_cons_succ]
      have hD0 := hHeld.size
      obtain ⟨ao, no, co, rfl⟩ : ∃ a n c, vo = .slice a n c := (by obtain ⟨a', c', e⟩ := hO.row.slice; exact ⟨a', _, c', e⟩)
      refine takeH 9 209 (.agg #[.slice ao no co, .int .i64 t]) calm_np rfl rfl (by kernel_rfl) (by kernel_rfl) (by kernel_rfl) (by rfl) (fun W' hSw => by go_simp) hHeld ?_
      try simp only [Act.put, List.setIfInBounds_toArray, List.set_cons_zero, List.set_cons_succ]
      refine wpAnyH_ready (rs := [11]) (by kernel_rfl) (by simp) (AllReadyH.cons rfl (fun K hK => ?_) AllReadyH.nil)
      obtain ⟨y0, y1⟩ := box2 hX
      obtain ⟨z0, z1⟩ := frz2 hX
      have hsx := hX.1
      go_simp
      have hX2 : Box gx [.slice ao no co, .int .i64 t] _ := box_put (box_put hX 0 (.slice ao no co) (by simp)) 1 (.int .i64 t) (by simp)
      have hRw := hO.row.sep_two (.slice ao no co) (.int .i64 t) sx
      have hO2 := (hO.sep_set (j := 0) (u := .slice ao no co) sx).sep_set (j := 1) (u := .int .i64 t) sx
      have hh := below_two (b := gx) (.slice ao no co) (.int .i64 t) hHeld hgx
      clear hX hO hHeld hD0 y0 y1 z0 z1 hsx
      have hX := hX2
      have hO := hO2
      clear hX2 hO2
      generalize (Wc.setCell ⟨gx, 0, none⟩ (.slice ao no co)).setCell ⟨gx, 1, none⟩ (.int .i64 t) = Wd at *
      clear Wc
      rename World => Wc
      refine hK.out _ _ hh (fun hHeld => ?_)
      clear hK hh
      try simp only [Act.put, List.setIfInBounds_toArray, List.set_cons_zero, List.set_cons_succ]
      refine wpAnyH_done (by kernel_rfl) ?_ _
      refine NoPanic.normal ?_
      exact hQ gx ao no co _ _ _ _ _ _ _ _ _ _ Wc hgx hX (by simpa using hRw) hHeld
  · go_simp
    have hx := Box.made Wc [.slice none 0 0, .int .i64 0] 24
    have hz := al Wc (.cells #[.slice none 0 0, .int .i64 0] 24)
    have hgx : W.heap.size ≤ Wc.heap.size := hD0
    have hh := below_trans hHeld hz
    clear hHeld hD0
    obtain ⟨Wd, hWd⟩ : ∃ Wq, Wc.alloc (.cells #[.slice none 0 0, .int .i64 0] 24) = Wq := ⟨_, rfl⟩
    have hX : Box Wc.heap.size [.slice none 0 0, .int .i64 0] Wd := hWd ▸ hx
    rw [hWd] at hh ⊢
    clear hWd hz hx
    obtain ⟨gx, hgxe⟩ : ∃ g, Wc.heap.size = g := ⟨_, rfl⟩
    rw [hgxe] at hX hgx ⊢
    clear hgxe
    clear Wc
    rename World => Wc
    refine hK.out _ _ hh (fun hHeld => ?_)
    clear hK hh
    try simp only [Act.put, List.setIfInBounds_toArray, List.set_cons_zero, List.set_cons_succ]
    have hD0 := hHeld.size
    refine wpAnyH_ready (rs := [2, 7]) (by kernel_rfl) (by simp) (AllReadyH.cons rfl (fun K hK => ?_) (AllReadyH.cons rfl (fun K hK => ?_) AllReadyH.nil))
    · go_simp
      have ho := OwnN.empty Wc (B := W.heap.size) hD0
      have hz := al Wc (.cells #[] 26)
      have sx : SepB gx (.slice (some ⟨Wc.heap.size, 0, none⟩) 0 0) := SepB.under hX.1
      have hh := below_trans hHeld hz
      clear hHeld hD0
      replace hX := hX.below hz
      obtain ⟨Wd, hWd⟩ : ∃ Wq, Wc.alloc (.cells #[] 26) = Wq := ⟨_, rfl⟩
      rw [hWd] at ho hh ⊢
      rw [hWd] at hX
      clear hWd hz
      obtain ⟨go, hgo⟩ : ∃ g, Wc.heap.size = g := ⟨_, rfl⟩
      rw [hgo] at ho ⊢
      rw [hgo] at sx
      clear hgo
      clear Wc
      rename World => Wc
      have hO := ho
      clear ho
      refine hK.out _ _ hh (fun hHeld => ?_)
      clear hK hh
      try simp only [Act.put, List.setIfInBounds_toArray, List.set_cons_zero, List.set_cons_succ]
      have hD0 := hHeld.size
      refine wpAnyH_ready (rs := [5, 7]) (by kernel_rfl) (by simp) (AllReadyH.cons rfl (fun K hK => ?_) (AllReadyH.cons rfl (fun K hK => ?_) AllReadyH.nil))
      · refine step_append_O (by rfl) 205 rfl _ _ rfl W.heap.size _ ([]) rfl hO _ (l) rfl (HR3.out.below hHeld) (by simp) (by omega) hD0 (fun v5_ Wd ho2 hb2 hg2 hl2 => ?_)
        have sx2 := sx.after hX.1 hl2
        replace hX := Box.keptN hX hg2 sx
        have hh := hHeld.trans hb2
        clear hHeld hD0 hg2 hl2 hb2 sx hO
        have hO := ho2
        clear ho2
        have sx := sx2
        clear sx2
        clear Wc
        rename World => Wc
        refine hK.out _ _ hh (fun hHeld => ?_)
        clear hK hh
        try simp only [Act.put, List.setIfInBounds_toArray, List.set_cons_zero, List.set_cons_succ]
        have hD0 := hHeld.size
        refine wpAnyH_ready (rs := [7]) (by kernel_rfl) (by simp) (AllReadyH.cons rfl (fun K hK => ?_) AllReadyH.nil)
        go_simp
        have hone := NRow.one Wc (x)
        have hz := al Wc (.cells #[.int .i64 x.n, .bool x.b, .int .i64 x.y, .int .i64 x.k, .int .i64 x.o, .bool x.s] 26)
        have sn : SepB Wc.heap.size (v5_) := OwnN.sep hO (Nat.le_refl _)
        have hh := below_trans hHeld hz
        clear hHeld hD0
        replace hO := hO.below hz
        replace hX := hX.below hz
        obtain ⟨Wd, hWd⟩ : ∃ Wq, Wc.alloc (.cells #[.int .i64 x.n, .bool x.b, .int .i64 x.y, .int .i64 x.k, .int .i64 x.o, .bool x.s] 26) = Wq := ⟨_, rfl⟩
        have hN := hone
        rw [hWd] at hN hh ⊢
        rw [hWd] at hO
        rw [hWd] at hX
        clear hWd hz hone
        obtain ⟨gn, hgn⟩ : ∃ g, Wc.heap.size = g := ⟨_, rfl⟩
        rw [hgn] at hN ⊢
        rw [hgn] at sn
        clear hgn
        clear Wc
        rename World => Wc
        refine hK.out _ _ hh (fun hHeld => ?_)
        clear hK hh
        try simp only [Act.put, List.setIfInBounds_toArray, List.set_cons_zero, List.set_cons_succ]
        have hD0 := hHeld.size
        refine wpAnyH_ready (rs := [8]) (by kernel_rfl) (by simp) (AllReadyH.cons rfl (fun K hK => ?_) AllReadyH.nil)
        refine step_append_O (by rfl) 208 rfl _ _ rfl W.heap.size _ (([]) ++ (l)) rfl hO _ ([x]) rfl (hN) (by simp only [List.nil_append]; omega) (by simp) hD0 (fun vo Wd ho2 hb2 hg2 hl2 => ?_)
        have sx2 := sx.after hX.1 hl2
        replace hX := Box.keptN hX hg2 sx
        clear hN sn
        have hh := hHeld.trans hb2
        clear hHeld hD0 hg2 hl2 hb2 sx hO
        have hO := ho2
        clear ho2
        have sx := sx2
        clear sx2
        clear Wc
        rename World => Wc
        refine hK.out _ _ hh (fun hHeld => ?_)
        clear hK hh
        try simp only [Act.put, List.setIfInBounds_toArray, List.set_cons_zero, List.set_cons_succ]
        have hD0 := hHeld.size
        obtain ⟨ao, no, co, rfl⟩ : ∃ a n c, vo = .slice a n c := (by obtain ⟨a', c', e⟩ := hO.row.slice; exact ⟨a', _, c', e⟩)
        refine takeH 9 209 (.agg #[.slice ao no co, .int .i64 t]) calm_np rfl rfl (by kernel_rfl) (by kernel_rfl) (by kernel_rfl) (by rfl) (fun W' hSw => by go_simp) hHeld ?_
        try simp only [Act.put, List.setIfInBounds_toArray, List.set_cons_zero, List.set_cons_succ]
        refine wpAnyH_ready (rs := [11]) (by kernel_rfl) (by simp) (AllReadyH.cons rfl (fun K hK => ?_) AllReadyH.nil)
        obtain ⟨y0, y1⟩ := box2 hX
        obtain ⟨z0, z1⟩ := frz2 hX
        have hsx := hX.1
        go_simp
        have hX2 : Box gx [.slice ao no co, .int .i64 t] _ := box_put (box_put hX 0 (.slice ao no co) (by simp)) 1 (.int .i64 t) (by simp)
        have hRw := hO.row.sep_two (.slice ao no co) (.int .i64 t) sx
        have hO2 := (hO.sep_set (j := 0) (u := .slice ao no co) sx).sep_set (j := 1) (u := .int .i64 t) sx
        have hh := below_two (b := gx) (.slice ao no co) (.int .i64 t) hHeld hgx
        clear hX hO hHeld hD0 y0 y1 z0 z1 hsx
        have hX := hX2
        have hO := hO2
        clear hX2 hO2
        generalize (Wc.setCell ⟨gx, 0, none⟩ (.slice ao no co)).setCell ⟨gx, 1, none⟩ (.int .i64 t) = Wd at *
        clear Wc
        rename World => Wc
        refine hK.out _ _ hh (fun hHeld => ?_)
        clear hK hh
        try simp only [Act.put, List.setIfInBounds_toArray, List.set_cons_zero, List.set_cons_succ]
        refine wpAnyH_done (by kernel_rfl) ?_ _
        refine NoPanic.normal ?_
        exact hQ gx ao no co _ _ _ _ _ _ _ _ _ _ Wc hgx hX (by simpa using hRw) hHeld
      · go_simp
        have hone := NRow.one Wc (x)
        have hz := al Wc (.cells #[.int .i64 x.n, .bool x.b, .int .i64 x.y, .int .i64 x.k, .int .i64 x.o, .bool x.s] 26)
        have sn : SepB Wc.heap.size (.slice (some ⟨go, 0, none⟩) 0 0) := OwnN.sep hO (Nat.le_refl _)
        have hh := below_trans hHeld hz
        clear hHeld hD0
        replace hO := hO.below hz
        replace hX := hX.below hz
        obtain ⟨Wd, hWd⟩ : ∃ Wq, Wc.alloc (.cells #[.int .i64 x.n, .bool x.b, .int .i64 x.y, .int .i64 x.k, .int .i64 x.o, .bool x.s] 26) = Wq := ⟨_, rfl⟩
        have hN := hone
        rw [hWd] at hN hh ⊢
        rw [hWd] at hO
        rw [hWd] at hX
        clear hWd hz hone
        obtain ⟨gn, hgn⟩ : ∃ g, Wc.heap.size = g := ⟨_, rfl⟩
        rw [hgn] at hN ⊢
        rw [hgn] at sn
        clear hgn
        clear Wc
        rename World => Wc
        refine hK.out _ _ hh (fun hHeld => ?_)
        clear hK hh
        try simp only [Act.put, List.setIfInBounds_toArray, List.set_cons_zero, List.set_cons_succ]
        have hD0 := hHeld.size
        refine wpAnyH_ready (rs := [5]) (by kernel_rfl) (by simp) (AllReadyH.cons rfl (fun K hK => ?_) AllReadyH.nil)
        refine step_append_O (by rfl) 205 rfl _ _ rfl W.heap.size _ ([]) rfl hO _ (l) rfl (HR3.out.below hHeld) (by simp) (by omega) hD0 (fun v5_ Wd ho2 hb2 hg2 hl2 => ?_)
        have sx2 := sx.after hX.1 hl2
        replace hX := Box.keptN hX hg2 sx
        have sn2 := sn.after (one_lt hN) hl2
        replace hN := one_kept hN hg2 sn
        have hh := hHeld.trans hb2
        clear hHeld hD0 hg2 hl2 hb2 sx sn hO
        have hO := ho2
        clear ho2
        have sx := sx2
        clear sx2
        have sn := sn2
        clear sn2
        clear Wc
        rename World => Wc
        refine hK.out _ _ hh (fun hHeld => ?_)
        clear hK hh
        try simp only [Act.put, List.setIfInBounds_toArray, List.set_cons_zero, List.set_cons_succ]
        have hD0 := hHeld.size
        refine wpAnyH_ready (rs := [8]) (by kernel_rfl) (by simp) (AllReadyH.cons rfl (fun K hK => ?_) AllReadyH.nil)
        refine step_append_O (by rfl) 208 rfl _ _ rfl W.heap.size _ (([]) ++ (l)) rfl hO _ ([x]) rfl (hN) (by simp only [List.nil_append]; omega) (by simp) hD0 (fun vo Wd ho2 hb2 hg2 hl2 => ?_)
        have sx2 := sx.after hX.1 hl2
        replace hX := Box.keptN hX hg2 sx
        clear hN sn
        have hh := hHeld.trans hb2
        clear hHeld hD0 hg2 hl2 hb2 sx hO
        have hO := ho2
        clear ho2
        have sx := sx2
        clear sx2
        clear Wc
        rename World => Wc
        refine hK.out _ _ hh (fun hHeld => ?_)
        clear hK hh
        try simp only [Act.put, List.setIfInBounds_toArray, List.set_cons_zero, List.set_cons_succ]
        have hD0 := hHeld.size
        obtain ⟨ao, no, co, rfl⟩ : ∃ a n c, vo = .slice a n c := (by obtain ⟨a', c', e⟩ := hO.row.slice; exact ⟨a', _, c', e⟩)
        refine takeH 9 209 (.agg #[.slice ao no co, .int .i64 t]) calm_np rfl rfl (by kernel_rfl) (by kernel_rfl) (by kernel_rfl) (by rfl) (fun W' hSw => by go_simp) hHeld ?_
        try simp only [Act.put, List.setIfInBounds_toArray, List.set_cons_zero, List.set_cons_succ]
        refine wpAnyH_ready (rs := [11]) (by kernel_rfl) (by simp) (AllReadyH.cons rfl (fun K hK => ?_) AllReadyH.nil)
        obtain ⟨y0, y1⟩ := box2 hX
        obtain ⟨z0, z1⟩ := frz2 hX
        have hsx := hX.1
        go_simp
        have hX2 : Box gx [.slice ao no co, .int .i64 t] _ := box_put (box_put hX 0 (.slice ao no co) (by simp)) 1 (.int .i64 t) (by simp)
        have hRw := hO.row.sep_two (.slice ao no co) (.int .i64 t) sx
        have hO2 := (hO.sep_set (j := 0) (u := .slice ao no co) sx).sep_set (j := 1) (u := .int .i64 t) sx
        have hh := below_two (b := gx) (.slice ao no co) (.int .i64 t) hHeld hgx
        clear hX hO hHeld hD0 y0 y1 z0 z1 hsx
        have hX := hX2
        have hO := hO2
        clear hX2 hO2
        generalize (Wc.setCell ⟨gx, 0, none⟩ (.slice ao no co)).setCell ⟨gx, 1, none⟩ (.int .i64 t) = Wd at *
        clear Wc
        rename World => Wc
        refine hK.out _ _ hh (fun hHeld => ?_)
        clear hK hh
        try simp only [Act.put, List.setIfInBounds_toArray, List.set_cons_zero, List.set_cons_succ]
        refine wpAnyH_done (by kernel_rfl) ?_ _
        refine NoPanic.normal ?_
        exact hQ gx ao no co _ _ _ _ _ _ _ _ _ _ Wc hgx hX (by simpa using hRw) hHeld
    · go_simp
      have hone := NRow.one Wc (x)
      have hz := al Wc (.cells #[.int .i64 x.n, .bool x.b, .int .i64 x.y, .int .i64 x.k, .int .i64 x.o, .bool x.s] 26)
      have hh := below_trans hHeld hz
      clear hHeld hD0
      replace hX := hX.below hz
      obtain ⟨Wd, hWd⟩ : ∃ Wq, Wc.alloc (.cells #[.int .i64 x.n, .bool x.b, .int .i64 x.y, .int .i64 x.k, .int .i64 x.o, .bool x.s] 26) = Wq := ⟨_, rfl⟩
      have hN := hone
      rw [hWd] at hN hh ⊢
      rw [hWd] at hX
      clear hWd hz hone
      obtain ⟨gn, hgn⟩ : ∃ g, Wc.heap.size = g := ⟨_, rfl⟩
      rw [hgn] at hN ⊢
      clear hgn
      clear Wc
      rename World => Wc
      refine hK.out _ _ hh (fun hHeld => ?_)
      clear hK hh
      try simp only [Act.put, List.setIfInBounds_toArray, List.set_cons_zero, List.set_cons_succ]
      have hD0 := hHeld.size
      refine wpAnyH_ready (rs := [2]) (by kernel_rfl) (by simp) (AllReadyH.cons rfl (fun K hK => ?_) AllReadyH.nil)
      go_simp
      have ho := OwnN.empty Wc (B := W.heap.size) hD0
      have hz := al Wc (.cells #[] 26)
      have sx : SepB gx (.slice (some ⟨Wc.heap.size, 0, none⟩) 0 0) := SepB.under hX.1
      have sn : SepB gn (.slice (some ⟨Wc.heap.size, 0, none⟩) 0 0) := SepB.under (one_lt hN)
      have hh := below_trans hHeld hz
      clear hHeld hD0
      replace hX := hX.below hz
      replace hN := hN.below hz
      obtain ⟨Wd, hWd⟩ : ∃ Wq, Wc.alloc (.cells #[] 26) = Wq := ⟨_, rfl⟩
      rw [hWd] at ho hh ⊢
      rw [hWd] at hX
      rw [hWd] at hN
      clear hWd hz
      obtain ⟨go, hgo⟩ : ∃ g, Wc.heap.size = g := ⟨_, rfl⟩
      rw [hgo] at ho ⊢
      rw [hgo] at sx
      rw [hgo] at sn
      clear hgo
      clear Wc
      rename World => Wc
      have hO := ho
      clear ho
      refine hK.out _ _ hh (fun hHeld => ?_)
      clear hK hh
      try simp only [Act.put, List.setIfInBounds_toArray, List.set_cons_zero, List.set_cons_succ]
      have hD0 := hHeld.size
      refine wpAnyH_ready (rs := [5]) (by kernel_rfl) (by simp) (AllReadyH.cons rfl (fun K hK => ?_) AllReadyH.nil)
      refine step_append_O (by rfl) 205 rfl _ _ rfl W.heap.size _ ([]) rfl hO _ (l) rfl (HR3.out.below hHeld) (by simp) (by omega) hD0 (fun v5_ Wd ho2 hb2 hg2 hl2 => ?_)
      have sx2 := sx.after hX.1 hl2
      replace hX := Box.keptN hX hg2 sx
      have sn2 := sn.after (one_lt hN) hl2
      replace hN := one_kept hN hg2 sn
      have hh := hHeld.trans hb2
      clear hHeld hD0 hg2 hl2 hb2 sx sn hO
      have hO := ho2
      clear ho2
      have sx := sx2
      clear sx2
      have sn := sn2
      clear sn2
      clear Wc
      rename World => Wc
      refine hK.out _ _ hh (fun hHeld => ?_)
      clear hK hh
      try simp only [Act.put, List.setIfInBounds_toArray, List.set_cons_zero, List.set_cons_succ]
      have hD0 := hHeld.size
      refine wpAnyH_ready (rs := [8]) (by kernel_rfl) (by simp) (AllReadyH.cons rfl (fun K hK => ?_) AllReadyH.nil)
      refine step_append_O (by rfl) 208 rfl _ _ rfl W.heap.size _ (([]) ++ (l)) rfl hO _ ([x]) rfl (hN) (by simp only [List.nil_append]; omega) (by simp) hD0 (fun vo Wd ho2 hb2 hg2 hl2 => ?_)
      have sx2 := sx.after hX.1 hl2
      replace hX := Box.keptN hX hg2 sx
      clear hN sn
      have hh := hHeld.trans hb2
      clear hHeld hD0 hg2 hl2 hb2 sx hO
      have hO := ho2
      clear ho2
      have sx := sx2
      clear sx2
      clear Wc
      rename World => Wc
      refine hK.out _ _ hh (fun hHeld => ?_)
      clear hK hh
      try simp only [Act.put, List.setIfInBounds_toArray, List.set_cons_zero, List.set_cons_succ]
      have hD0 := hHeld.size
      obtain ⟨ao, no, co, rfl⟩ : ∃ a n c, vo = .slice a n c := (by obtain ⟨a', c', e⟩ := hO.row.slice; exact ⟨a', _, c', e⟩)
      refine takeH 9 209 (.agg #[.slice ao no co, .int .i64 t]) calm_np rfl rfl (by kernel_rfl) (by kernel_rfl) (by kernel_rfl) (by rfl) (fun W' hSw => by go_simp) hHeld ?_
      try simp only [Act.put, List.setIfInBounds_toArray, List.set_cons_zero, List.set_cons_succ]
      refine wpAnyH_ready (rs := [11]) (by kernel_rfl) (by simp) (AllReadyH.cons rfl (fun K hK => ?_) AllReadyH.nil)
      obtain ⟨y0, y1⟩ := box2 hX
      obtain ⟨z0, z1⟩ := frz2 hX
      have hsx := hX.1
      go_simp
      have hX2 : Box gx [.slice ao no co, .int .i64 t] _ := box_put (box_put hX 0 (.slice ao no co) (by simp)) 1 (.int .i64 t) (by simp)
      have hRw := hO.row.sep_two (.slice ao no co) (.int .i64 t) sx
      have hO2 := (hO.sep_set (j := 0) (u := .slice ao no co) sx).sep_set (j := 1) (u := .int .i64 t) sx
      have hh := below_two (b := gx) (.slice ao no co) (.int .i64 t) hHeld hgx
      clear hX hO hHeld hD0 y0 y1 z0 z1 hsx
      have hX := hX2
      have hO := hO2
      clear hX2 hO2
      generalize (Wc.setCell ⟨gx, 0, none⟩ (.slice ao no co)).setCell ⟨gx, 1, none⟩ (.int .i64 t) = Wd at *
      clear Wc
      rename World => Wc
      refine hK.out _ _ hh (fun hHeld => ?_)
      clear hK hh
      try simp only [Act.put, List.setIfInBounds_toArray, List.set_cons_zero, List.set_cons_succ]
      refine wpAnyH_done (by kernel_rfl) ?_ _
      refine NoPanic.normal ?_
      exact hQ gx ao no co _ _ _ _ _ _ _ _ _ _ Wc hgx hX (by simpa using hRw) hHeld

set_option maxRecDepth 1000000 in
set_option maxHeartbeats 32000000 in
theorem reg30_wp {Q : Exit → Act → World → Prop} {b3 b21 b22 n : Nat} {v3 : Value} {a : Option Addr} {c : Nat} {l : List Pc} {t : Int} {x : Pc} {W : World} (HX3 : Hid (Box b3 [v3, .int .i64 t] W)) (HX21 : Hid (Box b21 [.int .i64 x.n, .bool x.b, .int .i64 x.y, .int .i64 x.k, .int .i64 x.o, .bool x.s] W)) (HX22 : Hid (Box b22 [.slice a n c, .int .i64 t] W)) (HR22 : Hid (NRow W (.slice a n c) l)) (hl : l.length ≤ 66) {u0 u1 u2 u4 u5 u6 u7 u8 u9 u10 u11 u12 u13 u14 u15 u16 u17 u18 u19 u20 u23 u24 u25 u26 u27 u28 u29 u30 u31 u32 u33 u34 u35 u36 u37 u38 u39 u40 u41 u42 u43 u44 u45 u46 u47 u48 u49 u50 u51 u52 u53 u54 u55 u56 u57 u58 u59 u60 u61 u62 u63 u64 u65 u66 u67 u68 u69 u70 u71 u72 u73 u74 u75 u76 u77 u78 u79 u80 u81 u82 u83 u84 u85 u86 u87 u88 u89 u90 u91 u92 u93 u94 u95 u96 u97 u98 u99 u100 u101 u102 u103 u104 u105 u106 u107 u108 u109 u110 u111 u112 u113 u114 u115 u116 u117 u118 u119 u120 u121 u122 u123 u124 u125 u126 u127 u128 u129 u130 u131 u132 u133 u134 u135 u136 u137 u138 u139 u140 u141 u142 u143 u144 u145 u146 u147 u148 u149 u150 u151 u152 u153 u154 u155 u156 u157 u158 u159 u160 u161 u162 u163 u164 u165 u166 u167 u168 u169 u170 u171 u172 u173 u174 u175 u176 u177 u178 u179 u180 u181 u182 u183 u184 u185 u186 u187 u188 u189 u190 u191 u192 u193 u194 u195 u196 u197 u198 u199 u200 u201 u202 u203 u204 u205 u206 u207 u208 u209 u210 u211 u212 u213 u214 u215 u216 u217 u218 u219 u220 u221 u222 u223 u224 u225 u226 u227 u228 u229 u230 u231 u232 u233 u234 u235 u236 u237 u238 u239 u240 u241 u242 u243 u244 u245 u246 u247 u248 u249 u250 u251 u252 u253 u254 u255 u256 u257 u258 u259 u260 : Value}
    (hQ : ∀ (g : Nat) (ao : Option Addr) (no co : Nat) (v210 v211 v212 v213 v214 v215 v216 v217 v218 v219 : Value) (wx : World), W.heap.size ≤ g → Box g [.slice ao no co, .int .i64 t] wx → NRow wx (.slice ao no co) (l ++ [x]) → Below W.heap.size W wx → Q .normal ⟨#[u0, u1, u2, .pointer (some ⟨b3, 0, none⟩), u4, u5, u6, u7, u8, u9, u10, u11, u12, u13, u14, u15, u16, u17, u18, u19, u20, .pointer (some ⟨b21, 0, none⟩), .pointer (some ⟨b22, 0, none⟩), u23, .pointer (some ⟨g, 0, none⟩), u25, u26, u27, u28, u29, u30, u31, u32, u33, u34, u35, u36, u37, u38, u39, u40, u41, u42, u43, u44, u45, u46, u47, u48, u49, u50, u51, u52, u53, u54, u55, u56, u57, u58, u59, u60, u61, u62, u63, u64, u65, u66, u67, u68, u69, u70, u71, u72, u73, u74, u75, u76, u77, u78, u79, u80, u81, u82, u83, u84, u85, u86, u87, u88, u89, u90, u91, u92, u93, u94, u95, u96, u97, u98, u99, u100, u101, u102, u103, u104, u105, u106, u107, u108, u109, u110, u111, u112, u113, u114, u115, u116, u117, u118, u119, u120, u121, u122, u123, u124, u125, u126, u127, u128, u129, u130, u131, u132, u133, u134, u135, u136, u137, u138, u139, u140, u141, u142, u143, u144, u145, u146, u147, u148, u149, u150, u151, u152, u153, u154, u155, u156, u157, u158, u159, u160, u161, u162, u163, u164, u165, u166, u167, u168, u169, u170, u171, u172, u173, u174, u175, u176, u177, u178, u179, u180, u181, u182, u183, u184, u185, u186, u187, u188, u189, u190, u191, u192, u193, u194, u195, u196, u197, u198, u199, u200, u201, u202, u203, u204, u205, u206, u207, u208, u209, v210, v211, v212, v213, v214, v215, v216, v217, v218, v219, u220, u221, u222, u223, u224, u225, u226, u227, u228, u229, u230, u231, u232, u233, u234, u235, u236, u237, u238, u239, u240, u241, u242, u243, u244, u245, u246, u247, u248, u249, u250, u251, u252, u253, u254, u255, u256, u257, u258, u259, u260], []⟩ wx) :
    Code.wp Try.prog ((Try.f3.body.bind (findR 30)).getD .skip) Q ⟨#[u0, u1, u2, .pointer (some ⟨b3, 0, none⟩), u4, u5, u6, u7, u8, u9, u10, u11, u12, u13, u14, u15, u16, u17, u18, u19, u20, .pointer (some ⟨b21, 0, none⟩), .pointer (some ⟨b22, 0, none⟩), u23, u24, u25, u26, u27, u28, u29, u30, u31, u32, u33, u34, u35, u36, u37, u38, u39, u40, u41, u42, u43, u44, u45, u46, u47, u48, u49, u50, u51, u52, u53, u54, u55, u56, u57, u58, u59, u60, u61, u62, u63, u64, u65, u66, u67, u68, u69, u70, u71, u72, u73, u74, u75, u76, u77, u78, u79, u80, u81, u82, u83, u84, u85, u86, u87, u88, u89, u90, u91, u92, u93, u94, u95, u96, u97, u98, u99, u100, u101, u102, u103, u104, u105, u106, u107, u108, u109, u110, u111, u112, u113, u114, u115, u116, u117, u118, u119, u120, u121, u122, u123, u124, u125, u126, u127, u128, u129, u130, u131, u132, u133, u134, u135, u136, u137, u138, u139, u140, u141, u142, u143, u144, u145, u146, u147, u148, u149, u150, u151, u152, u153, u154, u155, u156, u157, u158, u159, u160, u161, u162, u163, u164, u165, u166, u167, u168, u169, u170, u171, u172, u173, u174, u175, u176, u177, u178, u179, u180, u181, u182, u183, u184, u185, u186, u187, u188, u189, u190, u191, u192, u193, u194, u195, u196, u197, u198, u199, u200, u201, u202, u203, u204, u205, u206, u207, u208, u209, u210, u211, u212, u213, u214, u215, u216, u217, u218, u219, u220, u221, u222, u223, u224, u225, u226, u227, u228, u229, u230, u231, u232, u233, u234, u235, u236, u237, u238, u239, u240, u241, u242, u243, u244, u245, u246, u247, u248, u249, u250, u251, u252, u253, u254, u255, u256, u257, u258, u259, u260], []⟩ W := by
  conv => arg 2; whnf
  refine wp_region_noPanic ?_
  refine wp_region_held_drew (S := fun W' => Below W.heap.size W W') (by kernel_rfl) (dr W) (fun hHeld => ?_)
  try dsimp only
  refine takeH 0 210 (.pointer (some ⟨b3, 1, none⟩)) calm_np rfl rfl (by kernel_rfl) (by kernel_rfl) (by kernel_rfl) (by rfl) (fun W' hSw => by go_simp) hHeld ?_
  try simp only [Act.put, List.setIfInBounds_toArray, List.set_cons_zero, List.set_cons_succ]
  refine takeH 1 211 (.int .i64 t) calm_np rfl rfl (by kernel_rfl) (by kernel_rfl) (by kernel_rfl) (by rfl) (fun W' hSw => by have g0 := (show _ = some (Value.int .i64 t) from (HX3.out.below hSw).at 1 rfl); have hsz := (HX3.out.below hSw).1; go_simp) hHeld ?_
  try simp only [Act.put, List.setIfInBounds_toArray, List.set_cons_zero, List.set_cons_succ]
  refine takeH 3 213 (.pointer (some ⟨b22, 0, none⟩)) calm_np rfl rfl (by kernel_rfl) (by kernel_rfl) (by kernel_rfl) (by rfl) (fun W' hSw => by go_simp) hHeld ?_
  try simp only [Act.put, List.setIfInBounds_toArray, List.set_cons_zero, List.set_cons_succ]
  refine takeH 4 214 (.slice a n c) calm_np rfl rfl (by kernel_rfl) (by kernel_rfl) (by kernel_rfl) (by rfl) (fun W' hSw => by have g0 := (show _ = some (Value.slice a n c) from (HX22.out.below hSw).at 0 rfl); have hsz := (HX22.out.below hSw).1; go_simp) hHeld ?_
  try simp only [Act.put, List.setIfInBounds_toArray, List.set_cons_zero, List.set_cons_succ]
  refine takeH 6 216 (.agg #[.int .i64 x.n, .bool x.b, .int .i64 x.y, .int .i64 x.k, .int .i64 x.o, .bool x.s]) calm_np rfl rfl (by kernel_rfl) (by kernel_rfl) (by kernel_rfl) (by rfl) (fun W' hSw => by have g0 := (show _ = some (Value.int .i64 x.n) from (HX21.out.below hSw).at 0 rfl); have g1 := (show _ = some (Value.bool x.b) from (HX21.out.below hSw).at 1 rfl); have g2 := (show _ = some (Value.int .i64 x.y) from (HX21.out.below hSw).at 2 rfl); have g3 := (show _ = some (Value.int .i64 x.k) from (HX21.out.below hSw).at 3 rfl); have g4 := (show _ = some (Value.int .i64 x.o) from (HX21.out.below hSw).at 4 rfl); have g5 := (show _ = some (Value.bool x.s) from (HX21.out.below hSw).at 5 rfl); have hsz := (HX21.out.below hSw).1; go_simp) hHeld ?_
  try simp only [Act.put, List.setIfInBounds_toArray, List.set_cons_zero, List.set_cons_succ]
  have hD0 := hHeld.size
  obtain ⟨Wc, hWc⟩ : ∃ Wq, W.drew = Wq := ⟨_, rfl⟩
  rw [hWc] at hHeld ⊢
  rw [hWc] at hD0
  clear hWc
  refine wpAnyH_ready (rs := [2, 7, 10]) (by kernel_rfl) (by simp) (AllReadyH.cons rfl (fun K hK => ?_) (AllReadyH.cons rfl (fun K hK => ?_) (AllReadyH.cons rfl (fun K hK => ?_) AllReadyH.nil)))
  · go_simp
    have ho := OwnN.empty Wc (B := W.heap.size) hD0
    have hz := al Wc (.cells #[] 26)
    have hh := below_trans hHeld hz
    clear hHeld hD0
    obtain ⟨Wd, hWd⟩ : ∃ Wq, Wc.alloc (.cells #[] 26) = Wq := ⟨_, rfl⟩
    rw [hWd] at ho hh ⊢
    clear hWd hz
    obtain ⟨go, hgo⟩ : ∃ g, Wc.heap.size = g := ⟨_, rfl⟩
    rw [hgo] at ho ⊢
    clear hgo
    clear Wc
    rename World => Wc
    have hO := ho
    clear ho
    refine hK.out _ _ hh (fun hHeld => ?_)
    clear hK hh
    try simp only [Act.put, List.setIfInBounds_toArray, List.set_cons_zero, List.set_cons_succ]
    have hD0 := hHeld.size
    refine wpAnyH_ready (rs := [5, 7, 10]) (by kernel_rfl) (by simp) (AllReadyH.cons rfl (fun K hK => ?_) (AllReadyH.cons rfl (fun K hK => ?_) (AllReadyH.cons rfl (fun K hK => ?_) AllReadyH.nil)))
    · refine step_append_O (by rfl) 215 rfl _ _ rfl W.heap.size _ ([]) rfl hO _ (l) rfl (HR22.out.below hHeld) (by simp) (by omega) hD0 (fun v5_ Wd ho2 hb2 hg2 hl2 => ?_)
      have hh := hHeld.trans hb2
      clear hHeld hD0 hg2 hl2 hb2 hO
      have hO := ho2
      clear ho2
      clear Wc
      rename World => Wc
      refine hK.out _ _ hh (fun hHeld => ?_)
      clear hK hh
      try simp only [Act.put, List.setIfInBounds_toArray, List.set_cons_zero, List.set_cons_succ]
      have hD0 := hHeld.size
      refine wpAnyH_ready (rs := [7, 10]) (by kernel_rfl) (by simp) (AllReadyH.cons rfl (fun K hK => ?_) (AllReadyH.cons rfl (fun K hK => ?_) AllReadyH.nil))
      · go_simp
        have hone := NRow.one Wc (x)
        have hz := al Wc (.cells #[.int .i64 x.n, .bool x.b, .int .i64 x.y, .int .i64 x.k, .int .i64 x.o, .bool x.s] 26)
        have sn : SepB Wc.heap.size (v5_) := OwnN.sep hO (Nat.le_refl _)
        have hh := below_trans hHeld hz
        clear hHeld hD0
        replace hO := hO.below hz
        obtain ⟨Wd, hWd⟩ : ∃ Wq, Wc.alloc (.cells #[.int .i64 x.n, .bool x.b, .int .i64 x.y, .int .i64 x.k, .int .i64 x.o, .bool x.s] 26) = Wq := ⟨_, rfl⟩
        have hN := hone
        rw [hWd] at hN hh ⊢
        rw [hWd] at hO
        clear hWd hz hone
        obtain ⟨gn, hgn⟩ : ∃ g, Wc.heap.size = g := ⟨_, rfl⟩
        rw [hgn] at hN ⊢
        rw [hgn] at sn
        clear hgn
        clear Wc
        rename World => Wc
        refine hK.out _ _ hh (fun hHeld => ?_)
        clear hK hh
        try simp only [Act.put, List.setIfInBounds_toArray, List.set_cons_zero, List.set_cons_succ]
        have hD0 := hHeld.size
        refine wpAnyH_ready (rs := [8, 10]) (by kernel_rfl) (by simp) (AllReadyH.cons rfl (fun K hK => ?_) (AllReadyH.cons rfl (fun K hK => ?_) AllReadyH.nil))
        · refine step_append_O (by rfl) 218 rfl _ _ rfl W.heap.size _ (([]) ++ (l)) rfl hO _ ([x]) rfl (hN) (by simp only [List.nil_append]; omega) (by simp) hD0 (fun vo Wd ho2 hb2 hg2 hl2 => ?_)
          clear hN sn
          have hh := hHeld.trans hb2
          clear hHeld hD0 hg2 hl2 hb2 hO
          have hO := ho2
          clear ho2
          clear Wc
          rename World => Wc
          refine hK.out _ _ hh (fun hHeld => ?_)
          clear hK hh
          try simp only [Act.put, List.setIfInBounds_toArray, List.set_cons_zero, List.set_cons_succ]
          have hD0 := hHeld.size
          obtain ⟨ao, no, co, rfl⟩ : ∃ a n c, vo = .slice a n c := (by obtain ⟨a', c', e⟩ := hO.row.slice; exact ⟨a', _, c', e⟩)
          refine takeH 9 219 (.agg #[.slice ao no co, .int .i64 t]) calm_np rfl rfl (by kernel_rfl) (by kernel_rfl) (by kernel_rfl) (by rfl) (fun W' hSw => by go_simp) hHeld ?_
          try simp only [Act.put, List.setIfInBounds_toArray, List.set_cons_zero, List.set_cons_succ]
          refine wpAnyH_ready (rs := [10]) (by kernel_rfl) (by simp) (AllReadyH.cons rfl (fun K hK => ?_) AllReadyH.nil)
          go_simp
          have hx := Box.made Wc [.slice none 0 0, .int .i64 0] 24
          have hz := al Wc (.cells #[.slice none 0 0, .int .i64 0] 24)
          have hgx : W.heap.size ≤ Wc.heap.size := hD0
          have sx : SepB Wc.heap.size (.slice ao no co) := OwnN.sep hO (Nat.le_refl _)
          have hh := below_trans hHeld hz
          clear hHeld hD0
          replace hO := hO.below hz
          obtain ⟨Wd, hWd⟩ : ∃ Wq, Wc.alloc (.cells #[.slice none 0 0, .int .i64 0] 24) = Wq := ⟨_, rfl⟩
          have hX : Box Wc.heap.size [.slice none 0 0, .int .i64 0] Wd := hWd ▸ hx
          rw [hWd] at hh ⊢
          rw [hWd] at hO
          clear hWd hz hx
          obtain ⟨gx, hgxe⟩ : ∃ g, Wc.heap.size = g := ⟨_, rfl⟩
          rw [hgxe] at hX hgx ⊢
          rw [hgxe] at sx
          clear hgxe
          clear Wc
          rename World => Wc
          refine hK.out _ _ hh (fun hHeld => ?_)
          clear hK hh
          try simp only [Act.put, List.setIfInBounds_toArray, List.set_cons_zero, List.set_cons_succ]
          have hD0 := hHeld.size
          refine wpAnyH_ready (rs := [11]) (by kernel_rfl) (by simp) (AllReadyH.cons rfl (fun K hK => ?_) AllReadyH.nil)
          obtain ⟨y0, y1⟩ := box2 hX
          obtain ⟨z0, z1⟩ := frz2 hX
          have hsx := hX.1
          go_simp
          have hX2 : Box gx [.slice ao no co, .int .i64 t] _ := box_put (box_put hX 0 (.slice ao no co) (by simp)) 1 (.int .i64 t) (by simp)
          have hRw := hO.row.sep_two (.slice ao no co) (.int .i64 t) sx
          have hO2 := (hO.sep_set (j := 0) (u := .slice ao no co) sx).sep_set (j := 1) (u := .int .i64 t) sx
          have hh := below_two (b := gx) (.slice ao no co) (.int .i64 t) hHeld hgx
          clear hX hO hHeld hD0 y0 y1 z0 z1 hsx
          have hX := hX2
          have hO := hO2
          clear hX2 hO2
          generalize (Wc.setCell ⟨gx, 0, none⟩ (.slice ao no co)).setCell ⟨gx, 1, none⟩ (.int .i64 t) = Wd at *
          clear Wc
          rename World => Wc
          refine hK.out _ _ hh (fun hHeld => ?_)
          clear hK hh
          try simp only [Act.put, List.setIfInBounds_toArray, List.set_cons_zero, List.set_cons_succ]
          refine wpAnyH_done (by kernel_rfl) ?_ _
          refine NoPanic.normal ?_
          exact hQ gx ao no co _ _ _ _ _ _ _ _ _ _ Wc hgx hX (by simpa using hRw) hHeld
        · go_simp
          have hx := Box.made Wc [.slice none 0 0, .int .i64 0] 24
          have hz := al Wc (.cells #[.slice none 0 0, .int .i64 0] 24)
          have hgx : W.heap.size ≤ Wc.heap.size := hD0
          have sx : SepB Wc.heap.size (v5_) := OwnN.sep hO (Nat.le_refl _)
          have hh := below_trans hHeld hz
          clear hHeld hD0
          replace hO := hO.below hz
          replace hN := hN.below hz
          obtain ⟨Wd, hWd⟩ : ∃ Wq, Wc.alloc (.cells #[.slice none 0 0, .int .i64 0] 24) = Wq := ⟨_, rfl⟩
          have hX : Box Wc.heap.size [.slice none 0 0, .int .i64 0] Wd := hWd ▸ hx
          rw [hWd] at hh ⊢
          rw [hWd] at hO
          rw [hWd] at hN
          clear hWd hz hx
          obtain ⟨gx, hgxe⟩ : ∃ g, Wc.heap.size = g := ⟨_, rfl⟩
          rw [hgxe] at hX hgx ⊢
          rw [hgxe] at sx
          clear hgxe
          clear Wc
          rename World => Wc
          refine hK.out _ _ hh (fun hHeld => ?_)
          clear hK hh
          try simp only [Act.put, List.setIfInBounds_toArray, List.set_cons_zero, List.set_cons_succ]
          have hD0 := hHeld.size
          refine wpAnyH_ready (rs := [8]) (by kernel_rfl) (by simp) (AllReadyH.cons rfl (fun K hK => ?_) AllReadyH.nil)
          refine step_append_O (by rfl) 218 rfl _ _ rfl W.heap.size _ (([]) ++ (l)) rfl hO _ ([x]) rfl (hN) (by simp only [List.nil_append]; omega) (by simp) hD0 (fun vo Wd ho2 hb2 hg2 hl2 => ?_)
          have sx2 := sx.after hX.1 hl2
          replace hX := Box.keptN hX hg2 sx
          clear hN sn
          have hh := hHeld.trans hb2
          clear hHeld hD0 hg2 hl2 hb2 sx hO
          have hO := ho2
          clear ho2
          have sx := sx2
          clear sx2
          clear Wc
          rename World => Wc
          refine hK.out _ _ hh (fun hHeld => ?_)
          clear hK hh
          try simp only [Act.put, List.setIfInBounds_toArray, List.set_cons_zero, List.set_cons_succ]
          have hD0 := hHeld.size
          obtain ⟨ao, no, co, rfl⟩ : ∃ a n c, vo = .slice a n c := (by obtain ⟨a', c', e⟩ := hO.row.slice; exact ⟨a', _, c', e⟩)
          refine takeH 9 219 (.agg #[.slice ao no co, .int .i64 t]) calm_np rfl rfl (by kernel_rfl) (by kernel_rfl) (by kernel_rfl) (by rfl) (fun W' hSw => by go_simp) hHeld ?_
          try simp only [Act.put, List.setIfInBounds_toArray, List.set_cons_zero, List.set_cons_succ]
          refine wpAnyH_ready (rs := [11]) (by kernel_rfl) (by simp) (AllReadyH.cons rfl (fun K hK => ?_) AllReadyH.nil)
          obtain ⟨y0, y1⟩ := box2 hX
          obtain ⟨z0, z1⟩ := frz2 hX
          have hsx := hX.1
          go_simp
          have hX2 : Box gx [.slice ao no co, .int .i64 t] _ := box_put (box_put hX 0 (.slice ao no co) (by simp)) 1 (.int .i64 t) (by simp)
          have hRw := hO.row.sep_two (.slice ao no co) (.int .i64 t) sx
          have hO2 := (hO.sep_set (j := 0) (u := .slice ao no co) sx).sep_set (j := 1) (u := .int .i64 t) sx
          have hh := below_two (b := gx) (.slice ao no co) (.int .i64 t) hHeld hgx
          clear hX hO hHeld hD0 y0 y1 z0 z1 hsx
          have hX := hX2
          have hO := hO2
          clear hX2 hO2
          generalize (Wc.setCell ⟨gx, 0, none⟩ (.slice ao no co)).setCell ⟨gx, 1, none⟩ (.int .i64 t) = Wd at *
          clear Wc
          rename World => Wc
          refine hK.out _ _ hh (fun hHeld => ?_)
          clear hK hh
          try simp only [Act.put, List.setIfInBounds_toArray, List.set_cons_zero, List.set_cons_succ]
          refine wpAnyH_done (by kernel_rfl) ?_ _
          refine NoPanic.normal ?_
          exact hQ gx ao no co _ _ _ _ _ _ _ _ _ _ Wc hgx hX (by simpa using hRw) hHeld
      · go_simp
        have hx := Box.made Wc [.slice none 0 0, .int .i64 0] 24
        have hz := al Wc (.cells #[.slice none 0 0, .int .i64 0] 24)
        have hgx : W.heap.size ≤ Wc.heap.size := hD0
        have sx : SepB Wc.heap.size (v5_) := OwnN.sep hO (Nat.le_refl _)
        have hh := below_trans hHeld hz
        clear hHeld hD0
        replace hO := hO.below hz
        obtain ⟨Wd, hWd⟩ : ∃ Wq, Wc.alloc (.cells #[.slice none 0 0, .int .i64 0] 24) = Wq := ⟨_, rfl⟩
        have hX : Box Wc.heap.size [.slice none 0 0, .int .i64 0] Wd := hWd ▸ hx
        rw [hWd] at hh ⊢
        rw [hWd] at hO
        clear hWd hz hx
        obtain ⟨gx, hgxe⟩ : ∃ g, Wc.heap.size = g := ⟨_, rfl⟩
        rw [hgxe] at hX hgx ⊢
        rw [hgxe] at sx
        clear hgxe
        clear Wc
        rename World => Wc
        refine hK.out _ _ hh (fun hHeld => ?_)
        clear hK hh
        try simp only [Act.put, List.setIfInBounds_toArray, List.set_cons_zero, List.set_cons_succ]
        have hD0 := hHeld.size
        refine wpAnyH_ready (rs := [7]) (by kernel_rfl) (by simp) (AllReadyH.cons rfl (fun K hK => ?_) AllReadyH.nil)
        go_simp
        have hone := NRow.one Wc (x)
        have hz := al Wc (.cells #[.int .i64 x.n, .bool x.b, .int .i64 x.y, .int .i64 x.k, .int .i64 x.o, .bool x.s] 26)
        have sn : SepB Wc.heap.size (v5_) := OwnN.sep hO (Nat.le_refl _)
        have hh := below_trans hHeld hz
        clear hHeld hD0
        replace hO := hO.below hz
        replace hX := hX.below hz
        obtain ⟨Wd, hWd⟩ : ∃ Wq, Wc.alloc (.cells #[.int .i64 x.n, .bool x.b, .int .i64 x.y, .int .i64 x.k, .int .i64 x.o, .bool x.s] 26) = Wq := ⟨_, rfl⟩
        have hN := hone
        rw [hWd] at hN hh ⊢
        rw [hWd] at hO
        rw [hWd] at hX
        clear hWd hz hone
        obtain ⟨gn, hgn⟩ : ∃ g, Wc.heap.size = g := ⟨_, rfl⟩
        rw [hgn] at hN ⊢
        rw [hgn] at sn
        clear hgn
        clear Wc
        rename World => Wc
        refine hK.out _ _ hh (fun hHeld => ?_)
        clear hK hh
        try simp only [Act.put, List.setIfInBounds_toArray, List.set_cons_zero, List.set_cons_succ]
        have hD0 := hHeld.size
        refine wpAnyH_ready (rs := [8]) (by kernel_rfl) (by simp) (AllReadyH.cons rfl (fun K hK => ?_) AllReadyH.nil)
        refine step_append_O (by rfl) 218 rfl _ _ rfl W.heap.size _ (([]) ++ (l)) rfl hO _ ([x]) rfl (hN) (by simp only [List.nil_append]; omega) (by simp) hD0 (fun vo Wd ho2 hb2 hg2 hl2 => ?_)
        have sx2 := sx.after hX.1 hl2
        replace hX := Box.keptN hX hg2 sx
        clear hN sn
        have hh := hHeld.trans hb2
        clear hHeld hD0 hg2 hl2 hb2 sx hO
        have hO := ho2
        clear ho2
        have sx := sx2
        clear sx2
        clear Wc
        rename World => Wc
        refine hK.out _ _ hh (fun hHeld => ?_)
        clear hK hh
        try simp only [Act.put, List.setIfInBounds_toArray, List.set_cons_zero, List.set_cons_succ]
        have hD0 := hHeld.size
        obtain ⟨ao, no, co, rfl⟩ : ∃ a n c, vo = .slice a n c := (by obtain ⟨a', c', e⟩ := hO.row.slice; exact ⟨a', _, c', e⟩)
        refine takeH 9 219 (.agg #[.slice ao no co, .int .i64 t]) calm_np rfl rfl (by kernel_rfl) (by kernel_rfl) (by kernel_rfl) (by rfl) (fun W' hSw => by go_simp) hHeld ?_
        try simp only [Act.put, List.setIfInBounds_toArray, List.set_cons_zero, List.set_cons_succ]
        refine wpAnyH_ready (rs := [11]) (by kernel_rfl) (by simp) (AllReadyH.cons rfl (fun K hK => ?_) AllReadyH.nil)
        obtain ⟨y0, y1⟩ := box2 hX
        obtain ⟨z0, z1⟩ := frz2 hX
        have hsx := hX.1
        go_simp
        have hX2 : Box gx [.slice ao no co, .int .i64 t] _ := box_put (box_put hX 0 (.slice ao no co) (by simp)) 1 (.int .i64 t) (by simp)
        have hRw := hO.row.sep_two (.slice ao no co) (.int .i64 t) sx
        have hO2 := (hO.sep_set (j := 0) (u := .slice ao no co) sx).sep_set (j := 1) (u := .int .i64 t) sx
        have hh := below_two (b := gx) (.slice ao no co) (.int .i64 t) hHeld hgx
        clear hX hO hHeld hD0 y0 y1 z0 z1 hsx
        have hX := hX2
        have hO := hO2
        clear hX2 hO2
        generalize (Wc.setCell ⟨gx, 0, none⟩ (.slice ao no co)).setCell ⟨gx, 1, none⟩ (.int .i64 t) = Wd at *
        clear Wc
        rename World => Wc
        refine hK.out _ _ hh (fun hHeld => ?_)
        clear hK hh
        try simp only [Act.put, List.setIfInBounds_toArray, List.set_cons_zero, List.set_cons_succ]
        refine wpAnyH_done (by kernel_rfl) ?_ _
        refine NoPanic.normal ?_
        exact hQ gx ao no co _ _ _ _ _ _ _ _ _ _ Wc hgx hX (by simpa using hRw) hHeld
    · go_simp
      have hone := NRow.one Wc (x)
      have hz := al Wc (.cells #[.int .i64 x.n, .bool x.b, .int .i64 x.y, .int .i64 x.k, .int .i64 x.o, .bool x.s] 26)
      have sn : SepB Wc.heap.size (.slice (some ⟨go, 0, none⟩) 0 0) := OwnN.sep hO (Nat.le_refl _)
      have hh := below_trans hHeld hz
      clear hHeld hD0
      replace hO := hO.below hz
      obtain ⟨Wd, hWd⟩ : ∃ Wq, Wc.alloc (.cells #[.int .i64 x.n, .bool x.b, .int .i64 x.y, .int .i64 x.k, .int .i64 x.o, .bool x.s] 26) = Wq := ⟨_, rfl⟩
      have hN := hone
      rw [hWd] at hN hh ⊢
      rw [hWd] at hO
      clear hWd hz hone
      obtain ⟨gn, hgn⟩ : ∃ g, Wc.heap.size = g := ⟨_, rfl⟩
      rw [hgn] at hN ⊢
      rw [hgn] at sn
      clear hgn
      clear Wc
      rename World => Wc
      refine hK.out _ _ hh (fun hHeld => ?_)
      clear hK hh
      try simp only [Act.put, List.setIfInBounds_toArray, List.set_cons_zero, List.set_cons_succ]
      have hD0 := hHeld.size
      refine wpAnyH_ready (rs := [5, 10]) (by kernel_rfl) (by simp) (AllReadyH.cons rfl (fun K hK => ?_) (AllReadyH.cons rfl (fun K hK => ?_) AllReadyH.nil))
      · refine step_append_O (by rfl) 215 rfl _ _ rfl W.heap.size _ ([]) rfl hO _ (l) rfl (HR22.out.below hHeld) (by simp) (by omega) hD0 (fun v5_ Wd ho2 hb2 hg2 hl2 => ?_)
        have sn2 := sn.after (one_lt hN) hl2
        replace hN := one_kept hN hg2 sn
        have hh := hHeld.trans hb2
        clear hHeld hD0 hg2 hl2 hb2 sn hO
        have hO := ho2
        clear ho2
        have sn := sn2
        clear sn2
        clear Wc
        rename World => Wc
        refine hK.out _ _ hh (fun hHeld => ?_)
        clear hK hh
        try simp only [Act.put, List.setIfInBounds_toArray, List.set_cons_zero, List.set_cons_succ]
        have hD0 := hHeld.size
        refine wpAnyH_ready (rs := [8, 10]) (by kernel_rfl) (by simp) (AllReadyH.cons rfl (fun K hK => ?_) (AllReadyH.cons rfl (fun K hK => ?_) AllReadyH.nil))
        · refine step_append_O (by rfl) 218 rfl _ _ rfl W.heap.size _ (([]) ++ (l)) rfl hO _ ([x]) rfl (hN) (by simp only [List.nil_append]; omega) (by simp) hD0 (fun vo Wd ho2 hb2 hg2 hl2 => ?_)
          clear hN sn
          have hh := hHeld.trans hb2
          clear hHeld hD0 hg2 hl2 hb2 hO
          have hO := ho2
          clear ho2
          clear Wc
          rename World => Wc
          refine hK.out _ _ hh (fun hHeld => ?_)
          clear hK hh
          try simp only [Act.put, List.setIfInBounds_toArray, List.set_cons_zero, List.set_cons_succ]
          have hD0 := hHeld.size
          obtain ⟨ao, no, co, rfl⟩ : ∃ a n c, vo = .slice a n c := (by obtain ⟨a', c', e⟩ := hO.row.slice; exact ⟨a', _, c', e⟩)
          refine takeH 9 219 (.agg #[.slice ao no co, .int .i64 t]) calm_np rfl rfl (by kernel_rfl) (by kernel_rfl) (by kernel_rfl) (by rfl) (fun W' hSw => by go_simp) hHeld ?_
          try simp only [Act.put, List.setIfInBounds_toArray, List.set_cons_zero, List.set_cons_succ]
          refine wpAnyH_ready (rs := [10]) (by kernel_rfl) (by simp) (AllReadyH.cons rfl (fun K hK => ?_) AllReadyH.nil)
          go_simp
          have hx := Box.made Wc [.slice none 0 0, .int .i64 0] 24
          have hz := al Wc (.cells #[.slice none 0 0, .int .i64 0] 24)
          have hgx : W.heap.size ≤ Wc.heap.size := hD0
          have sx : SepB Wc.heap.size (.slice ao no co) := OwnN.sep hO (Nat.le_refl _)
          have hh := below_trans hHeld hz
          clear hHeld hD0
          replace hO := hO.below hz
          obtain ⟨Wd, hWd⟩ : ∃ Wq, Wc.alloc (.cells #[.slice none 0 0, .int .i64 0] 24) = Wq := ⟨_, rfl⟩
          have hX : Box Wc.heap.size [.slice none 0 0, .int .i64 0] Wd := hWd ▸ hx
          rw [hWd] at hh ⊢
          rw [hWd] at hO
          clear hWd hz hx
          obtain ⟨gx, hgxe⟩ : ∃ g, Wc.heap.size = g := ⟨_, rfl⟩
          rw [hgxe] at hX hgx ⊢
          rw [hgxe] at sx
          clear hgxe
          clear Wc
          rename World => Wc
          refine hK.out _ _ hh (fun hHeld => ?_)
          clear hK hh
          try simp only [Act.put, List.setIfInBounds_toArray, List.set_cons_zero, List.set_cons_succ]
          have hD0 := hHeld.size
          refine wpAnyH_ready (rs := [11]) (by kernel_rfl) (by simp) (AllReadyH.cons rfl (fun K hK => ?_) AllReadyH.nil)
          obtain ⟨y0, y1⟩ := box2 hX
          obtain ⟨z0, z1⟩ := frz2 hX
          have hsx := hX.1
          go_simp
          have hX2 : Box gx [.slice ao no co, .int .i64 t] _ := box_put (box_put hX 0 (.slice ao no co) (by simp)) 1 (.int .i64 t) (by simp)
          have hRw := hO.row.sep_two (.slice ao no co) (.int .i64 t) sx
          have hO2 := (hO.sep_set (j := 0) (u := .slice ao no co) sx).sep_set (j := 1) (u := .int .i64 t) sx
          have hh := below_two (b := gx) (.slice ao no co) (.int .i64 t) hHeld hgx
          clear hX hO hHeld hD0 y0 y1 z0 z1 hsx
          have hX := hX2
          have hO := hO2
          clear hX2 hO2
          generalize (Wc.setCell ⟨gx, 0, none⟩ (.slice ao no co)).setCell ⟨gx, 1, none⟩ (.int .i64 t) = Wd at *
          clear Wc
          rename World => Wc
          refine hK.out _ _ hh (fun hHeld => ?_)
          clear hK hh
          try simp only [Act.put, List.setIfInBounds_toArray, List.set_cons_zero, List.set_cons_succ]
          refine wpAnyH_done (by kernel_rfl) ?_ _
          refine NoPanic.normal ?_
          exact hQ gx ao no co _ _ _ _ _ _ _ _ _ _ Wc hgx hX (by simpa using hRw) hHeld
        · go_simp
          have hx := Box.made Wc [.slice none 0 0, .int .i64 0] 24
          have hz := al Wc (.cells #[.slice none 0 0, .int .i64 0] 24)
          have hgx : W.heap.size ≤ Wc.heap.size := hD0
          have sx : SepB Wc.heap.size (v5_) := OwnN.sep hO (Nat.le_refl _)
          have hh := below_trans hHeld hz
          clear hHeld hD0
          replace hO := hO.below hz
          replace hN := hN.below hz
          obtain ⟨Wd, hWd⟩ : ∃ Wq, Wc.alloc (.cells #[.slice none 0 0, .int .i64 0] 24) = Wq := ⟨_, rfl⟩
          have hX : Box Wc.heap.size [.slice none 0 0, .int .i64 0] Wd := hWd ▸ hx
          rw [hWd] at hh ⊢
          rw [hWd] at hO
          rw [hWd] at hN
          clear hWd hz hx
          obtain ⟨gx, hgxe⟩ : ∃ g, Wc.heap.size = g := ⟨_, rfl⟩
          rw [hgxe] at hX hgx ⊢
          rw [hgxe] at sx
          clear hgxe
          clear Wc
          rename World => Wc
          refine hK.out _ _ hh (fun hHeld => ?_)
          clear hK hh
          try simp only [Act.put, List.setIfInBounds_toArray, List.set_cons_zero, List.set_cons_succ]
          have hD0 := hHeld.size
          refine wpAnyH_ready (rs := [8]) (by kernel_rfl) (by simp) (AllReadyH.cons rfl (fun K hK => ?_) AllReadyH.nil)
          refine step_append_O (by rfl) 218 rfl _ _ rfl W.heap.size _ (([]) ++ (l)) rfl hO _ ([x]) rfl (hN) (by simp only [List.nil_append]; omega) (by simp) hD0 (fun vo Wd ho2 hb2 hg2 hl2 => ?_)
          have sx2 := sx.after hX.1 hl2
          replace hX := Box.keptN hX hg2 sx
          clear hN sn
          have hh := hHeld.trans hb2
          clear hHeld hD0 hg2 hl2 hb2 sx hO
          have hO := ho2
          clear ho2
          have sx := sx2
          clear sx2
          clear Wc
          rename World => Wc
          refine hK.out _ _ hh (fun hHeld => ?_)
          clear hK hh
          try simp only [Act.put, List.setIfInBounds_toArray, List.set_cons_zero, List.set_cons_succ]
          have hD0 := hHeld.size
          obtain ⟨ao, no, co, rfl⟩ : ∃ a n c, vo = .slice a n c := (by obtain ⟨a', c', e⟩ := hO.row.slice; exact ⟨a', _, c', e⟩)
          refine takeH 9 219 (.agg #[.slice ao no co, .int .i64 t]) calm_np rfl rfl (by kernel_rfl) (by kernel_rfl) (by kernel_rfl) (by rfl) (fun W' hSw => by go_simp) hHeld ?_
          try simp only [Act.put, List.setIfInBounds_toArray, List.set_cons_zero, List.set_cons_succ]
          refine wpAnyH_ready (rs := [11]) (by kernel_rfl) (by simp) (AllReadyH.cons rfl (fun K hK => ?_) AllReadyH.nil)
          obtain ⟨y0, y1⟩ := box2 hX
          obtain ⟨z0, z1⟩ := frz2 hX
          have hsx := hX.1
          go_simp
          have hX2 : Box gx [.slice ao no co, .int .i64 t] _ := box_put (box_put hX 0 (.slice ao no co) (by simp)) 1 (.int .i64 t) (by simp)
          have hRw := hO.row.sep_two (.slice ao no co) (.int .i64 t) sx
          have hO2 := (hO.sep_set (j := 0) (u := .slice ao no co) sx).sep_set (j := 1) (u := .int .i64 t) sx
          have hh := below_two (b := gx) (.slice ao no co) (.int .i64 t) hHeld hgx
          clear hX hO hHeld hD0 y0 y1 z0 z1 hsx
          have hX := hX2
          have hO := hO2
          clear hX2 hO2
          generalize (Wc.setCell ⟨gx, 0, none⟩ (.slice ao no co)).setCell ⟨gx, 1, none⟩ (.int .i64 t) = Wd at *
          clear Wc
          rename World => Wc
          refine hK.out _ _ hh (fun hHeld => ?_)
          clear hK hh
          try simp only [Act.put, List.setIfInBounds_toArray, List.set_cons_zero, List.set_cons_succ]
          refine wpAnyH_done (by kernel_rfl) ?_ _
          refine NoPanic.normal ?_
          exact hQ gx ao no co _ _ _ _ _ _ _ _ _ _ Wc hgx hX (by simpa using hRw) hHeld
      · go_simp
        have hx := Box.made Wc [.slice none 0 0, .int .i64 0] 24
        have hz := al Wc (.cells #[.slice none 0 0, .int .i64 0] 24)
        have hgx : W.heap.size ≤ Wc.heap.size := hD0
        have sx : SepB Wc.heap.size (.slice (some ⟨go, 0, none⟩) 0 0) := OwnN.sep hO (Nat.le_refl _)
        have hh := below_trans hHeld hz
        clear hHeld hD0
        replace hO := hO.below hz
        replace hN := hN.below hz
        obtain ⟨Wd, hWd⟩ : ∃ Wq, Wc.alloc (.cells #[.slice none 0 0, .int .i64 0] 24) = Wq := ⟨_, rfl⟩
        have hX : Box Wc.heap.size [.slice none 0 0, .int .i64 0] Wd := hWd ▸ hx
        rw [hWd] at hh ⊢
        rw [hWd] at hO
        rw [hWd] at hN
        clear hWd hz hx
        obtain ⟨gx, hgxe⟩ : ∃ g, Wc.heap.size = g := ⟨_, rfl⟩
        rw [hgxe] at hX hgx ⊢
        rw [hgxe] at sx
        clear hgxe
        clear Wc
        rename World => Wc
        refine hK.out _ _ hh (fun hHeld => ?_)
        clear hK hh
        try simp only [Act.put, List.setIfInBounds_toArray, List.set_cons_zero, List.set_cons_succ]
        have hD0 := hHeld.size
        refine wpAnyH_ready (rs := [5]) (by kernel_rfl) (by simp) (AllReadyH.cons rfl (fun K hK => ?_) AllReadyH.nil)
        refine step_append_O (by rfl) 215 rfl _ _ rfl W.heap.size _ ([]) rfl hO _ (l) rfl (HR22.out.below hHeld) (by simp) (by omega) hD0 (fun v5_ Wd ho2 hb2 hg2 hl2 => ?_)
        have sx2 := sx.after hX.1 hl2
        replace hX := Box.keptN hX hg2 sx
        have sn2 := sn.after (one_lt hN) hl2
        replace hN := one_kept hN hg2 sn
        have hh := hHeld.trans hb2
        clear hHeld hD0 hg2 hl2 hb2 sx sn hO
        have hO := ho2
        clear ho2
        have sx := sx2
        clear sx2
        have sn := sn2
        clear sn2
        clear Wc
        rename World => Wc
        refine hK.out _ _ hh (fun hHeld => ?_)
        clear hK hh
        try simp only [Act.put, List.setIfInBounds_toArray, List.set_cons_zero, List.set_cons_succ]
        have hD0 := hHeld.size
        refine wpAnyH_ready (rs := [8]) (by kernel_rfl) (by simp) (AllReadyH.cons rfl (fun K hK => ?_) AllReadyH.nil)
        refine step_append_O (by rfl) 218 rfl _ _ rfl W.heap.size _ (([]) ++ (l)) rfl hO _ ([x]) rfl (hN) (by simp only [List.nil_append]; omega) (by simp) hD0 (fun vo Wd ho2 hb2 hg2 hl2 => ?_)
        have sx2 := sx.after hX.1 hl2
        replace hX := Box.keptN hX hg2 sx
        clear hN sn
        have hh := hHeld.trans hb2
        clear hHeld hD0 hg2 hl2 hb2 sx hO
        have hO := ho2
        clear ho2
        have sx := sx2
        clear sx2
        clear Wc
        rename World => Wc
        refine hK.out _ _ hh (fun hHeld => ?_)
        clear hK hh
        try simp only [Act.put, List.setIfInBounds_toArray, List.set_cons_zero, List.set_cons_succ]
        have hD0 := hHeld.size
        obtain ⟨ao, no, co, rfl⟩ : ∃ a n c, vo = .slice a n c := (by obtain ⟨a', c', e⟩ := hO.row.slice; exact ⟨a', _, c', e⟩)
        refine takeH 9 219 (.agg #[.slice ao no co, .int .i64 t]) calm_np rfl rfl (by kernel_rfl) (by kernel_rfl) (by kernel_rfl) (by rfl) (fun W' hSw => by go_simp) hHeld ?_
        try simp only [Act.put, List.setIfInBounds_toArray, List.set_cons_zero, List.set_cons_succ]
        refine wpAnyH_ready (rs := [11]) (by kernel_rfl) (by simp) (AllReadyH.cons rfl (fun K hK => ?_) AllReadyH.nil)
        obtain ⟨y0, y1⟩ := box2 hX
        obtain ⟨z0, z1⟩ := frz2 hX
        have hsx := hX.1
        go_simp
        have hX2 : Box gx [.slice ao no co, .int .i64 t] _ := box_put (box_put hX 0 (.slice ao no co) (by simp)) 1 (.int .i64 t) (by simp)
        have hRw := hO.row.sep_two (.slice ao no co) (.int .i64 t) sx
        have hO2 := (hO.sep_set (j := 0) (u := .slice ao no co) sx).sep_set (j := 1) (u := .int .i64 t) sx
        have hh := below_two (b := gx) (.slice ao no co) (.int .i64 t) hHeld hgx
        clear hX hO hHeld hD0 y0 y1 z0 z1 hsx
        have hX := hX2
        have hO := hO2
        clear hX2 hO2
        generalize (Wc.setCell ⟨gx, 0, none⟩ (.slice ao no co)).setCell ⟨gx, 1, none⟩ (.int .i64 t) = Wd at *
        clear Wc
        rename World => Wc
        refine hK.out _ _ hh (fun hHeld => ?_)
        clear hK hh
        try simp only [Act.put, List.setIfInBounds_toArray, List.set_cons_zero, List.set_cons_succ]
        refine wpAnyH_done (by kernel_rfl) ?_ _
        refine NoPanic.normal ?_
        exact hQ gx ao no co _ _ _ _ _ _ _ _ _ _ Wc hgx hX (by simpa using hRw) hHeld
    · go_simp
      have hx := Box.made Wc [.slice none 0 0, .int .i64 0] 24
      have hz := al Wc (.cells #[.slice none 0 0, .int .i64 0] 24)
      have hgx : W.heap.size ≤ Wc.heap.size := hD0
      have sx : SepB Wc.heap.size (.slice (some ⟨go, 0, none⟩) 0 0) := OwnN.sep hO (Nat.le_refl _)
      have hh := below_trans hHeld hz
      clear hHeld hD0
      replace hO := hO.below hz
      obtain ⟨Wd, hWd⟩ : ∃ Wq, Wc.alloc (.cells #[.slice none 0 0, .int .i64 0] 24) = Wq := ⟨_, rfl⟩
      have hX : Box Wc.heap.size [.slice none 0 0, .int .i64 0] Wd := hWd ▸ hx
      rw [hWd] at hh ⊢
      rw [hWd] at hO
      clear hWd hz hx
      obtain ⟨gx, hgxe⟩ : ∃ g, Wc.heap.size = g := ⟨_, rfl⟩
      rw [hgxe] at hX hgx ⊢
      rw [hgxe] at sx
      clear hgxe
      clear Wc
      rename World => Wc
      refine hK.out _ _ hh (fun hHeld => ?_)
      clear hK hh
      try simp only [Act.put, List.setIfInBounds_toArray, List.set_cons_zero, List.set_cons_succ]
      have hD0 := hHeld.size
      refine wpAnyH_ready (rs := [5, 7]) (by kernel_rfl) (by simp) (AllReadyH.cons rfl (fun K hK => ?_) (AllReadyH.cons rfl (fun K hK => ?_) AllReadyH.nil))
      · refine step_append_O (by rfl) 215 rfl _ _ rfl W.heap.size _ ([]) rfl hO _ (l) rfl (HR22.out.below hHeld) (by simp) (by omega) hD0 (fun v5_ Wd ho2 hb2 hg2 hl2 => ?_)
        have sx2 := sx.after hX.1 hl2
        replace hX := Box.keptN hX hg2 sx
        have hh := hHeld.trans hb2
        clear hHeld hD0 hg2 hl2 hb2 sx hO
        have hO := ho2
        clear ho2
        have sx := sx2
        clear sx2
        clear Wc
        rename World => Wc
        refine hK.out _ _ hh (fun hHeld => ?_)
        clear hK hh
        try simp only [Act.put, List.setIfInBounds_toArray, List.set_cons_zero, List.set_cons_succ]
        have hD0 := hHeld.size
        refine wpAnyH_ready (rs := [7]) (by kernel_rfl) (by simp) (AllReadyH.cons rfl (fun K hK => ?_) AllReadyH.nil)
        go_simp
        have hone := NRow.one Wc (x)
        have hz := al Wc (.cells #[.int .i64 x.n, .bool x.b, .int .i64 x.y, .int .i64 x.k, .int .i64 x.o, .bool x.s] 26)
        have sn : SepB Wc.heap.size (v5_) := OwnN.sep hO (Nat.le_refl _)
        have hh := below_trans hHeld hz
        clear hHeld hD0
        replace hO := hO.below hz
        replace hX := hX.below hz
        obtain ⟨Wd, hWd⟩ : ∃ Wq, Wc.alloc (.cells #[.int .i64 x.n, .bool x.b, .int .i64 x.y, .int .i64 x.k, .int .i64 x.o, .bool x.s] 26) = Wq := ⟨_, rfl⟩
        have hN := hone
        rw [hWd] at hN hh ⊢
        rw [hWd] at hO
        rw [hWd] at hX
        clear hWd hz hone
        obtain ⟨gn, hgn⟩ : ∃ g, Wc.heap.size = g := ⟨_, rfl⟩
        rw [hgn] at hN ⊢
        rw [hgn] at sn
        clear hgn
        clear Wc
        rename World => Wc
        refine hK.out _ _ hh (fun hHeld => ?_)
        clear hK hh
        try simp only [Act.put, List.setIfInBounds_toArray, List.set_cons_zero, List.set_cons_succ]
        have hD0 := hHeld.size
        refine wpAnyH_ready (rs := [8]) (by kernel_rfl) (by simp) (AllReadyH.cons rfl (fun K hK => ?_) AllReadyH.nil)
        refine step_append_O (by rfl) 218 rfl _ _ rfl W.heap.size _ (([]) ++ (l)) rfl hO _ ([x]) rfl (hN) (by simp only [List.nil_append]; omega) (by simp) hD0 (fun vo Wd ho2 hb2 hg2 hl2 => ?_)
        have sx2 := sx.after hX.1 hl2
        replace hX := Box.keptN hX hg2 sx
        clear hN sn
        have hh := hHeld.trans hb2
        clear hHeld hD0 hg2 hl2 hb2 sx hO
        have hO := ho2
        clear ho2
        have sx := sx2
        clear sx2
        clear Wc
        rename World => Wc
        refine hK.out _ _ hh (fun hHeld => ?_)
        clear hK hh
        try simp only [Act.put, List.setIfInBounds_toArray, List.set_cons_zero, List.set_cons_succ]
        have hD0 := hHeld.size
        obtain ⟨ao, no, co, rfl⟩ : ∃ a n c, vo = .slice a n c := (by obtain ⟨a', c', e⟩ := hO.row.slice; exact ⟨a', _, c', e⟩)
        refine takeH 9 219 (.agg #[.slice ao no co, .int .i64 t]) calm_np rfl rfl (by kernel_rfl) (by kernel_rfl) (by kernel_rfl) (by rfl) (fun W' hSw => by go_simp) hHeld ?_
        try simp only [Act.put, List.setIfInBounds_toArray, List.set_cons_zero, List.set_cons_succ]
        refine wpAnyH_ready (rs := [11]) (by kernel_rfl) (by simp) (AllReadyH.cons rfl (fun K hK => ?_) AllReadyH.nil)
        obtain ⟨y0, y1⟩ := box2 hX
        obtain ⟨z0, z1⟩ := frz2 hX
        have hsx := hX.1
        go_simp
        have hX2 : Box gx [.slice ao no co, .int .i64 t] _ := box_put (box_put hX 0 (.slice ao no co) (by simp)) 1 (.int .i64 t) (by simp)
        have hRw := hO.row.sep_two (.slice ao no co) (.int .i64 t) sx
        have hO2 := (hO.sep_set (j := 0) (u := .slice ao no co) sx).sep_set (j := 1) (u := .int .i64 t) sx
        have hh := below_two (b := gx) (.slice ao no co) (.int .i64 t) hHeld hgx
        clear hX hO hHeld hD0 y0 y1 z0 z1 hsx
        have hX := hX2
        have hO := hO2
        clear hX2 hO2
        generalize (Wc.setCell ⟨gx, 0, none⟩ (.slice ao no co)).setCell ⟨gx, 1, none⟩ (.int .i64 t) = Wd at *
        clear Wc
        rename World => Wc
        refine hK.out _ _ hh (fun hHeld => ?_)
        clear hK hh
        try simp only [Act.put, List.setIfInBounds_toArray, List.set_cons_zero, List.set_cons_succ]
        refine wpAnyH_done (by kernel_rfl) ?_ _
        refine NoPanic.normal ?_
        exact hQ gx ao no co _ _ _ _ _ _ _ _ _ _ Wc hgx hX (by simpa using hRw) hHeld
      · go_simp
        have hone := NRow.one Wc (x)
        have hz := al Wc (.cells #[.int .i64 x.n, .bool x.b, .int .i64 x.y, .int .i64 x.k, .int .i64 x.o, .bool x.s] 26)
        have sn : SepB Wc.heap.size (.slice (some ⟨go, 0, none⟩) 0 0) := OwnN.sep hO (Nat.le_refl _)
        have hh := below_trans hHeld hz
        clear hHeld hD0
        replace hO := hO.below hz
        replace hX := hX.below hz
        obtain ⟨Wd, hWd⟩ : ∃ Wq, Wc.alloc (.cells #[.int .i64 x.n, .bool x.b, .int .i64 x.y, .int .i64 x.k, .int .i64 x.o, .bool x.s] 26) = Wq := ⟨_, rfl⟩
        have hN := hone
        rw [hWd] at hN hh ⊢
        rw [hWd] at hO
        rw [hWd] at hX
        clear hWd hz hone
        obtain ⟨gn, hgn⟩ : ∃ g, Wc.heap.size = g := ⟨_, rfl⟩
        rw [hgn] at hN ⊢
        rw [hgn] at sn
        clear hgn
        clear Wc
        rename World => Wc
        refine hK.out _ _ hh (fun hHeld => ?_)
        clear hK hh
        try simp only [Act.put, List.setIfInBounds_toArray, List.set_cons_zero, List.set_cons_succ]
        have hD0 := hHeld.size
        refine wpAnyH_ready (rs := [5]) (by kernel_rfl) (by simp) (AllReadyH.cons rfl (fun K hK => ?_) AllReadyH.nil)
        refine step_append_O (by rfl) 215 rfl _ _ rfl W.heap.size _ ([]) rfl hO _ (l) rfl (HR22.out.below hHeld) (by simp) (by omega) hD0 (fun v5_ Wd ho2 hb2 hg2 hl2 => ?_)
        have sx2 := sx.after hX.1 hl2
        replace hX := Box.keptN hX hg2 sx
        have sn2 := sn.after (one_lt hN) hl2
        replace hN := one_kept hN hg2 sn
        have hh := hHeld.trans hb2
        clear hHeld hD0 hg2 hl2 hb2 sx sn hO
        have hO := ho2
        clear ho2
        have sx := sx2
        clear sx2
        have sn := sn2
        clear sn2
        clear Wc
        rename World => Wc
        refine hK.out _ _ hh (fun hHeld => ?_)
        clear hK hh
        try simp only [Act.put, List.setIfInBounds_toArray, List.set_cons_zero, List.set_cons_succ]
        have hD0 := hHeld.size
        refine wpAnyH_ready (rs := [8]) (by kernel_rfl) (by simp) (AllReadyH.cons rfl (fun K hK => ?_) AllReadyH.nil)
        refine step_append_O (by rfl) 218 rfl _ _ rfl W.heap.size _ (([]) ++ (l)) rfl hO _ ([x]) rfl (hN) (by simp only [List.nil_append]; omega) (by simp) hD0 (fun vo Wd ho2 hb2 hg2 hl2 => ?_)
        have sx2 := sx.after hX.1 hl2
        replace hX := Box.keptN hX hg2 sx
        clear hN sn
        have hh := hHeld.trans hb2
        clear hHeld hD0 hg2 hl2 hb2 sx hO
        have hO := ho2
        clear ho2
        have sx := sx2
        clear sx2
        clear Wc
        rename World => Wc
        refine hK.out _ _ hh (fun hHeld => ?_)
        clear hK hh
        try simp only [Act.put, List.setIfInBounds_toArray, List.set_cons_zero, List.set_cons_succ]
        have hD0 := hHeld.size
        obtain ⟨ao, no, co, rfl⟩ : ∃ a n c, vo = .slice a n c := (by obtain ⟨a', c', e⟩ := hO.row.slice; exact ⟨a', _, c', e⟩)
        refine takeH 9 219 (.agg #[.slice ao no co, .int .i64 t]) calm_np rfl rfl (by kernel_rfl) (by kernel_rfl) (by kernel_rfl) (by rfl) (fun W' hSw => by go_simp) hHeld ?_
        try simp only [Act.put, List.setIfInBounds_toArray, List.set_cons_zero, List.set_cons_succ]
        refine wpAnyH_ready (rs := [11]) (by kernel_rfl) (by simp) (AllReadyH.cons rfl (fun K hK => ?_) AllReadyH.nil)
        obtain ⟨y0, y1⟩ := box2 hX
        obtain ⟨z0, z1⟩ := frz2 hX
        have hsx := hX.1
        go_simp
        have hX2 : Box gx [.slice ao no co, .int .i64 t] _ := box_put (box_put hX 0 (.slice ao no co) (by simp)) 1 (.int .i64 t) (by simp)
        have hRw := hO.row.sep_two (.slice ao no co) (.int .i64 t) sx
        have hO2 := (hO.sep_set (j := 0) (u := .slice ao no co) sx).sep_set (j := 1) (u := .int .i64 t) sx
        have hh := below_two (b := gx) (.slice ao no co) (.int .i64 t) hHeld hgx
        clear hX hO hHeld hD0 y0 y1 z0 z1 hsx
        have hX := hX2
        have hO := hO2
        clear hX2 hO2
        generalize (Wc.setCell ⟨gx, 0, none⟩ (.slice ao no co)).setCell ⟨gx, 1, none⟩ (.int .i64 t) = Wd at *
        clear Wc
        rename World => Wc
        refine hK.out _ _ hh (fun hHeld => ?_)
        clear hK hh
        try simp only [Act.put, List.setIfInBounds_toArray, List.set_cons_zero, List.set_cons_succ]
        refine wpAnyH_done (by kernel_rfl) ?_ _
        refine NoPanic.normal ?_
        exact hQ gx ao no co _ _ _ _ _ _ _ _ _ _ Wc hgx hX (by simpa using hRw) hHeld
  · go_simp
    have hone := NRow.one Wc (x)
    have hz := al Wc (.cells #[.int .i64 x.n, .bool x.b, .int .i64 x.y, .int .i64 x.k, .int .i64 x.o, .bool x.s] 26)
    have hh := below_trans hHeld hz
    clear hHeld hD0
    obtain ⟨Wd, hWd⟩ : ∃ Wq, Wc.alloc (.cells #[.int .i64 x.n, .bool x.b, .int .i64 x.y, .int .i64 x.k, .int .i64 x.o, .bool x.s] 26) = Wq := ⟨_, rfl⟩
    have hN := hone
    rw [hWd] at hN hh ⊢
    clear hWd hz hone
    obtain ⟨gn, hgn⟩ : ∃ g, Wc.heap.size = g := ⟨_, rfl⟩
    rw [hgn] at hN ⊢
    clear hgn
    clear Wc
    rename World => Wc
    refine hK.out _ _ hh (fun hHeld => ?_)
    clear hK hh
    try simp only [Act.put, List.setIfInBounds_toArray, List.set_cons_zero, List.set_cons_succ]
    have hD0 := hHeld.size
    refine wpAnyH_ready (rs := [2, 10]) (by kernel_rfl) (by simp) (AllReadyH.cons rfl (fun K hK => ?_) (AllReadyH.cons rfl (fun K hK => ?_) AllReadyH.nil))
    · go_simp
      have ho := OwnN.empty Wc (B := W.heap.size) hD0
      have hz := al Wc (.cells #[] 26)
      have sn : SepB gn (.slice (some ⟨Wc.heap.size, 0, none⟩) 0 0) := SepB.under (one_lt hN)
      have hh := below_trans hHeld hz
      clear hHeld hD0
      replace hN := hN.below hz
      obtain ⟨Wd, hWd⟩ : ∃ Wq, Wc.alloc (.cells #[] 26) = Wq := ⟨_, rfl⟩
      rw [hWd] at ho hh ⊢
      rw [hWd] at hN
      clear hWd hz
      obtain ⟨go, hgo⟩ : ∃ g, Wc.heap.size = g := ⟨_, rfl⟩
      rw [hgo] at ho ⊢
      rw [hgo] at sn
      clear hgo
      clear Wc
      rename World => Wc
      have hO := ho
      clear ho
      refine hK.out _ _ hh (fun hHeld => ?_)
      clear hK hh
      try simp only [Act.put, List.setIfInBounds_toArray, List.set_cons_zero, List.set_cons_succ]
      have hD0 := hHeld.size
      refine wpAnyH_ready (rs := [5, 10]) (by kernel_rfl) (by simp) (AllReadyH.cons rfl (fun K hK => ?_) (AllReadyH.cons rfl (fun K hK => ?_) AllReadyH.nil))
      · refine step_append_O (by rfl) 215 rfl _ _ rfl W.heap.size _ ([]) rfl hO _ (l) rfl (HR22.out.below hHeld) (by simp) (by omega) hD0 (fun v5_ Wd ho2 hb2 hg2 hl2 => ?_)
        have sn2 := sn.after (one_lt hN) hl2
        replace hN := one_kept hN hg2 sn
        have hh := hHeld.trans hb2
        clear hHeld hD0 hg2 hl2 hb2 sn hO
        have hO := ho2
        clear ho2
        have sn := sn2
        clear sn2
        clear Wc
        rename World => Wc
        refine hK.out _ _ hh (fun hHeld => ?_)
        clear hK hh
        try simp only [Act.put, List.setIfInBounds_toArray, List.set_cons_zero, List.set_cons_succ]
        have hD0 := hHeld.size
        refine wpAnyH_ready (rs := [8, 10]) (by kernel_rfl) (by simp) (AllReadyH.cons rfl (fun K hK => ?_) (AllReadyH.cons rfl (fun K hK => ?_) AllReadyH.nil))
        · refine step_append_O (by rfl) 218 rfl _ _ rfl W.heap.size _ (([]) ++ (l)) rfl hO _ ([x]) rfl (hN) (by simp only [List.nil_append]; omega) (by simp) hD0 (fun vo Wd ho2 hb2 hg2 hl2 => ?_)
          clear hN sn
          have hh := hHeld.trans hb2
          clear hHeld hD0 hg2 hl2 hb2 hO
          have hO := ho2
          clear ho2
          clear Wc
          rename World => Wc
          refine hK.out _ _ hh (fun hHeld => ?_)
          clear hK hh
          try simp only [Act.put, List.setIfInBounds_toArray, List.set_cons_zero, List.set_cons_succ]
          have hD0 := hHeld.size
          obtain ⟨ao, no, co, rfl⟩ : ∃ a n c, vo = .slice a n c := (by obtain ⟨a', c', e⟩ := hO.row.slice; exact ⟨a', _, c', e⟩)
          refine takeH 9 219 (.agg #[.slice ao no co, .int .i64 t]) calm_np rfl rfl (by kernel_rfl) (by kernel_rfl) (by kernel_rfl) (by rfl) (fun W' hSw => by go_simp) hHeld ?_
          try simp only [Act.put, List.setIfInBounds_toArray, List.set_cons_zero, List.set_cons_succ]
          refine wpAnyH_ready (rs := [10]) (by kernel_rfl) (by simp) (AllReadyH.cons rfl (fun K hK => ?_) AllReadyH.nil)
          go_simp
          have hx := Box.made Wc [.slice none 0 0, .int .i64 0] 24
          have hz := al Wc (.cells #[.slice none 0 0, .int .i64 0] 24)
          have hgx : W.heap.size ≤ Wc.heap.size := hD0
          have sx : SepB Wc.heap.size (.slice ao no co) := OwnN.sep hO (Nat.le_refl _)
          have hh := below_trans hHeld hz
          clear hHeld hD0
          replace hO := hO.below hz
          obtain ⟨Wd, hWd⟩ : ∃ Wq, Wc.alloc (.cells #[.slice none 0 0, .int .i64 0] 24) = Wq := ⟨_, rfl⟩
          have hX : Box Wc.heap.size [.slice none 0 0, .int .i64 0] Wd := hWd ▸ hx
          rw [hWd] at hh ⊢
          rw [hWd] at hO
          clear hWd hz hx
          obtain ⟨gx, hgxe⟩ : ∃ g, Wc.heap.size = g := ⟨_, rfl⟩
          rw [hgxe] at hX hgx ⊢
          rw [hgxe] at sx
          clear hgxe
          clear Wc
          rename World => Wc
          refine hK.out _ _ hh (fun hHeld => ?_)
          clear hK hh
          try simp only [Act.put, List.setIfInBounds_toArray, List.set_cons_zero, List.set_cons_succ]
          have hD0 := hHeld.size
          refine wpAnyH_ready (rs := [11]) (by kernel_rfl) (by simp) (AllReadyH.cons rfl (fun K hK => ?_) AllReadyH.nil)
          obtain ⟨y0, y1⟩ := box2 hX
          obtain ⟨z0, z1⟩ := frz2 hX
          have hsx := hX.1
          go_simp
          have hX2 : Box gx [.slice ao no co, .int .i64 t] _ := box_put (box_put hX 0 (.slice ao no co) (by simp)) 1 (.int .i64 t) (by simp)
          have hRw := hO.row.sep_two (.slice ao no co) (.int .i64 t) sx
          have hO2 := (hO.sep_set (j := 0) (u := .slice ao no co) sx).sep_set (j := 1) (u := .int .i64 t) sx
          have hh := below_two (b := gx) (.slice ao no co) (.int .i64 t) hHeld hgx
          clear hX hO hHeld hD0 y0 y1 z0 z1 hsx
          have hX := hX2
          have hO := hO2
          clear hX2 hO2
          generalize (Wc.setCell ⟨gx, 0, none⟩ (.slice ao no co)).setCell ⟨gx, 1, none⟩ (.int .i64 t) = Wd at *
          clear Wc
          rename World => Wc
          refine hK.out _ _ hh (fun hHeld => ?_)
          clear hK hh
          try simp only [Act.put, List.setIfInBounds_toArray, List.set_cons_zero, List.set_cons_succ]
          refine wpAnyH_done (by kernel_rfl) ?_ _
          refine NoPanic.normal ?_
          exact hQ gx ao no co _ _ _ _ _ _ _ _ _ _ Wc hgx hX (by simpa using hRw) hHeld
        · go_simp
          have hx := Box.made Wc [.slice none 0 0, .int .i64 0] 24
          have hz := al Wc (.cells #[.slice none 0 0, .int .i64 0] 24)
          have hgx : W.heap.size ≤ Wc.heap.size := hD0
          have sx : SepB Wc.heap.size (v5_) := OwnN.sep hO (Nat.le_refl _)
          have hh := below_trans hHeld hz
          clear hHeld hD0
          replace hO := hO.below hz
          replace hN := hN.below hz
          obtain ⟨Wd, hWd⟩ : ∃ Wq, Wc.alloc (.cells #[.slice none 0 0, .int .i64 0] 24) = Wq := ⟨_, rfl⟩
          have hX : Box Wc.heap.size [.slice none 0 0, .int .i64 0] Wd := hWd ▸ hx
          rw [hWd] at hh ⊢
          rw [hWd] at hO
          rw [hWd] at hN
          clear hWd hz hx
          obtain ⟨gx, hgxe⟩ : ∃ g, Wc.heap.size = g := ⟨_, rfl⟩
          rw [hgxe] at hX hgx ⊢
          rw [hgxe] at sx
          clear hgxe
          clear Wc
          rename World => Wc
          refine hK.out _ _ hh (fun hHeld => ?_)
          clear hK hh
          try simp only [Act.put, List.setIfInBounds_toArray, List.set_cons_zero, List.set_cons_succ]
          have hD0 := hHeld.size
          refine wpAnyH_ready (rs := [8]) (by kernel_rfl) (by simp) (AllReadyH.cons rfl (fun K hK => ?_) AllReadyH.nil)
          refine step_append_O (by rfl) 218 rfl _ _ rfl W.heap.size _ (([]) ++ (l)) rfl hO _ ([x]) rfl (hN) (by simp only [List.nil_append]; omega) (by simp) hD0 (fun vo Wd ho2 hb2 hg2 hl2 => ?_)
          have sx2 := sx.after hX.1 hl2
          replace hX := Box.keptN hX hg2 sx
          clear hN sn
          have hh := hHeld.trans hb2
          clear hHeld hD0 hg2 hl2 hb2 sx hO
          have hO := ho2
          clear ho2
          have sx := sx2
          clear sx2
          clear Wc
          rename World => Wc
          refine hK.out _ _ hh (fun hHeld => ?_)
          clear hK hh
          try simp only [Act.put, List.setIfInBounds_toArray, List.set_cons_zero, List.set_cons_succ]
          have hD0 := hHeld.size
          obtain ⟨ao, no, co, rfl⟩ : ∃ a n c, vo = .slice a n c := (by obtain ⟨a', c', e⟩ := hO.row.slice; exact ⟨a', _, c', e⟩)
          refine takeH 9 219 (.agg #[.slice ao no co, .int .i64 t]) calm_np rfl rfl (by kernel_rfl) (by kernel_rfl) (by kernel_rfl) (by rfl) (fun W' hSw => by go_simp) hHeld ?_
          try simp only [Act.put, List.setIfInBounds_toArray, List.set_cons_zero, List.set_cons_succ]
          refine wpAnyH_ready (rs := [11]) (by kernel_rfl) (by simp) (AllReadyH.cons rfl (fun K hK => ?_) AllReadyH.nil)
          obtain ⟨y0, y1⟩ := box2 hX
          obtain ⟨z0, z1⟩ := frz2 hX
          have hsx := hX.1
          go_simp
          have hX2 : Box gx [.slice ao no co, .int .i64 t] _ := box_put (box_put hX 0 (.slice ao no co) (by simp)) 1 (.int .i64 t) (by simp)
          have hRw := hO.row.sep_two (.slice ao no co) (.int .i64 t) sx
          have hO2 := (hO.sep_set (j := 0) (u := .slice ao no co) sx).sep_set (j := 1) (u := .int .i64 t) sx
          have hh := below_two (b := gx) (.slice ao no co) (.int .i64 t) hHeld hgx
          clear hX hO hHeld hD0 y0 y1 z0 z1 hsx
          have hX := hX2
          have hO := hO2
          clear hX2 hO2
          generalize (Wc.setCell ⟨gx, 0, none⟩ (.slice ao no co)).setCell ⟨gx, 1, none⟩ (.int .i64 t) = Wd at *
          clear Wc
          rename World => Wc
          refine hK.out _ _ hh (fun hHeld => ?_)
          clear hK hh
          try simp only [Act.put, List.setIfInBounds_toArray, List.set_cons_zero, List.set_cons_succ]
          refine wpAnyH_done (by kernel_rfl) ?_ _
          refine NoPanic.normal ?_
          exact hQ gx ao no co _ _ _ _ _ _ _ _ _ _ Wc hgx hX (by simpa using hRw) hHeld
      · go_simp
        have hx := Box.made Wc [.slice none 0 0, .int .i64 0] 24
        have hz := al Wc (.cells #[.slice none 0 0, .int .i64 0] 24)
        have hgx : W.heap.size ≤ Wc.heap.size := hD0
        have sx : SepB Wc.heap.size (.slice (some ⟨go, 0, none⟩) 0 0) := OwnN.sep hO (Nat.le_refl _)
        have hh := below_trans hHeld hz
        clear hHeld hD0
        replace hO := hO.below hz
        replace hN := hN.below hz
        obtain ⟨Wd, hWd⟩ : ∃ Wq, Wc.alloc (.cells #[.slice none 0 0, .int .i64 0] 24) = Wq := ⟨_, rfl⟩
        have hX : Box Wc.heap.size [.slice none 0 0, .int .i64 0] Wd := hWd ▸ hx
        rw [hWd] at hh ⊢
        rw [hWd] at hO
        rw [hWd] at hN
        clear hWd hz hx
        obtain ⟨gx, hgxe⟩ : ∃ g, Wc.heap.size = g := ⟨_, rfl⟩
        rw [hgxe] at hX hgx ⊢
        rw [hgxe] at sx
        clear hgxe
        clear Wc
        rename World => Wc
        refine hK.out _ _ hh (fun hHeld => ?_)
        clear hK hh
        try simp only [Act.put, List.setIfInBounds_toArray, List.set_cons_zero, List.set_cons_succ]
        have hD0 := hHeld.size
        refine wpAnyH_ready (rs := [5]) (by kernel_rfl) (by simp) (AllReadyH.cons rfl (fun K hK => ?_) AllReadyH.nil)
        refine step_append_O (by rfl) 215 rfl _ _ rfl W.heap.size _ ([]) rfl hO _ (l) rfl (HR22.out.below hHeld) (by simp) (by omega) hD0 (fun v5_ Wd ho2 hb2 hg2 hl2 => ?_)
        have sx2 := sx.after hX.1 hl2
        replace hX := Box.keptN hX hg2 sx
        have sn2 := sn.after (one_lt hN) hl2
        replace hN := one_kept hN hg2 sn
        have hh := hHeld.trans hb2
        clear hHeld hD0 hg2 hl2 hb2 sx sn hO
        have hO := ho2
        clear ho2
        have sx := sx2
        clear sx2
        have sn := sn2
        clear sn2
        clear Wc
        rename World => Wc
        refine hK.out _ _ hh (fun hHeld => ?_)
        clear hK hh
        try simp only [Act.put, List.setIfInBounds_toArray, List.set_cons_zero, List.set_cons_succ]
        have hD0 := hHeld.size
        refine wpAnyH_ready (rs := [8]) (by kernel_rfl) (by simp) (AllReadyH.cons rfl (fun K hK => ?_) AllReadyH.nil)
        refine step_append_O (by rfl) 218 rfl _ _ rfl W.heap.size _ (([]) ++ (l)) rfl hO _ ([x]) rfl (hN) (by simp only [List.nil_append]; omega) (by simp) hD0 (fun vo Wd ho2 hb2 hg2 hl2 => ?_)
        have sx2 := sx.after hX.1 hl2
        replace hX := Box.keptN hX hg2 sx
        clear hN sn
        have hh := hHeld.trans hb2
        clear hHeld hD0 hg2 hl2 hb2 sx hO
        have hO := ho2
        clear ho2
        have sx := sx2
        clear sx2
        clear Wc
        rename World => Wc
        refine hK.out _ _ hh (fun hHeld => ?_)
        clear hK hh
        try simp only [Act.put, List.setIfInBounds_toArray, List.set_cons_zero, List.set_cons_succ]
        have hD0 := hHeld.size
        obtain ⟨ao, no, co, rfl⟩ : ∃ a n c, vo = .slice a n c := (by obtain ⟨a', c', e⟩ := hO.row.slice; exact ⟨a', _, c', e⟩)
        refine takeH 9 219 (.agg #[.slice ao no co, .int .i64 t]) calm_np rfl rfl (by kernel_rfl) (by kernel_rfl) (by kernel_rfl) (by rfl) (fun W' hSw => by go_simp) hHeld ?_
        try simp only [Act.put, List.setIfInBounds_toArray, List.set_cons_zero, List.set_cons_succ]
        refine wpAnyH_ready (rs := [11]) (by kernel_rfl) (by simp) (AllReadyH.cons rfl (fun K hK => ?_) AllReadyH.nil)
        obtain ⟨y0, y1⟩ := box2 hX
        obtain ⟨z0, z1⟩ := frz2 hX
        have hsx := hX.1
        go_simp
        have hX2 : Box gx [.slice ao no co, .int .i64 t] _ := box_put (box_put hX 0 (.slice ao no co) (by simp)) 1 (.int .i64 t) (by simp)
        have hRw := hO.row.sep_two (.slice ao no co) (.int .i64 t) sx
        have hO2 := (hO.sep_set (j := 0) (u := .slice ao no co) sx).sep_set (j := 1) (u := .int .i64 t) sx
        have hh := below_two (b := gx) (.slice ao no co) (.int .i64 t) hHeld hgx
        clear hX hO hHeld hD0 y0 y1 z0 z1 hsx
        have hX := hX2
        have hO := hO2
        clear hX2 hO2
        generalize (Wc.setCell ⟨gx, 0, none⟩ (.slice ao no co)).setCell ⟨gx, 1, none⟩ (.int .i64 t) = Wd at *
        clear Wc
        rename World => Wc
        refine hK.out _ _ hh (fun hHeld => ?_)
        clear hK hh
        try simp only [Act.put, List.setIfInBounds_toArray, List.set_cons_zero, List.set_cons_succ]
        refine wpAnyH_done (by kernel_rfl) ?_ _
        refine NoPanic.normal ?_
        exact hQ gx ao no co _ _ _ _ _ _ _ _ _ _ Wc hgx hX (by simpa using hRw) hHeld
    · go_simp
      have hx := Box.made Wc [.slice none 0 0, .int .i64 0] 24
      have hz := al Wc (.cells #[.slice none 0 0, .int .i64 0] 24)
      have hgx : W.heap.size ≤ Wc.heap.size := hD0
      have hh := below_trans hHeld hz
      clear hHeld hD0
      replace hN := hN.below hz
      obtain ⟨Wd, hWd⟩ : ∃ Wq, Wc.alloc (.cells #[.slice none 0 0, .int .i64 0] 24) = Wq := ⟨_, rfl⟩
      have hX : Box Wc.heap.size [.slice none 0 0, .int .i64 0] Wd := hWd ▸ hx
      rw [hWd] at hh ⊢
      rw [hWd] at hN
      clear hWd hz hx
      obtain ⟨gx, hgxe⟩ : ∃ g, Wc.heap.size = g := ⟨_, rfl⟩
      rw [hgxe] at hX hgx ⊢
      clear hgxe
      clear Wc
      rename World => Wc
      refine hK.out _ _ hh (fun hHeld => ?_)
      clear hK hh
      try simp only [Act.put, List.setIfInBounds_toArray, List.set_cons_zero, List.set_cons_succ]
      have hD0 := hHeld.size
      refine wpAnyH_ready (rs := [2]) (by kernel_rfl) (by simp) (AllReadyH.cons rfl (fun K hK => ?_) AllReadyH.nil)
      go_simp
      have ho := OwnN.empty Wc (B := W.heap.size) hD0
      have hz := al Wc (.cells #[] 26)
      have sx : SepB gx (.slice (some ⟨Wc.heap.size, 0, none⟩) 0 0) := SepB.under hX.1
      have sn : SepB gn (.slice (some ⟨Wc.heap.size, 0, none⟩) 0 0) := SepB.under (one_lt hN)
      have hh := below_trans hHeld hz
      clear hHeld hD0
      replace hX := hX.below hz
      replace hN := hN.below hz
      obtain ⟨Wd, hWd⟩ : ∃ Wq, Wc.alloc (.cells #[] 26) = Wq := ⟨_, rfl⟩
      rw [hWd] at ho hh ⊢
      rw [hWd] at hX
      rw [hWd] at hN
      clear hWd hz
      obtain ⟨go, hgo⟩ : ∃ g, Wc.heap.size = g := ⟨_, rfl⟩
      rw [hgo] at ho ⊢
      rw [hgo] at sx
      rw [hgo] at sn
      clear hgo
      clear Wc
      rename World => Wc
      have hO := ho
      clear ho
      refine hK.out _ _ hh (fun hHeld => ?_)
      clear hK hh
      try simp only [Act.put, List.setIfInBounds_toArray, List.set_cons_zero, List.set_cons_succ]
      have hD0 := hHeld.size
      refine wpAnyH_ready (rs := [5]) (by kernel_rfl) (by simp) (AllReadyH.cons rfl (fun K hK => ?_) AllReadyH.nil)
      refine step_append_O (by rfl) 215 rfl _ _ rfl W.heap.size _ ([]) rfl hO _ (l) rfl (HR22.out.below hHeld) (by simp) (by omega) hD0 (fun v5_ Wd ho2 hb2 hg2 hl2 => ?_)
      have sx2 := sx.after hX.1 hl2
      replace hX := Box.keptN hX hg2 sx
      have sn2 := sn.after (one_lt hN) hl2
      replace hN := one_kept hN hg2 sn
      have hh := hHeld.trans hb2
      clear hHeld hD0 hg2 hl2 hb2 sx sn hO
      have hO := ho2
      clear ho2
      have sx := sx2
      clear sx2
      have sn := sn2
      clear sn2
      clear Wc
      rename World => Wc
      refine hK.out _ _ hh (fun hHeld => ?_)
      clear hK hh
      try simp only [Act.put, List.setIfInBounds_toArray, List.set_cons_zero, List.set_cons_succ]
      have hD0 := hHeld.size
      refine wpAnyH_ready (rs := [8]) (by kernel_rfl) (by simp) (AllReadyH.cons rfl (fun K hK => ?_) AllReadyH.nil)
      refine step_append_O (by rfl) 218 rfl _ _ rfl W.heap.size _ (([]) ++ (l)) rfl hO _ ([x]) rfl (hN) (by simp only [List.nil_append]; omega) (by simp) hD0 (fun vo Wd ho2 hb2 hg2 hl2 => ?_)
      have sx2 := sx.after hX.1 hl2
      replace hX := Box.keptN hX hg2 sx
      clear hN sn
      have hh := hHeld.trans hb2
      clear hHeld hD0 hg2 hl2 hb2 sx hO
      have hO := ho2
      clear ho2
      have sx := sx2
      clear sx2
      clear Wc
      rename World => Wc
      refine hK.out _ _ hh (fun hHeld => ?_)
      clear hK hh
      try simp only [Act.put, List.setIfInBounds_toArray, List.set_cons_zero, List.set_cons_succ]
      have hD0 := hHeld.size
      obtain ⟨ao, no, co, rfl⟩ : ∃ a n c, vo = .slice a n c := (by obtain ⟨a', c', e⟩ := hO.row.slice; exact ⟨a', _, c', e⟩)
      refine takeH 9 219 (.agg #[.slice ao no co, .int .i64 t]) calm_np rfl rfl (by kernel_rfl) (by kernel_rfl) (by kernel_rfl) (by rfl) (fun W' hSw => by go_simp) hHeld ?_
      try simp only [Act.put, List.setIfInBounds_toArray, List.set_cons_zero, List.set_cons_succ]
      refine wpAnyH_ready (rs := [11]) (by kernel_rfl) (by simp) (AllReadyH.cons rfl (fun K hK => ?_) AllReadyH.nil)
      obtain ⟨y0, y1⟩ := box2 hX
      obtain ⟨z0, z1⟩ := frz2 hX
      have hsx := hX.1
      go_simp
      have hX2 : Box gx [.slice ao no co, .int .i64 t] _ := box_put (box_put hX 0 (.slice ao no co) (by simp)) 1 (.int .i64 t) (by simp)
      have hRw := hO.row.sep_two (.slice ao no co) (.int .i64 t) sx
      have hO2 := (hO.sep_set (j := 0) (u := .slice ao no co) sx).sep_set (j := 1) (u := .int .i64 t) sx
      have hh := below_two (b := gx) (.slice ao no co) (.int .i64 t) hHeld hgx
      clear hX hO hHeld hD0 y0 y1 z0 z1 hsx
      have hX := hX2
      have hO := hO2
      clear hX2 hO2
      generalize (Wc.setCell ⟨gx, 0, none⟩ (.slice ao no co)).setCell ⟨gx, 1, none⟩ (.int .i64 t) = Wd at *
      clear Wc
      rename World => Wc
      refine hK.out _ _ hh (fun hHeld => ?_)
      clear hK hh
      try simp only [Act.put, List.setIfInBounds_toArray, List.set_cons_zero, List.set_cons_succ]
      refine wpAnyH_done (by kernel_rfl) ?_ _
      refine NoPanic.normal ?_
      exact hQ gx ao no co _ _ _ _ _ _ _ _ _ _ Wc hgx hX (by simpa using hRw) hHeld
  · go_simp
    have hx := Box.made Wc [.slice none 0 0, .int .i64 0] 24
    have hz := al Wc (.cells #[.slice none 0 0, .int .i64 0] 24)
    have hgx : W.heap.size ≤ Wc.heap.size := hD0
    have hh := below_trans hHeld hz
    clear hHeld hD0
    obtain ⟨Wd, hWd⟩ : ∃ Wq, Wc.alloc (.cells #[.slice none 0 0, .int .i64 0] 24) = Wq := ⟨_, rfl⟩
    have hX : Box Wc.heap.size [.slice none 0 0, .int .i64 0] Wd := hWd ▸ hx
    rw [hWd] at hh ⊢
    clear hWd hz hx
    obtain ⟨gx, hgxe⟩ : ∃ g, Wc.heap.size = g := ⟨_, rfl⟩
    rw [hgxe] at hX hgx ⊢
    clear hgxe
    clear Wc
    rename World => Wc
    refine hK.out _ _ hh (fun hHeld => ?_)
    clear hK hh
    try simp only [Act.put, List.setIfInBounds_toArray, List.set_cons_zero, List.set_cons_succ]
    have hD0 := hHeld.size
    refine wpAnyH_ready (rs := [2, 7]) (by kernel_rfl) (by simp) (AllReadyH.cons rfl (fun K hK => ?_) (AllReadyH.cons rfl (fun K hK => ?_) AllReadyH.nil))
    · go_simp
      have ho := OwnN.empty Wc (B := W.heap.size) hD0
      have hz := al Wc (.cells #[] 26)
      have sx : SepB gx (.slice (some ⟨Wc.heap.size, 0, none⟩) 0 0) := SepB.under hX.1
      have hh := below_trans hHeld hz
      clear hHeld hD0
      replace hX := hX.below hz
      obtain ⟨Wd, hWd⟩ : ∃ Wq, Wc.alloc (.cells #[] 26) = Wq := ⟨_, rfl⟩
      rw [hWd] at ho hh ⊢
      rw [hWd] at hX
      clear hWd hz
      obtain ⟨go, hgo⟩ : ∃ g, Wc.heap.size = g := ⟨_, rfl⟩
      rw [hgo] at ho ⊢
      rw [hgo] at sx
      clear hgo
      clear Wc
      rename World => Wc
      have hO := ho
      clear ho
      refine hK.out _ _ hh (fun hHeld => ?_)
      clear hK hh
      try simp only [Act.put, List.setIfInBounds_toArray, List.set_cons_zero, List.set_cons_succ]
      have hD0 := hHeld.size
      refine wpAnyH_ready (rs := [5, 7]) (by kernel_rfl) (by simp) (AllReadyH.cons rfl (fun K hK => ?_) (AllReadyH.cons rfl (fun K hK => ?_) AllReadyH.nil))
      · refine step_append_O (by rfl) 215 rfl _ _ rfl W.heap.size _ ([]) rfl hO _ (l) rfl (HR22.out.below hHeld) (by simp) (by omega) hD0 (fun v5_ Wd ho2 hb2 hg2 hl2 => ?_)
        have sx2 := sx.after hX.1 hl2
        replace hX := Box.keptN hX hg2 sx
        have hh := hHeld.trans hb2
        clear hHeld hD0 hg2 hl2 hb2 sx hO
        have hO := ho2
        clear ho2
        have sx := sx2
        clear sx2
        clear Wc
        rename World => Wc
        refine hK.out _ _ hh (fun hHeld => ?_)
        clear hK hh
        try simp only [Act.put, List.setIfInBounds_toArray, List.set_cons_zero, List.set_cons_succ]
        have hD0 := hHeld.size
        refine wpAnyH_ready (rs := [7]) (by kernel_rfl) (by simp) (AllReadyH.cons rfl (fun K hK => ?_) AllReadyH.nil)
        go_simp
        have hone := NRow.one Wc (x)
        have hz := al Wc (.cells #[.int .i64 x.n, .bool x.b, .int .i64 x.y, .int .i64 x.k, .int .i64 x.o, .bool x.s] 26)
        have sn : SepB Wc.heap.size (v5_) := OwnN.sep hO (Nat.le_refl _)
        have hh := below_trans hHeld hz
        clear hHeld hD0
        replace hO := hO.below hz
        replace hX := hX.below hz
        obtain ⟨Wd, hWd⟩ : ∃ Wq, Wc.alloc (.cells #[.int .i64 x.n, .bool x.b, .int .i64 x.y, .int .i64 x.k, .int .i64 x.o, .bool x.s] 26) = Wq := ⟨_, rfl⟩
        have hN := hone
        rw [hWd] at hN hh ⊢
        rw [hWd] at hO
        rw [hWd] at hX
        clear hWd hz hone
        obtain ⟨gn, hgn⟩ : ∃ g, Wc.heap.size = g := ⟨_, rfl⟩
        rw [hgn] at hN ⊢
        rw [hgn] at sn
        clear hgn
        clear Wc
        rename World => Wc
        refine hK.out _ _ hh (fun hHeld => ?_)
        clear hK hh
        try simp only [Act.put, List.setIfInBounds_toArray, List.set_cons_zero, List.set_cons_succ]
        have hD0 := hHeld.size
        refine wpAnyH_ready (rs := [8]) (by kernel_rfl) (by simp) (AllReadyH.cons rfl (fun K hK => ?_) AllReadyH.nil)
        refine step_append_O (by rfl) 218 rfl _ _ rfl W.heap.size _ (([]) ++ (l)) rfl hO _ ([x]) rfl (hN) (by simp only [List.nil_append]; omega) (by simp) hD0 (fun vo Wd ho2 hb2 hg2 hl2 => ?_)
        have sx2 := sx.after hX.1 hl2
        replace hX := Box.keptN hX hg2 sx
        clear hN sn
        have hh := hHeld.trans hb2
        clear hHeld hD0 hg2 hl2 hb2 sx hO
        have hO := ho2
        clear ho2
        have sx := sx2
        clear sx2
        clear Wc
        rename World => Wc
        refine hK.out _ _ hh (fun hHeld => ?_)
        clear hK hh
        try simp only [Act.put, List.setIfInBounds_toArray, List.set_cons_zero, List.set_cons_succ]
        have hD0 := hHeld.size
        obtain ⟨ao, no, co, rfl⟩ : ∃ a n c, vo = .slice a n c := (by obtain ⟨a', c', e⟩ := hO.row.slice; exact ⟨a', _, c', e⟩)
        refine takeH 9 219 (.agg #[.slice ao no co, .int .i64 t]) calm_np rfl rfl (by kernel_rfl) (by kernel_rfl) (by kernel_rfl) (by rfl) (fun W' hSw => by go_simp) hHeld ?_
        try simp only [Act.put, List.setIfInBounds_toArray, List.set_cons_zero, List.set_cons_succ]
        refine wpAnyH_ready (rs := [11]) (by kernel_rfl) (by simp) (AllReadyH.cons rfl (fun K hK => ?_) AllReadyH.nil)
        obtain ⟨y0, y1⟩ := box2 hX
        obtain ⟨z0, z1⟩ := frz2 hX
        have hsx := hX.1
        go_simp
        have hX2 : Box gx [.slice ao no co, .int .i64 t] _ := box_put (box_put hX 0 (.slice ao no co) (by simp)) 1 (.int .i64 t) (by simp)
        have hRw := hO.row.sep_two (.slice ao no co) (.int .i64 t) sx
        have hO2 := (hO.sep_set (j := 0) (u := .slice ao no co) sx).sep_set (j := 1) (u := .int .i64 t) sx
        have hh := below_two (b := gx) (.slice ao no co) (.int .i64 t) hHeld hgx
        clear hX hO hHeld hD0 y0 y1 z0 z1 hsx
        have hX := hX2
        have hO := hO2
        clear hX2 hO2
        generalize (Wc.setCell ⟨gx, 0, none⟩ (.slice ao no co)).setCell ⟨gx, 1, none⟩ (.int .i64 t) = Wd at *
        clear Wc
        rename World => Wc
        refine hK.out _ _ hh (fun hHeld => ?_)
        clear hK hh
        try simp only [Act.put, List.setIfInBounds_toArray, List.set_cons_zero, List.set_cons_succ]
        refine wpAnyH_done (by kernel_rfl) ?_ _
        refine NoPanic.normal ?_
        exact hQ gx ao no co _ _ _ _ _ _ _ _ _ _ Wc hgx hX (by simpa using hRw) hHeld
      · go_simp
        have hone := NRow.one Wc (x)
        have hz := al Wc (.cells #[.int .i64 x.n, .bool x.b, .int .i64 x.y, .int .i64 x.k, .int .i64 x.o, .bool x.s] 26)
        have sn : SepB Wc.heap.size (.slice (some ⟨go, 0, none⟩) 0 0) := OwnN.sep hO (Nat.le_refl _)
        have hh := below_trans hHeld hz
        clear hHeld hD0
        replace hO := hO.below hz
        replace hX := hX.below hz
        obtain ⟨Wd, hWd⟩ : ∃ Wq, Wc.alloc (.cells #[.int .i64 x.n, .bool x.b, .int .i64 x.y, .int .i64 x.k, .int .i64 x.o, .bool x.s] 26) = Wq := ⟨_, rfl⟩
        have hN := hone
        rw [hWd] at hN hh ⊢
        rw [hWd] at hO
        rw [hWd] at hX
        clear hWd hz hone
        obtain ⟨gn, hgn⟩ : ∃ g, Wc.heap.size = g := ⟨_, rfl⟩
        rw [hgn] at hN ⊢
        rw [hgn] at sn
        clear hgn
        clear Wc
        rename World => Wc
        refine hK.out _ _ hh (fun hHeld => ?_)
        clear hK hh
        try simp only [Act.put, List.setIfInBounds_toArray, List.set_cons_zero, List.set_cons_succ]
        have hD0 := hHeld.size
        refine wpAnyH_ready (rs := [5]) (by kernel_rfl) (by simp) (AllReadyH.cons rfl (fun K hK => ?_) AllReadyH.nil)
        refine step_append_O (by rfl) 215 rfl _ _ rfl W.heap.size _ ([]) rfl hO _ (l) rfl (HR22.out.below hHeld) (by simp) (by omega) hD0 (fun v5_ Wd ho2 hb2 hg2 hl2 => ?_)
        have sx2 := sx.after hX.1 hl2
        replace hX := Box.keptN hX hg2 sx
        have sn2 := sn.after (one_lt hN) hl2
        replace hN := one_kept hN hg2 sn
        have hh := hHeld.trans hb2
        clear hHeld hD0 hg2 hl2 hb2 sx sn hO
        have hO := ho2
        clear ho2
        have sx := sx2
        clear sx2
        have sn := sn2
        clear sn2
        clear Wc
        rename World => Wc
        refine hK.out _ _ hh (fun hHeld => ?_)
        clear hK hh
        try simp only [Act.put, List.setIfInBounds_toArray, List.set_cons_zero, List.set_cons_succ]
        have hD0 := hHeld.size
        refine wpAnyH_ready (rs := [8]) (by kernel_rfl) (by simp) (AllReadyH.cons rfl (fun K hK => ?_) AllReadyH.nil)
        refine step_append_O (by rfl) 218 rfl _ _ rfl W.heap.size _ (([]) ++ (l)) rfl hO _ ([x]) rfl (hN) (by simp only [List.nil_append]; omega) (by simp) hD0 (fun vo Wd ho2 hb2 hg2 hl2 => ?_)
        have sx2 := sx.after hX.1 hl2
        replace hX := Box.keptN hX hg2 sx
        clear hN sn
        have hh := hHeld.trans hb2
        clear hHeld hD0 hg2 hl2 hb2 sx hO
        have hO := ho2
        clear ho2
        have sx := sx2
        clear sx2
        clear Wc
        rename World => Wc
        refine hK.out _ _ hh (fun hHeld => ?_)
        clear hK hh
        try simp only [Act.put, List.setIfInBounds_toArray, List.set_cons_zero, List.set_cons_succ]
        have hD0 := hHeld.size
        obtain ⟨ao, no, co, rfl⟩ : ∃ a n c, vo = .slice a n c := (by obtain ⟨a', c', e⟩ := hO.row.slice; exact ⟨a', _, c', e⟩)
        refine takeH 9 219 (.agg #[.slice ao no co, .int .i64 t]) calm_np rfl rfl (by kernel_rfl) (by kernel_rfl) (by kernel_rfl) (by rfl) (fun W' hSw => by go_simp) hHeld ?_
        try simp only [Act.put, List.setIfInBounds_toArray, List.set_cons_zero, List.set_cons_succ]
        refine wpAnyH_ready (rs := [11]) (by kernel_rfl) (by simp) (AllReadyH.cons rfl (fun K hK => ?_) AllReadyH.nil)
        obtain ⟨y0, y1⟩ := box2 hX
        obtain ⟨z0, z1⟩ := frz2 hX
        have hsx := hX.1
        go_simp
        have hX2 : Box gx [.slice ao no co, .int .i64 t] _ := box_put (box_put hX 0 (.slice ao no co) (by simp)) 1 (.int .i64 t) (by simp)
        have hRw := hO.row.sep_two (.slice ao no co) (.int .i64 t) sx
        have hO2 := (hO.sep_set (j := 0) (u := .slice ao no co) sx).sep_set (j := 1) (u := .int .i64 t) sx
        have hh := below_two (b := gx) (.slice ao no co) (.int .i64 t) hHeld hgx
        clear hX hO hHeld hD0 y0 y1 z0 z1 hsx
        have hX := hX2
        have hO := hO2
        clear hX2 hO2
        generalize (Wc.setCell ⟨gx, 0, none⟩ (.slice ao no co)).setCell ⟨gx, 1, none⟩ (.int .i64 t) = Wd at *
        clear Wc
        rename World => Wc
        refine hK.out _ _ hh (fun hHeld => ?_)
        clear hK hh
        try simp only [Act.put, List.setIfInBounds_toArray, List.set_cons_zero, List.set_cons_succ]
        refine wpAnyH_done (by kernel_rfl) ?_ _
        refine NoPanic.normal ?_
        exact hQ gx ao no co _ _ _ _ _ _ _ _ _ _ Wc hgx hX (by simpa using hRw) hHeld
    · go_simp
      have hone := NRow.one Wc (x)
      have hz := al Wc (.cells #[.int .i64 x.n, .bool x.b, .int .i64 x.y, .int .i64 x.k, .int .i64 x.o, .bool x.s] 26)
      have hh := below_trans hHeld hz
      clear hHeld hD0
      replace hX := hX.below hz
      obtain ⟨Wd, hWd⟩ : ∃ Wq, Wc.alloc (.cells #[.int .i64 x.n, .bool x.b, .int .i64 x.y, .int .i64 x.k, .int .i64 x.o, .bool x.s] 26) = Wq := ⟨_, rfl⟩
      have hN := hone
      rw [hWd] at hN hh ⊢
      rw [hWd] at hX
      clear hWd hz hone
      obtain ⟨gn, hgn⟩ : ∃ g, Wc.heap.size = g := ⟨_, rfl⟩
      rw [hgn] at hN ⊢
      clear hgn
      clear Wc
      rename World => Wc
      refine hK.out _ _ hh (fun hHeld => ?_)
      clear hK hh
      try simp only [Act.put, List.setIfInBounds_toArray, List.set_cons_zero, List.set_cons_succ]
      have hD0 := hHeld.size
      refine wpAnyH_ready (rs := [2]) (by kernel_rfl) (by simp) (AllReadyH.cons rfl (fun K hK => ?_) AllReadyH.nil)
      go_simp
      have ho := OwnN.empty Wc (B := W.heap.size) hD0
      have hz := al Wc (.cells #[] 26)
      have sx : SepB gx (.slice (some ⟨Wc.heap.size, 0, none⟩) 0 0) := SepB.under hX.1
      have sn : SepB gn (.slice (some ⟨Wc.heap.size, 0, none⟩) 0 0) := SepB.under (one_lt hN)
      have hh := below_trans hHeld hz
      clear hHeld hD0
      replace hX := hX.below hz
      replace hN := hN.below hz
      obtain ⟨Wd, hWd⟩ : ∃ Wq, Wc.alloc (.cells #[] 26) = Wq := ⟨_, rfl⟩
      rw [hWd] at ho hh ⊢
      rw [hWd] at hX
      rw [hWd] at hN
      clear hWd hz
      obtain ⟨go, hgo⟩ : ∃ g, Wc.heap.size = g := ⟨_, rfl⟩
      rw [hgo] at ho ⊢
      rw [hgo] at sx
      rw [hgo] at sn
      clear hgo
      clear Wc
      rename World => Wc
      have hO := ho
      clear ho
      refine hK.out _ _ hh (fun hHeld => ?_)
      clear hK hh
      try simp only [Act.put, List.setIfInBounds_toArray, List.set_cons_zero, List.set_cons_succ]
      have hD0 := hHeld.size
      refine wpAnyH_ready (rs := [5]) (by kernel_rfl) (by simp) (AllReadyH.cons rfl (fun K hK => ?_) AllReadyH.nil)
      refine step_append_O (by rfl) 215 rfl _ _ rfl W.heap.size _ ([]) rfl hO _ (l) rfl (HR22.out.below hHeld) (by simp) (by omega) hD0 (fun v5_ Wd ho2 hb2 hg2 hl2 => ?_)
      have sx2 := sx.after hX.1 hl2
      replace hX := Box.keptN hX hg2 sx
      have sn2 := sn.after (one_lt hN) hl2
      replace hN := one_kept hN hg2 sn
      have hh := hHeld.trans hb2
      clear hHeld hD0 hg2 hl2 hb2 sx sn hO
      have hO := ho2
      clear ho2
      have sx := sx2
      clear sx2
      have sn := sn2
      clear sn2
      clear Wc
      rename World => Wc
      refine hK.out _ _ hh (fun hHeld => ?_)
      clear hK hh
      try simp only [Act.put, List.setIfInBounds_toArray, List.set_cons_zero, List.set_cons_succ]
      have hD0 := hHeld.size
      refine wpAnyH_ready (rs := [8]) (by kernel_rfl) (by simp) (AllReadyH.cons rfl (fun K hK => ?_) AllReadyH.nil)
      refine step_append_O (by rfl) 218 rfl _ _ rfl W.heap.size _ (([]) ++ (l)) rfl hO _ ([x]) rfl (hN) (by simp only [List.nil_append]; omega) (by simp) hD0 (fun vo Wd ho2 hb2 hg2 hl2 => ?_)
      have sx2 := sx.after hX.1 hl2
      replace hX := Box.keptN hX hg2 sx
      clear hN sn
      have hh := hHeld.trans hb2
      clear hHeld hD0 hg2 hl2 hb2 sx hO
      have hO := ho2
      clear ho2
      have sx := sx2
      clear sx2
      clear Wc
      rename World => Wc
      refine hK.out _ _ hh (fun hHeld => ?_)
      clear hK hh
      try simp only [Act.put, List.setIfInBounds_toArray, List.set_cons_zero, List.set_cons_succ]
      have hD0 := hHeld.size
      obtain ⟨ao, no, co, rfl⟩ : ∃ a n c, vo = .slice a n c := (by obtain ⟨a', c', e⟩ := hO.row.slice; exact ⟨a', _, c', e⟩)
      refine takeH 9 219 (.agg #[.slice ao no co, .int .i64 t]) calm_np rfl rfl (by kernel_rfl) (by kernel_rfl) (by kernel_rfl) (by rfl) (fun W' hSw => by go_simp) hHeld ?_
      try simp only [Act.put, List.setIfInBounds_toArray, List.set_cons_zero, List.set_cons_succ]
      refine wpAnyH_ready (rs := [11]) (by kernel_rfl) (by simp) (AllReadyH.cons rfl (fun K hK => ?_) AllReadyH.nil)
      obtain ⟨y0, y1⟩ := box2 hX
      obtain ⟨z0, z1⟩ := frz2 hX
      have hsx := hX.1
      go_simp
      have hX2 : Box gx [.slice ao no co, .int .i64 t] _ := box_put (box_put hX 0 (.slice ao no co) (by simp)) 1 (.int .i64 t) (by simp)
      have hRw := hO.row.sep_two (.slice ao no co) (.int .i64 t) sx
      have hO2 := (hO.sep_set (j := 0) (u := .slice ao no co) sx).sep_set (j := 1) (u := .int .i64 t) sx
      have hh := below_two (b := gx) (.slice ao no co) (.int .i64 t) hHeld hgx
      clear hX hO hHeld hD0 y0 y1 z0 z1 hsx
      have hX := hX2
      have hO := hO2
      clear hX2 hO2
      generalize (Wc.setCell ⟨gx, 0, none⟩ (.slice ao no co)).setCell ⟨gx, 1, none⟩ (.int .i64 t) = Wd at *
      clear Wc
      rename World => Wc
      refine hK.out _ _ hh (fun hHeld => ?_)
      clear hK hh
      try simp only [Act.put, List.setIfInBounds_toArray, List.set_cons_zero, List.set_cons_succ]
      refine wpAnyH_done (by kernel_rfl) ?_ _
      refine NoPanic.normal ?_
      exact hQ gx ao no co _ _ _ _ _ _ _ _ _ _ Wc hgx hX (by simpa using hRw) hHeld

end Go.Proofs.Ytkfjhfneagjejaa.Net
