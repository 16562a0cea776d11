/- States and ciphers that are none: the law's walk. -/
import Derived.Test.YtdlmmcilembjgaaDoorGf
namespace Go.Proofs.YtdlmmcilembjgaaDoor
open Go.ChangeShapes Go.WideShapes Go.ChangeAt Go.RowKit
set_option linter.unusedSimpArgs false
set_option linter.unusedVariables false

theorem mixkey_nil (v : Value) (w : World) : Calls Tryd.prog 13 #[.pointer none, v] w fun e w' => e = .returned (.tuple #[]) ∧ w' = w := by
 go_enter Tryd.func13, Tryd.ntmps13
 go_wp2_with fail
 refine bodyPost_ret (results_none rfl _ _ _) rfl ?_
 exact ⟨rfl, rfl⟩
theorem mixhash_nil (v : Value) (w : World) : Calls Tryd.prog 14 #[.pointer none, v] w fun e w' => e = .returned (.tuple #[]) ∧ w' = w := by
 go_enter Tryd.func14, Tryd.ntmps14
 go_wp2_with fail
 refine bodyPost_ret (results_none rfl _ _ _) rfl ?_
 exact ⟨rfl, rfl⟩
theorem mixboth_nil (v : Value) (w : World) : Calls Tryd.prog 15 #[.pointer none, v] w fun e w' => e = .returned (.tuple #[]) ∧ w' = w := by
 go_enter Tryd.func15, Tryd.ntmps15
 go_wp2_with fail
 refine bodyPost_ret (results_none rfl _ _ _) rfl ?_
 exact ⟨rfl, rfl⟩
theorem rekey_nil (w : World) : Calls Tryd.prog 7 #[.pointer none] w fun e w' => e = .returned (.tuple #[]) ∧ w' = w := by
 go_enter Tryd.func7, Tryd.ntmps7
 go_wp2_with fail
 refine bodyPost_ret (results_none rfl _ _ _) rfl ?_
 exact ⟨rfl, rfl⟩
theorem sseal_nil (v : Value) (w : World) : Calls Tryd.prog 16 #[.pointer none, v] w fun e w' => e = .returned (.tuple #[.slice none 0 0, .int .i64 1]) ∧ w' = w := by
 go_enter Tryd.func16, Tryd.ntmps16
 go_wp2_with fail
 go_ret2
 exact ⟨rfl, rfl⟩
theorem sopen_nil (v : Value) (w : World) : Calls Tryd.prog 17 #[.pointer none, v] w fun e w' => e = .returned (.tuple #[.slice none 0 0, .int .i64 1]) ∧ w' = w := by
 go_enter Tryd.func17, Tryd.ntmps17
 go_wp2_with fail
 go_ret2
 exact ⟨rfl, rfl⟩
theorem take_nil (f v u : Value) (w : World) : Calls Tryd.prog 25 #[.pointer none, f, v, u] w fun e w' => e = .returned (.tuple #[.slice none 0 0, .int .i64 1]) ∧ w' = w := by
 go_enter Tryd.func25, Tryd.ntmps25
 go_wp2_with fail
 go_ret2
 exact ⟨rfl, rfl⟩
theorem cseal_nil (v u : Value) (w : World) : Calls Tryd.prog 9 #[.pointer none, v, u] w fun e w' => e = .returned (.tuple #[.slice none 0 0, .int .i64 1]) ∧ w' = w := by
 go_enter Tryd.func9, Tryd.ntmps9
 go_wp2_with fail
 refine (take_nil _ _ _ _).mono ?_
 rintro e w1 ⟨rfl, rfl⟩
 go_wp2_with fail
 go_ret2
 exact ⟨rfl, rfl⟩
theorem copen_nil (v u : Value) (w : World) : Calls Tryd.prog 11 #[.pointer none, v, u] w fun e w' => e = .returned (.tuple #[.slice none 0 0, .int .i64 1]) ∧ w' = w := by
 go_enter Tryd.func11, Tryd.ntmps11
 go_wp2_with fail
 refine (take_nil _ _ _ _).mono ?_
 rintro e w1 ⟨rfl, rfl⟩
 go_wp2_with fail
 go_ret2
 exact ⟨rfl, rfl⟩
theorem build_kn (w : World) : (Instr.build 27 #[]).run Tryd.prog w = .ok (.agg #[.slice none 0 0, .int .u64 0]) w := by kernel_rfl

set_option maxRecDepth 100000 in
set_option maxHeartbeats 2000000 in
theorem split_nil (w : World) : Calls Tryd.prog 18 #[.pointer none] w fun e w' => e = .returned (.tuple #[.agg (ckD (.slice none 0 0) 0).toArray, .agg (ckD (.slice none 0 0) 0).toArray]) ∧ Below w.heap.size w w' := by
 go_enter Tryd.func18, Tryd.ntmps18
 go_wp2_with (refine wpList_alloc_blk rfl 27 rfl (ckD (.slice none 0 0) 0) (alloc_kc _) ?_)
 intro w1 rz b1 s1
 go_wp2_with (refine wpList_alloc_blk rfl 27 rfl (ckD (.slice none 0 0) 0) (alloc_kc _) ?_)
 intro w2 ry b2 s2
 replace rz := rz.kept b2
 have hbw := stepB b1 b2
 have n1 : w.heap.size < w1.heap.size := by have := s1.out; omega
 have z1 := b1.size
 clear b1 b2 s1 s2
 go_wp2_with (first | refine wpList_buildB rfl 27 #[] rfl #[] (by go_simp) (.agg #[.slice none 0 0, .int .u64 0]) (build_kn _) ?_ | (refine wpList_store_part rfl 27 _ _ rfl rfl (ckD (.slice none 0 0) 0) rfl [] (ckD (.slice none 0 0) 0) [] (ckD (.slice none 0 0) 0) rz (wholeS _) (wholeS _) rfl rfl (info_kc (.slice none 0 0) 0) (ckD_all _ _ _ _) ?_; intro w6 r6 hw6; have ry6 := ry.wrote hw6 (by omega)) | (refine wpList_store_part rfl 27 _ _ rfl rfl (ckD (.slice none 0 0) 0) rfl [] (ckD (.slice none 0 0) 0) [] (ckD (.slice none 0 0) 0) ry6 (wholeS _) (wholeS _) rfl rfl (info_kc (.slice none 0 0) 0) (ckD_all _ _ _ _) ?_; intro w7 r7 hw7))
 have r67 := r6.wrote hw7 (by omega)
 refine bodyPost_two rfl rfl rfl rfl r67 r7 Tryd.underlying27 rfl (info_kc _ _) (info_kc _ _) ?_
 exact ⟨rfl, hw7.below _ _ (by omega) (hw6.below _ _ (Nat.le_refl _) hbw)⟩

set_option maxRecDepth 100000 in
set_option maxHeartbeats 4000000 in
theorem none_walk (v : Value) (w : World) (ht : Tabs w) (hp : PlT w) (hk : KpT w) : Calls Tryd.prog 4 #[v] w fun e w' => e = .returned (.bool true) ∧ Below w.heap.size w w' := by
 go_enter Tryd.func4, Tryd.ntmps4
 go_wp2_with fail
 refine (awake_any w ht hp hk).mono ?_
 rintro e w1 ⟨rfl, b1⟩
 clear ht hp hk
 have HB1 : Hid (Below w.heap.size w w1) := b1
 clear b1
 go_wp2_with fail
 refine (mixkey_nil _ _).mono ?_
 rintro e w1 ⟨rfl, rfl⟩
 go_wp2_with fail
 refine (mixhash_nil _ _).mono ?_
 rintro e w1 ⟨rfl, rfl⟩
 go_wp2_with fail
 refine (mixboth_nil _ _).mono ?_
 rintro e w1 ⟨rfl, rfl⟩
 go_wp2_with fail
 refine (rekey_nil _).mono ?_
 rintro e w1 ⟨rfl, rfl⟩
 go_wp2_with fail
 refine (sseal_nil _ _).mono ?_
 rintro e w1 ⟨rfl, rfl⟩
 go_wp2_with fail
 refine (sopen_nil _ _).mono ?_
 rintro e w1 ⟨rfl, rfl⟩
 go_wp2_with fail
 refine (cseal_nil _ _ _).mono ?_
 rintro e w1 ⟨rfl, rfl⟩
 go_wp2_with fail
 refine (copen_nil _ _ _).mono ?_
 rintro e w1 ⟨rfl, rfl⟩
 go_wp2_with fail
 refine (split_nil _).mono ?_
 rintro e w2 ⟨rfl, b2⟩
 have HB2 : Hid (Below w.heap.size w w2) := stepB HB1.out b2
 clear b2 HB1
 go_wp2_with (refine wpList_alloc_blk rfl 27 rfl (ckD (.slice none 0 0) 0) (alloc_kc _) ?_)
 intro wa rp ba sa
 go_wp2_with (refine wpList_alloc_blk rfl 27 rfl (ckD (.slice none 0 0) 0) (alloc_kc _) ?_)
 intro wb rq bb sb
 replace rp := rp.kept bb
 have na : w2.heap.size < wa.heap.size := by have := sa.out; omega
 have bab := stepB ba bb
 clear sa sb
 go_wp2_with (first | (refine wpList_store_part rfl 27 _ _ rfl rfl (ckD (.slice none 0 0) 0) rfl [] (ckD (.slice none 0 0) 0) [] (ckD (.slice none 0 0) 0) rp (wholeS _) (wholeS _) rfl rfl (info_kc (.slice none 0 0) 0) (ckD_all _ _ _ _) ?_; intro wc rc hwc; have rq6 := rq.wrote hwc (by omega)) | (refine wpList_store_part rfl 27 _ _ rfl rfl (ckD (.slice none 0 0) 0) rfl [] (ckD (.slice none 0 0) 0) [] (ckD (.slice none 0 0) 0) rq6 (wholeS _) (wholeS _) rfl rfl (info_kc (.slice none 0 0) 0) (ckD_all _ _ _ _) ?_; intro wd rd hwd; have rcd := rc.wrote hwd (by omega); have d0 : wd.cell? ⟨w2.heap.size, 0, none⟩ = some (.slice none 0 0) := rcd.cell 0; have d1 : wd.cell? ⟨wa.heap.size, 0, none⟩ = some (.slice none 0 0) := rd.cell 0))
 go_ret
 have hb := HB2.out.size
 exact ⟨rfl, hwd.below _ _ (by omega) (hwc.below _ _ hb (stepB HB2.out bab))⟩
end Go.Proofs.YtdlmmcilembjgaaDoor
