import PyProof.Rows.All
import Wide.All
import OpenK.AllK
import Wide.FinOn
import HandS.Head0
import HandS.Head1
import HandS.Head2
import HandS.HeadEnd
import HandS.HeadHook1
import HandS.HeadHook2
import HandS.HeadNt
import HandS.Call
import HandS.List
import HandS.Dict
import HandS.Comp
import HandS.Exc
import HandS.TryOnly
import HandS.ExcOwn
import HandS.Ends
import HandS.Words
import HandS.Lambda
import HandS.IsInst
import KE.DataEq
import KE.DataCmp
import HandS.TupAny
import HandS.TupLen
import HandS.WordsDict
import HandS.Conv
import HandS.More
import KE.SortData
import HandS.WordsExc
import HandS.Iter
import HandS.Zip
import HandS.ForExc
import HandS.DictComp
import HandS.SortKw
import HandS.TupLe
import KE.DatumOrd
import PyProof.EnumMake
import PyProof.Draws
import KE.GoesEnum
import HandS.SetBool
import HandS.Strs
import HandS.Set
import HandS.SetFor
import HandS.TupSets
import HandS.Sort
import HandS.TupMul
import KE.DataMinMax
import HandS.Deep
import HandS.TryMany
import HandS.HeadHook4
import HandS.ExcIs
import HandS.ExcField
import KE.KExcIs
import HandS.EndOwn
import HandS.HeadWalk
import PyProof.ReprRoads
import PySem.Challenge.RW_lookspoil_k09_whole_sure_kinds_and_class

set_option Elab.async false
set_option linter.all false
set_option maxRecDepth 100000
set_option maxHeartbeats 0
namespace Q
end Q
namespace VL
open PySem PySem.Spec PyProof.Rows L2

end VL
namespace K09
open PySem PySem.Spec PyProof.Rows L2 VL Q
def topS (i : Nat) : Stmt := PySem.Challenge.pw_lookspoil_k09_whole_sure_kinds_and_class.main.body.getD i (.Pass ⟨0, 0, 0, 0⟩)
def inCls (st : Stmt) (j : Nat) : Stmt := match st with
  | .ClassDef (body := b) .. => b.getD j (.Pass ⟨0, 0, 0, 0⟩)
  | _ => .Pass ⟨0, 0, 0, 0⟩
abbrev s__law_sure_told : Stmt := topS 43
abbrev s__law_pool : Stmt := topS 35
abbrev s__law_draw : Stmt := topS 36
abbrev s__law_pick : Stmt := topS 37
abbrev s__law_kind_parts : Stmt := topS 38
abbrev s__law_nearly_sure : Stmt := topS 42
abbrev s_is_tuple : Stmt := topS 8
abbrev s_is_integer : Stmt := topS 6
abbrev s_is_below : Stmt := topS 7
abbrev s_is_outcome : Stmt := topS 19
abbrev s_rising : Stmt := topS 9
abbrev s_are_outcomes : Stmt := topS 18
abbrev s_are_looks : Stmt := topS 17
abbrev s_are_rising_standings : Stmt := topS 10
abbrev s_are_drifts : Stmt := topS 20
abbrev s_is_put : Stmt := topS 22
abbrev s_are_puts : Stmt := topS 21
abbrev s_Kind_init : Stmt := inCls (topS 16) 0
abbrev s__law_is_sure : Stmt := topS 41
abbrev s_sure : Stmt := topS 26
abbrev s_check_standing : Stmt := topS 24
abbrev s_check_sure : Stmt := topS 28
abbrev s_only_goal : Stmt := topS 29
abbrev s_trail_from : Stmt := topS 30
abbrev s_round_begin : Stmt := topS 31
abbrev s_least_turn : Stmt := topS 33
abbrev s_shortest_round : Stmt := topS 32
abbrev s_class_of : Stmt := topS 27
abbrev s__law_long_row : Stmt := topS 39
abbrev s__law_class : Stmt := topS 40
abbrev s_law : Stmt := topS 44
def dd__law_pool : He.DefD := ⟨("_law_pool", none), "_law_pool", "_law_pool", defArgs s__law_pool, defBody s__law_pool, defScope s__law_pool, [], []⟩
def dd__law_draw : He.DefD := ⟨("_law_draw", none), "_law_draw", "_law_draw", defArgs s__law_draw, defBody s__law_draw, defScope s__law_draw, [], []⟩
def dd__law_pick : He.DefD := ⟨("_law_pick", none), "_law_pick", "_law_pick", defArgs s__law_pick, defBody s__law_pick, defScope s__law_pick, [], []⟩
def dd__law_kind_parts : He.DefD := ⟨("_law_kind_parts", none), "_law_kind_parts", "_law_kind_parts", defArgs s__law_kind_parts, defBody s__law_kind_parts, defScope s__law_kind_parts, [], []⟩
def dd__law_nearly_sure : He.DefD := ⟨("_law_nearly_sure", none), "_law_nearly_sure", "_law_nearly_sure", defArgs s__law_nearly_sure, defBody s__law_nearly_sure, defScope s__law_nearly_sure, [], []⟩
def dd_is_tuple : He.DefD := ⟨("is_tuple", none), "is_tuple", "is_tuple", defArgs s_is_tuple, defBody s_is_tuple, defScope s_is_tuple, [], []⟩
def dd_is_integer : He.DefD := ⟨("is_integer", none), "is_integer", "is_integer", defArgs s_is_integer, defBody s_is_integer, defScope s_is_integer, [], []⟩
def dd_is_below : He.DefD := ⟨("is_below", none), "is_below", "is_below", defArgs s_is_below, defBody s_is_below, defScope s_is_below, [], []⟩
def dd_is_outcome : He.DefD := ⟨("is_outcome", none), "is_outcome", "is_outcome", defArgs s_is_outcome, defBody s_is_outcome, defScope s_is_outcome, [], []⟩
def dd_rising : He.DefD := ⟨("rising", none), "rising", "rising", defArgs s_rising, defBody s_rising, defScope s_rising, [], []⟩
def dd_are_outcomes : He.DefD := ⟨("are_outcomes", none), "are_outcomes", "are_outcomes", defArgs s_are_outcomes, defBody s_are_outcomes, defScope s_are_outcomes, [], []⟩
def dd_are_looks : He.DefD := ⟨("are_looks", none), "are_looks", "are_looks", defArgs s_are_looks, defBody s_are_looks, defScope s_are_looks, [], []⟩
def dd_are_rising_standings : He.DefD := ⟨("are_rising_standings", none), "are_rising_standings", "are_rising_standings", defArgs s_are_rising_standings, defBody s_are_rising_standings, defScope s_are_rising_standings, [], []⟩
def dd_are_drifts : He.DefD := ⟨("are_drifts", none), "are_drifts", "are_drifts", defArgs s_are_drifts, defBody s_are_drifts, defScope s_are_drifts, [], []⟩
def dd_is_put : He.DefD := ⟨("is_put", none), "is_put", "is_put", defArgs s_is_put, defBody s_is_put, defScope s_is_put, [], []⟩
def dd_are_puts : He.DefD := ⟨("are_puts", none), "are_puts", "are_puts", defArgs s_are_puts, defBody s_are_puts, defScope s_are_puts, [], []⟩
def dd_Kind_init : He.DefD := ⟨("Kind", some "__init__"), "__init__", "Kind.__init__", defArgs s_Kind_init, defBody s_Kind_init, defScope s_Kind_init, [], []⟩
def dd__law_is_sure : He.DefD := ⟨("_law_is_sure", none), "_law_is_sure", "_law_is_sure", defArgs s__law_is_sure, defBody s__law_is_sure, defScope s__law_is_sure, [], []⟩
def dd_sure : He.DefD := ⟨("sure", none), "sure", "sure", defArgs s_sure, defBody s_sure, defScope s_sure, [], []⟩
def dd_check_standing : He.DefD := ⟨("check_standing", none), "check_standing", "check_standing", defArgs s_check_standing, defBody s_check_standing, defScope s_check_standing, [], []⟩
def dd_check_sure : He.DefD := ⟨("check_sure", none), "check_sure", "check_sure", defArgs s_check_sure, defBody s_check_sure, defScope s_check_sure, [], []⟩
def dd_only_goal : He.DefD := ⟨("only_goal", none), "only_goal", "only_goal", defArgs s_only_goal, defBody s_only_goal, defScope s_only_goal, [], []⟩
def dd_trail_from : He.DefD := ⟨("trail_from", none), "trail_from", "trail_from", defArgs s_trail_from, defBody s_trail_from, defScope s_trail_from, [], []⟩
def dd_round_begin : He.DefD := ⟨("round_begin", none), "round_begin", "round_begin", defArgs s_round_begin, defBody s_round_begin, defScope s_round_begin, [], []⟩
def dd_least_turn : He.DefD := ⟨("least_turn", none), "least_turn", "least_turn", defArgs s_least_turn, defBody s_least_turn, defScope s_least_turn, [], []⟩
def dd_shortest_round : He.DefD := ⟨("shortest_round", none), "shortest_round", "shortest_round", defArgs s_shortest_round, defBody s_shortest_round, defScope s_shortest_round, [], []⟩
def dd_class_of : He.DefD := ⟨("class_of", none), "class_of", "class_of", defArgs s_class_of, defBody s_class_of, defScope s_class_of, [], []⟩
def dd__law_long_row : He.DefD := ⟨("_law_long_row", none), "_law_long_row", "_law_long_row", defArgs s__law_long_row, defBody s__law_long_row, defScope s__law_long_row, [], []⟩
def dd__law_class : He.DefD := ⟨("_law_class", none), "_law_class", "_law_class", defArgs s__law_class, defBody s__law_class, defScope s__law_class, [], []⟩
def dd_law : He.DefD := ⟨("law", none), "law", "law", defArgs s_law, defBody s_law, defScope s_law, [], []⟩
def dd__law_sure_told : He.DefD := ⟨("_law_sure_told", none), "_law_sure_told", "_law_sure_told", defArgs s__law_sure_told, defBody s__law_sure_told, defScope s__law_sure_told, [], []⟩
def fn_0 : List He.DefD := [dd__law_pool, dd__law_draw, dd__law_pick, dd__law_kind_parts, dd__law_nearly_sure, dd_is_tuple, dd_is_integer, dd_is_below, dd_is_outcome, dd_rising, dd_are_outcomes, dd_are_looks, dd_are_rising_standings, dd_are_drifts, dd_is_put, dd_are_puts, dd_Kind_init, dd__law_is_sure, dd_sure, dd_check_standing, dd_check_sure, dd_only_goal, dd_trail_from, dd_round_begin, dd_least_turn, dd_shortest_round, dd_class_of, dd__law_long_row, dd__law_class, dd_law]
def fn_1 : List He.DefD := [dd__law_sure_told]
def fn_ : List He.DefD := fn_0 ++ fn_1
def fa_0 : List He.Fa := [.free "abs", .free "all", .free "bool", .free "int", .free "isinstance", .free "len", .free "min", .free "range", .free "set", .free "sorted", .free "tuple", .free "zip", .int "ANSWERS" 10, .int "MOST_OUTCOMES" 4, .int "MOST_PUTS" 4, .int "MOST_STANDINGS" 8, .glo "_law_pool", .glo "_law_draw", .glo "_law_pick", .glo "_law_kind_parts", .glo "_law_nearly_sure", .glo "is_tuple", .glo "is_integer", .glo "is_below", .glo "is_outcome", .glo "rising", .glo "are_outcomes", .glo "are_looks", .glo "are_rising_standings", .glo "are_drifts"]
def fa_1 : List He.Fa := [.glo "is_put", .glo "are_puts", .glo "_law_is_sure", .glo "sure", .glo "check_standing", .glo "check_sure", .glo "only_goal", .glo "trail_from", .glo "round_begin", .glo "least_turn", .glo "shortest_round", .glo "class_of", .glo "_law_long_row", .glo "_law_class", .glo "law", .glo "_law_sure_told", .glo "Kind", .cls "Kind", .noat "Kind" "looks", .noat "Kind" "drifts", .noat "Kind" "puts", .noat "Kind" "size", .mkr "Kind", .glo "NoStanding", .glo "NotSure", .exc "NoStanding", .exc "NotSure", .exm "NoStanding" "NotSure" false, .exm "NotSure" "NotSure" true]
def fa_ : List He.Fa := fa_0 ++ fa_1
def nm_0 : List PySem.Str := ["SpoilError", "BadKind", "NoStanding", "NotSure", "is_integer", "is_below", "is_tuple", "rising", "are_rising_standings", "ANSWERS", "MOST_STANDINGS", "MOST_OUTCOMES", "MOST_PUTS", "Kind", "are_looks", "are_outcomes", "is_outcome", "are_drifts", "are_puts", "is_put", "check_standing", "sure", "class_of", "check_sure", "only_goal", "trail_from", "round_begin", "shortest_round", "least_turn", "_law_pool"]
def nm_1 : List PySem.Str := ["_law_draw", "_law_pick", "_law_kind_parts", "_law_long_row", "_law_class", "_law_is_sure", "_law_nearly_sure", "_law_sure_told"]
def nm_ : List PySem.Str := nm_0 ++ nm_1
abbrev RW : PySem.W.OpenRow := PySem.W.OpenLaw.row PySem.Challenge.rw_lookspoil_k09_whole_sure_kinds_and_class
def ex_ (K : PySem.W.Frag) : Bool := true
abbrev hk : PySem.W.Hook := He.hookX 6 fa_ fn_ [] [("law", none)] ex_
def ob (s : PySem.W.SharedT) : He.AlX := He.obsX 6 fa_ fn_ [] [("law", none)] ex_ (HandSHeadRun.getT s)
theorem ob_eq (s : PySem.W.SharedT) : ob s = hk.obs s.abs := He.obsX_eq (HandSHeadRun.getT_eq s)
theorem join3 {α A B C : Type} {o : Option α} {f : α → A} {g : α → B} {h : α → C} {a : A} {b : B} {c : C} (e1 : o.map (fun s => (f s, g s)) = some (a, b)) (e2 : o.map h = some c) : o.map (fun s => (f s, g s, h s)) = some (a, b, c) := by
  cases o with
  | none => cases e1
  | some s =>
    have e1 : some (f s, g s) = some (a, b) := e1
    have e2 : some (h s) = some c := e2
    injection e1 with e1; injection e1 with e1 e3; injection e2 with e2
    show some (f s, g s, h s) = _
    rw [e1, e3, e2]
open PySem.W PySem.Calls HandSHeadRun in
theorem runC (w : World) (os : OsState) : (endF (stepQ (denQ tabQ) RW.prog w) 9000 RW.prog w os).map ob = some (hk.val w) := by kernel_rfl
open PySem.W PySem.Calls HandSHeadRun in
theorem runA (w : World) (os : OsState) : (endF (stepQ (denQ tabQ) RW.prog w) 9000 RW.prog w os).map (fun s => (looksF RW.prog (boot_heap w.params) s.abs, seenQ (PySem.W.view RW.prog [44]) nm_ (importedModules RW.prog.main.body) (fun s => xlAt (PySem.W.view RW.prog [44]) [] s && recOk RW.toRowW.records s) s.abs)) = some (true, openGood (PySem.W.view RW.prog [44]) nm_) := by kernel_rfl
theorem run (w : World) : HandSHeadRun.RunEq RW (PySem.W.view RW.prog [44]) hk ob 9000 nm_ w := fun os => join3 (runA w os) (runC w os)

end K09
set_option Elab.async false
set_option linter.all false
set_option maxRecDepth 100000
set_option maxHeartbeats 2000000
namespace VL
open PySem PySem.Spec PyProof.Rows L2

/-! ### values without a heap -/
inductive DK where
  | k (x : Key) | t (xs : List Key)
  deriving DecidableEq

inductive D where
  | non | bl (b : Bool) | int (i : Int) | str (s : Str)
  | tup (xs : List D) | lst (o : Bool) (xs : List D)
  | dct (o t : Bool) (kvs : List (DK × D)) | ins (o : Bool) (c : Str) (fs : List (Str × D))
  | ty (n : String) | cls (c : Str) | scr (ns : List Int)
  | ptp (xs : List D) | tab (o : Bool)
instance : Inhabited D := ⟨.non⟩
/-- what a context knows by name, and its written part -/
structure MG where
  g : Str → Option Value
  K : PySem.W.Frag
instance : CoeFun MG (fun _ => Str → Option Value) := ⟨MG.g⟩
abbrev mG (X : Cx) : MG := ⟨X.mg, X.K⟩
/-- P is the table of the code objects within the law's own code; its lambdas bear the name q -/
def lamQ : Str := "law.<locals>.<lambda>"
def TabOf (mg : MG) (P : Addr) : Prop := ∃ f o fd c o2 vs, mg.g "law" = some (.ref f) ∧ List.lookup f mg.K = some o ∧ o.data = .func fd ∧ fd.code = .ref c ∧ List.lookup c mg.K = some o2 ∧ o2.data = .fields vs ∧ vs[11]? = some (.ref P)
/-- a list of the written part -/
def KL (K : PySem.W.Frag) (a : Addr) (xs : List V) : Prop := ∃ o its n, List.lookup a K = some o ∧ o.cls = Value.type "list" ∧ o.dict = none ∧ o.data = Data.seq its n ∧ its.size ≤ sizeLine ∧ Vals xs its.toList

mutual
def D.fzd : D → Bool
  | .tup xs => fzdL xs
  | .ptp xs => fzdL xs
  | .lst o xs => !o && fzdL xs
  | .dct o _ kvs => !o && fzdK kvs
  | .ins o _ fs => !o && fzdF fs
  | .tab o => !o
  | .non => true | .bl _ => true | .int _ => true | .str _ => true | .ty _ => true | .cls _ => true | .scr _ => true
def fzdL : List D → Bool
  | [] => true
  | x :: xs => x.fzd && fzdL xs
def fzdK : List (DK × D) → Bool
  | [] => true
  | (_, x) :: xs => x.fzd && fzdK xs
def fzdF : List (Str × D) → Bool
  | [] => true
  | (_, x) :: xs => x.fzd && fzdF xs
end
mutual
def D.fz : D → D
  | .tup xs => .tup (fzL xs)
  | .ptp xs => .ptp (fzL xs)
  | .lst _ xs => .lst false (fzL xs)
  | .dct _ t kvs => .dct false t (fzK kvs)
  | .ins _ c fs => .ins false c (fzF fs)
  | .tab _ => .tab false
  | .non => .non | .bl b => .bl b | .int i => .int i | .str s => .str s | .ty n => .ty n | .cls c => .cls c | .scr ns => .scr ns
def fzL : List D → List D
  | [] => []
  | x :: xs => x.fz :: fzL xs
def fzK : List (DK × D) → List (DK × D)
  | [] => []
  | (k, x) :: xs => (k, x.fz) :: fzK xs
def fzF : List (Str × D) → List (Str × D)
  | [] => []
  | (k, x) :: xs => (k, x.fz) :: fzF xs
end

theorem fzL_map : ∀ xs : List D, fzL xs = xs.map D.fz
  | [] => by simp [fzL]
  | x :: xs => by simp [fzL, fzL_map xs]
theorem fzK_map : ∀ xs : List (DK × D), fzK xs = xs.map (fun p => (p.1, p.2.fz))
  | [] => by simp [fzK]
  | (k, x) :: xs => by simp [fzK, fzK_map xs]
theorem fzF_map : ∀ xs : List (Str × D), fzF xs = xs.map (fun p => (p.1, p.2.fz))
  | [] => by simp [fzF]
  | (k, x) :: xs => by simp [fzF, fzF_map xs]
theorem fzdL_all : ∀ xs : List D, fzdL xs = xs.all D.fzd
  | [] => by simp [fzdL]
  | x :: xs => by simp [fzdL, fzdL_all xs]
theorem fzdK_all : ∀ xs : List (DK × D), fzdK xs = (xs.map (·.2)).all D.fzd
  | [] => by simp [fzdK]
  | (k, x) :: xs => by simp [fzdK, fzdK_all xs]
theorem fzdF_all : ∀ xs : List (Str × D), fzdF xs = (xs.map (·.2)).all D.fzd
  | [] => by simp [fzdF]
  | (k, x) :: xs => by simp [fzdF, fzdF_all xs]

mutual
theorem D.fz_of : ∀ d : D, d.fzd = true → d.fz = d
  | .tup xs, h => by rw [D.fzd] at h; rw [D.fz, fzL_of xs h]
  | .ptp xs, h => by rw [D.fzd] at h; rw [D.fz, fzL_of xs h]
  | .lst o xs, h => by
    rw [D.fzd, Bool.and_eq_true] at h
    rw [D.fz, fzL_of xs h.2]
    have : o = false := by simpa using h.1
    rw [this]
  | .dct o t kvs, h => by
    rw [D.fzd, Bool.and_eq_true] at h
    rw [D.fz, fzK_of kvs h.2]
    have : o = false := by simpa using h.1
    rw [this]
  | .ins o c fs, h => by
    rw [D.fzd, Bool.and_eq_true] at h
    rw [D.fz, fzF_of fs h.2]
    have : o = false := by simpa using h.1
    rw [this]
  | .tab o, h => by
    have : o = false := by simpa [D.fzd] using h
    rw [this]; rfl
  | .non, _ => rfl | .bl _, _ => rfl | .int _, _ => rfl | .str _, _ => rfl | .ty _, _ => rfl | .cls _, _ => rfl | .scr _, _ => rfl
theorem fzL_of : ∀ xs : List D, fzdL xs = true → fzL xs = xs
  | [], _ => rfl
  | x :: xs, h => by
    rw [fzdL, Bool.and_eq_true] at h
    rw [fzL, D.fz_of x h.1, fzL_of xs h.2]
theorem fzK_of : ∀ xs : List (DK × D), fzdK xs = true → fzK xs = xs
  | [], _ => rfl
  | (_, x) :: xs, h => by
    rw [fzdK, Bool.and_eq_true] at h
    rw [fzK, D.fz_of x h.1, fzK_of xs h.2]
theorem fzF_of : ∀ xs : List (Str × D), fzdF xs = true → fzF xs = xs
  | [], _ => rfl
  | (_, x) :: xs, h => by
    rw [fzdF, Bool.and_eq_true] at h
    rw [fzF, D.fz_of x h.1, fzF_of xs h.2]
end
mutual
theorem D.fz_fzd : ∀ d : D, d.fz.fzd = true
  | .tup xs => by rw [D.fz, D.fzd]; exact fzL_fzd xs
  | .ptp xs => by rw [D.fz, D.fzd]; exact fzL_fzd xs
  | .lst o xs => by rw [D.fz, D.fzd, fzL_fzd xs]; rfl
  | .dct o t kvs => by rw [D.fz, D.fzd, fzK_fzd kvs]; rfl
  | .ins o c fs => by rw [D.fz, D.fzd, fzF_fzd fs]; rfl
  | .tab _ => rfl
  | .non => rfl | .bl _ => rfl | .int _ => rfl | .str _ => rfl | .ty _ => rfl | .cls _ => rfl | .scr _ => rfl
theorem fzL_fzd : ∀ xs : List D, fzdL (fzL xs) = true
  | [] => rfl
  | x :: xs => by rw [fzL, fzdL, D.fz_fzd x, fzL_fzd xs]; rfl
theorem fzK_fzd : ∀ xs : List (DK × D), fzdK (fzK xs) = true
  | [] => rfl
  | (_, x) :: xs => by rw [fzK, fzdK, D.fz_fzd x, fzK_fzd xs]; rfl
theorem fzF_fzd : ∀ xs : List (Str × D), fzdF (fzF xs) = true
  | [] => rfl
  | (_, x) :: xs => by rw [fzF, fzdF, D.fz_fzd x, fzF_fzd xs]; rfl
end

/-! ### what stands for what: F the addresses that are never written again, fp the written ones within the value -/
abbrev FS := Addr → Prop
def DHO (t : Bool) (o : HO) (kvs : List (DK × V)) : Prop :=
  (t = false ∧ ∃ l : List (Key × V), o = .dK l ∧ kvs = l.map fun p => (DK.k p.1, p.2)) ∨ (t = true ∧ ∃ l : List (List Key × V), o = .dT l ∧ kvs = l.map fun p => (DK.t p.1, p.2))
mutual
inductive R (mg : MG) (F : FS) (H : Hp) : V → D → List Addr → Prop
  | non : R mg F H .non .non []
  | bl (b : Bool) : R mg F H (.bl b) (.bl b) []
  | int (i : Int) : R mg F H (.int i) (.int i) []
  | str (x : Str) : R mg F H (.str x) (.str x) []
  | ty (n : String) : R mg F H (.ty n) (.ty n) []
  | cls {c : Str} {C : Addr} : mg c = some (.ref C) → R mg F H (.ref C) (.cls c) []
  | scr {a : Addr} {ns : List Int} : KL mg.K a (ns.map V.int) ∨ (F a ∧ Rd H a (.lst (ns.map V.int))) → R mg F H (.ref a) (.scr ns) []
  | tup {a : Addr} {xs : List V} {ds : List D} : H a = some (.tup xs) → Rs mg F H xs ds [] → R mg F H (.ref a) (.tup ds) []
  | ptp {a : Addr} {o : Obj} {xs : List V} {ds : List D} : F a → H a = some (.frz o (.tup xs)) → o.dict = none → Rs mg F H xs ds [] → R mg F H (.ref a) (.ptp ds) []
  | tabF {a : Addr} : R mg F H (.ref a) (.tab false) []
  | tabO {a : Addr} {ps : Array Value} : TabOf mg a → H a = some (.tbl ps) → TriplesOk ps.toList → (∀ (pos : Pos) (cv : Value), codeAmong pos ps.toList = some cv → ∃ c, cv = .ref c ∧ F c ∧ H c = some (LamX.CodeO c lamQ)) → R mg F H (.ref a) (.tab true) [a]
  | lstF {a : Addr} {xs : List V} {ds : List D} : F a → Rd H a (.lst xs) → Rs mg F H xs ds [] → R mg F H (.ref a) (.lst false ds) []
  | lstO {a : Addr} {xs : List V} {ds : List D} {fp : List Addr} : H a = some (.lst xs) → Rs mg F H xs ds fp → R mg F H (.ref a) (.lst true ds) (a :: fp)
  | dctF {a : Addr} {t : Bool} {o : HO} {kvs : List (DK × V)} {ds : List (DK × D)} : F a → Rd H a o → DHO t o kvs → kvs.map (·.1) = ds.map (·.1) → Rs mg F H (kvs.map (·.2)) (ds.map (·.2)) [] → R mg F H (.ref a) (.dct false t ds) []
  | dctO {a : Addr} {t : Bool} {o : HO} {kvs : List (DK × V)} {ds : List (DK × D)} {fp : List Addr} : H a = some o → DHO t o kvs → kvs.map (·.1) = ds.map (·.1) → Rs mg F H (kvs.map (·.2)) (ds.map (·.2)) fp → R mg F H (.ref a) (.dct true t ds) (a :: fp)
  | insF {a C dx : Addr} {c : Str} {vs : List (Str × V)} {ds : List (Str × D)} : F a → H a = some (.ins C dx vs) → mg c = some (.ref C) → vs.map (·.1) = ds.map (·.1) → Rs mg F H (vs.map (·.2)) (ds.map (·.2)) [] → R mg F H (.ref a) (.ins false c ds) []
  | insO {a C dx : Addr} {c : Str} {vs : List (Str × V)} {ds : List (Str × D)} {fp : List Addr} : H a = some (.ins C dx vs) → mg c = some (.ref C) → vs.map (·.1) = ds.map (·.1) → Rs mg F H (vs.map (·.2)) (ds.map (·.2)) fp → R mg F H (.ref a) (.ins true c ds) (a :: fp)
inductive Rs (mg : MG) (F : FS) (H : Hp) : List V → List D → List Addr → Prop
  | nil : Rs mg F H [] [] []
  | cons {v : V} {vs : List V} {d : D} {ds : List D} {fp fps : List Addr} : R mg F H v d fp → Rs mg F H vs ds fps → Rs mg F H (v :: vs) (d :: ds) (fp ++ fps)
end

section
variable {mg : MG} {F F' : FS} {H H' : Hp}
/-- tracked, and no tuple -/
def Ow (H : Hp) (a : Addr) : Prop := ∃ o, H a = some o ∧ ∀ xs, o ≠ .tup xs
theorem Ow.trk {a : Addr} (h : Ow H a) : H a ≠ none := by
  obtain ⟨o, e, _⟩ := h
  rw [e]; exact fun z => nomatch z
theorem Ow.eq {a : Addr} (h : Ow H a) (e : H' a = H a) : Ow H' a := let ⟨o, q, n⟩ := h; ⟨o, e.trans q, n⟩
theorem Ow.ne {a : Addr} {xs : List V} (h : Ow H a) : H a ≠ some (.tup xs) := fun e => by
  obtain ⟨o, q, n⟩ := h
  rw [q] at e; cases e
  exact n xs rfl
theorem DHO.ne {t : Bool} {o : HO} {kvs : List (DK × V)} (h : DHO t o kvs) : ∀ xs, o ≠ .tup xs := fun xs e => by
  subst e
  rcases h with ⟨_, l, h, _⟩ | ⟨_, l, h, _⟩ <;> cases h
mutual
theorem R.own : ∀ {v : V} {d : D} {fp : List Addr}, R mg F H v d fp → ∀ a ∈ fp, Ow H a
  | _, _, _, .non, _, h => nomatch h
  | _, _, _, .bl _, _, h => nomatch h
  | _, _, _, .int _, _, h => nomatch h
  | _, _, _, .str _, _, h => nomatch h
  | _, _, _, .ty _, _, h => nomatch h
  | _, _, _, .cls _, _, h => nomatch h
  | _, _, _, .scr _, _, h => nomatch h
  | _, _, _, .tup _ _, _, h => nomatch h
  | _, _, _, .ptp _ _ _ _, _, h => nomatch h
  | _, _, _, .tabF, _, h => nomatch h
  | _, _, _, .tabO _ e _ _, a, h => by
    rcases List.mem_cons.mp h with rfl | h
    · exact ⟨_, e, fun _ z => nomatch z⟩
    · cases h
  | _, _, _, .lstF _ _ _, _, h => nomatch h
  | _, _, _, .lstO e r, a, h => by
    rcases List.mem_cons.mp h with rfl | h
    · exact ⟨_, e, fun _ z => nomatch z⟩
    · exact r.own a h
  | _, _, _, .dctF _ _ _ _ _, _, h => nomatch h
  | _, _, _, .dctO e o _ r, a, h => by
    rcases List.mem_cons.mp h with rfl | h
    · exact ⟨_, e, o.ne⟩
    · exact r.own a h
  | _, _, _, .insF _ _ _ _ _, _, h => nomatch h
  | _, _, _, .insO e _ _ r, a, h => by
    rcases List.mem_cons.mp h with rfl | h
    · exact ⟨_, e, fun _ z => nomatch z⟩
    · exact r.own a h
theorem Rs.own : ∀ {vs : List V} {ds : List D} {fp : List Addr}, Rs mg F H vs ds fp → ∀ a ∈ fp, Ow H a
  | _, _, _, .nil, _, h => nomatch h
  | _, _, _, .cons r rs, a, h => by
    rcases List.mem_append.mp h with h | h
    · exact r.own a h
    · exact rs.own a h
end
/-- frozen parts stay, the written ones stay -/
structure Keeps (F F' : FS) (H H' : Hp) (fp : List Addr) : Prop where
  fz : ∀ a, F a → H a ≠ none → F' a ∧ H' a = H a
  ow : ∀ a ∈ fp, H' a = H a
  tp : ∀ a xs, H a = some (.tup xs) → H' a = some (.tup xs)
theorem Keeps.sub {fp fq : List Addr} (k : Keeps F F' H H' fp) (h : ∀ a ∈ fq, a ∈ fp) : Keeps F F' H H' fq := ⟨k.fz, fun a m => k.ow a (h a m), k.tp⟩
theorem Rd.trk {a : Addr} {u : HO} (h : Rd H a u) : H a ≠ none := by
  rcases h with h | ⟨o, h⟩ <;> (rw [h]; exact fun z => nomatch z)
theorem Rd.eq {a : Addr} {u : HO} (h : Rd H a u) (e : H' a = H a) : Rd H' a u := by
  rcases h with h | ⟨o, h⟩
  · exact .inl (e.trans h)
  · exact .inr ⟨o, e.trans h⟩
theorem some_trk {a : Addr} {u : HO} (h : H a = some u) : H a ≠ none := by rw [h]; exact fun z => nomatch z
mutual
theorem R.move : ∀ {v : V} {d : D} {fp : List Addr}, R mg F H v d fp → Keeps F F' H H' fp → R mg F' H' v d fp
  | _, _, _, .non, _ => .non
  | _, _, _, .bl b, _ => .bl b
  | _, _, _, .int i, _ => .int i
  | _, _, _, .str x, _ => .str x
  | _, _, _, .ty n, _ => .ty n
  | _, _, _, .cls m, _ => .cls m
  | _, _, _, .scr e, k => .scr (e.imp_right fun ⟨f, q⟩ => ⟨(k.fz _ f (Rd.trk q)).1, Rd.eq q (k.fz _ f (Rd.trk q)).2⟩)
  | _, _, _, .tup e r, k => .tup (k.tp _ _ e) (r.move k)
  | _, _, _, .ptp f e o r, k => .ptp (k.fz _ f (some_trk e)).1 ((k.fz _ f (some_trk e)).2.trans e) o (r.move k)
  | _, _, _, .tabF, _ => .tabF
  | _, _, _, .tabO t e ok h, k => .tabO t ((k.ow _ List.mem_cons_self).trans e) ok fun pos cv m => by
    obtain ⟨c, e1, e2, e3⟩ := h pos cv m
    obtain ⟨h1, h2⟩ := k.fz c e2 (some_trk e3)
    exact ⟨c, e1, h1, h2.trans e3⟩
  | _, _, _, .lstF f e r, k => .lstF (k.fz _ f (Rd.trk e)).1 (Rd.eq e (k.fz _ f (Rd.trk e)).2) (r.move k)
  | _, _, _, .lstO e r, k => .lstO ((k.ow _ List.mem_cons_self).trans e) (r.move (k.sub fun _ m => List.mem_cons_of_mem _ m))
  | _, _, _, .dctF f e o q r, k => .dctF (k.fz _ f (Rd.trk e)).1 (Rd.eq e (k.fz _ f (Rd.trk e)).2) o q (r.move k)
  | _, _, _, .dctO e o q r, k => .dctO ((k.ow _ List.mem_cons_self).trans e) o q (r.move (k.sub fun _ m => List.mem_cons_of_mem _ m))
  | _, _, _, .insF f e m q r, k => .insF (k.fz _ f (some_trk e)).1 ((k.fz _ f (some_trk e)).2.trans e) m q (r.move k)
  | _, _, _, .insO e m q r, k => .insO ((k.ow _ List.mem_cons_self).trans e) m q (r.move (k.sub fun _ m => List.mem_cons_of_mem _ m))
theorem Rs.move : ∀ {vs : List V} {ds : List D} {fp : List Addr}, Rs mg F H vs ds fp → Keeps F F' H H' fp → Rs mg F' H' vs ds fp
  | _, _, _, .nil, _ => .nil
  | _, _, _, .cons r rs, k => .cons (r.move (k.sub fun _ m => List.mem_append_left _ m)) (rs.move (k.sub fun _ m => List.mem_append_right _ m))
end
mutual
theorem R.fzd : ∀ {v : V} {d : D} {fp : List Addr}, R mg F H v d fp → (d.fzd = true ↔ fp = [])
  | _, _, _, .non => by simp [D.fzd]
  | _, _, _, .bl b => by simp [D.fzd]
  | _, _, _, .int i => by simp [D.fzd]
  | _, _, _, .str x => by simp [D.fzd]
  | _, _, _, .ty n => by simp [D.fzd]
  | _, _, _, .cls m => by simp [D.fzd]
  | _, _, _, .scr m => by simp [D.fzd]
  | _, _, _, .tup e r => by simp only [D.fzd, r.fzd]
  | _, _, _, .ptp f e o r => by simp only [D.fzd, r.fzd]
  | _, _, _, .tabF => by simp [D.fzd]
  | _, _, _, .tabO _ _ _ _ => by simp [D.fzd]
  | _, _, _, .lstF f e r => by simp [D.fzd, r.fzd]
  | _, _, _, .lstO e r => by simp [D.fzd]
  | _, _, _, .dctF f e o q r => by
    rw [D.fzd, fzdK_all, ← fzdL_all]
    simpa using r.fzd
  | _, _, _, .dctO e o q r => by simp [D.fzd]
  | _, _, _, .insF f e m q r => by
    rw [D.fzd, fzdF_all, ← fzdL_all]
    simpa using r.fzd
  | _, _, _, .insO e m q r => by simp [D.fzd]
theorem Rs.fzd : ∀ {vs : List V} {ds : List D} {fp : List Addr}, Rs mg F H vs ds fp → (fzdL ds = true ↔ fp = [])
  | _, _, _, .nil => by simp [fzdL]
  | _, _, _, .cons r rs => by simp only [fzdL, Bool.and_eq_true, r.fzd, rs.fzd, List.append_eq_nil_iff]
end
theorem map_fst_fzK : ∀ ds : List (DK × D), (fzK ds).map (·.1) = ds.map (·.1) := fun ds => by rw [fzK_map]; simp
theorem map_snd_fzK : ∀ ds : List (DK × D), (fzK ds).map (·.2) = fzL (ds.map (·.2)) := fun ds => by rw [fzK_map, fzL_map]; simp
theorem map_fst_fzF : ∀ ds : List (Str × D), (fzF ds).map (·.1) = ds.map (·.1) := fun ds => by rw [fzF_map]; simp
theorem map_snd_fzF : ∀ ds : List (Str × D), (fzF ds).map (·.2) = fzL (ds.map (·.2)) := fun ds => by rw [fzF_map, fzL_map]; simp
mutual
theorem R.freeze (m : ∀ a, F a → F' a) : ∀ {v : V} {d : D} {fp : List Addr}, R mg F H v d fp → (∀ a ∈ fp, F' a) → R mg F' H v d.fz []
  | _, _, _, .non, _ => .non
  | _, _, _, .bl b, _ => .bl b
  | _, _, _, .int i, _ => .int i
  | _, _, _, .str x, _ => .str x
  | _, _, _, .ty n, _ => .ty n
  | _, _, _, .cls m, _ => .cls m
  | _, _, _, .scr e, _ => .scr (e.imp_right fun ⟨f, q⟩ => ⟨m _ f, q⟩)
  | _, _, _, .tup e r, k => .tup e (r.freeze m k)
  | _, _, _, .ptp f e o r, k => .ptp (m _ f) e o (r.freeze m k)
  | _, _, _, .tabF, _ => .tabF
  | _, _, _, .tabO _ _ _ _, _ => .tabF
  | _, _, _, .lstF f e r, k => .lstF (m _ f) e (r.freeze m k)
  | _, _, _, .lstO e r, k => .lstF (k _ List.mem_cons_self) (.inl e) (r.freeze m fun _ h => k _ (List.mem_cons_of_mem _ h))
  | _, _, _, .dctF f e o q r, k => .dctF (m _ f) e o (by rw [map_fst_fzK]; exact q) (by rw [map_snd_fzK]; exact r.freeze m k)
  | _, _, _, .dctO e o q r, k => .dctF (k _ List.mem_cons_self) (.inl e) o (by rw [map_fst_fzK]; exact q) (by rw [map_snd_fzK]; exact r.freeze m fun _ h => k _ (List.mem_cons_of_mem _ h))
  | _, _, _, .insF f e g q r, k => .insF (m _ f) e g (by rw [map_fst_fzF]; exact q) (by rw [map_snd_fzF]; exact r.freeze m k)
  | _, _, _, .insO e g q r, k => .insF (k _ List.mem_cons_self) e g (by rw [map_fst_fzF]; exact q) (by rw [map_snd_fzF]; exact r.freeze m fun _ h => k _ (List.mem_cons_of_mem _ h))
theorem Rs.freeze (m : ∀ a, F a → F' a) : ∀ {vs : List V} {ds : List D} {fp : List Addr}, Rs mg F H vs ds fp → (∀ a ∈ fp, F' a) → Rs mg F' H vs (fzL ds) []
  | _, _, _, .nil, _ => .nil
  | _, _, _, .cons r rs, k => .cons (r.freeze m fun _ h => k _ (List.mem_append_left _ h)) (rs.freeze m fun _ h => k _ (List.mem_append_right _ h))
end
theorem Rs.len {vs : List V} {ds : List D} {fp : List Addr} (h : Rs mg F H vs ds fp) : vs.length = ds.length := by
  induction vs generalizing ds fp with
  | nil => cases h; rfl
  | cons v vs ih => cases h with | cons _ r => simp [ih r]
end
end VL

set_option Elab.async false
set_option linter.all false
set_option maxRecDepth 100000
set_option maxHeartbeats 2000000
namespace VL
open PySem PySem.Spec PyProof.Rows L2

/-! ### frames without a heap -/
abbrev Env := List (Option D)
inductive RE (mg : MG) (F : FS) (H : Hp) : Env → L2.St → List Addr → Prop
  | nil : RE mg F H [] [] []
  | skip {s : Option V} {ρ : Env} {σ : L2.St} {fp : List Addr} : RE mg F H ρ σ fp → RE mg F H (none :: ρ) (s :: σ) fp
  | cons {v : V} {d : D} {ρ : Env} {σ : L2.St} {fp fps : List Addr} : R mg F H v d fp → RE mg F H ρ σ fps → RE mg F H (some d :: ρ) (some v :: σ) (fp ++ fps)
structure Gd (F : FS) (H : Hp) (fps : List Addr) : Prop where
  nd : fps.Nodup
  dis : ∀ a ∈ fps, ¬ F a
  trk : ∀ a, F a → H a ≠ none
  own : ∀ a ∈ fps, Ow H a
/-- from (F, H), where W may be written, to (F', H'), where W' may be written -/
structure Rch (F : FS) (H : Hp) (W : List Addr) (F' : FS) (H' : Hp) (W' : List Addr) : Prop where
  keep : ∀ b o, H b = some o → b ∉ W → H' b = some o
  mono : ∀ a, F a → F' a
  new : ∀ a, F' a → F a ∨ a ∈ W ∨ H a = none
  fpn : ∀ a ∈ W', a ∈ W ∨ H a = none

section
variable {mg : MG} {F F' F1 F2 : FS} {H H' H1 H2 : Hp} {W W1 W2 fp fps fp1 fps1 : List Addr} {ρ ρ' : Env} {σ : L2.St}
theorem Gd.right (g : Gd F H (fp ++ fps)) : Gd F H fps := ⟨(List.nodup_append.mp g.nd).2.1, fun a m => g.dis a (List.mem_append_right _ m), g.trk, fun a m => g.own a (List.mem_append_right _ m)⟩
theorem Gd.left (g : Gd F H (fp ++ fps)) : Gd F H fp := ⟨(List.nodup_append.mp g.nd).1, fun a m => g.dis a (List.mem_append_left _ m), g.trk, fun a m => g.own a (List.mem_append_left _ m)⟩
theorem Gd.apart (g : Gd F H (fp ++ fps)) {a : Addr} (h : a ∈ fp) (h' : a ∈ fps) : False := (List.nodup_append.mp g.nd).2.2 a h a h' rfl
theorem Rch.refl : Rch F H W F H W := ⟨fun _ _ e _ => e, fun _ h => h, fun _ h => .inl h, fun _ h => .inl h⟩
theorem Rch.trans (a : Rch F H W F1 H1 W1) (b : Rch F1 H1 W1 F2 H2 W2) : Rch F H W F2 H2 W2 where
  keep := fun c o e n => b.keep c o (a.keep c o e n) fun m => (a.fpn c m).elim n fun z => by rw [e] at z; cases z
  mono := fun c h => b.mono c (a.mono c h)
  new := fun c h => by
    rcases b.new c h with h | h | h
    · exact a.new c h
    · exact .inr (a.fpn c h)
    · by_cases hw : c ∈ W
      · exact .inr (.inl hw)
      · cases e : H c with
        | none => exact .inr (.inr rfl)
        | some o => rw [a.keep c o e hw] at h; cases h
  fpn := fun c h => by
    rcases b.fpn c h with h | h
    · exact a.fpn c h
    · by_cases hw : c ∈ W
      · exact .inl hw
      · cases e : H c with
        | none => exact .inr rfl
        | some o => rw [a.keep c o e hw] at h; cases h
theorem Rch.sub {W3 : List Addr} (a : Rch F H W F1 H1 W1) (h : ∀ x ∈ W3, x ∈ W1) : Rch F H W F1 H1 W3 := ⟨a.keep, a.mono, a.new, fun c m => a.fpn c (h c m)⟩
/-- what may be written grows -/
theorem Rch.more (a : Rch F H W F1 H1 W1) {U : List Addr} (h : ∀ x ∈ W, x ∈ U) : Rch F H U F1 H1 (W1 ++ U) := ⟨fun b o e n => a.keep b o e fun m => n (h b m), a.mono, fun c m => (a.new c m).imp_right (Or.imp_left (h c)), fun c m => (List.mem_append.mp m).elim (fun z => (a.fpn c z).imp_left (h c)) .inl⟩
theorem RE.own : ∀ {ρ : Env} {σ : L2.St} {fp : List Addr}, RE mg F H ρ σ fp → ∀ a ∈ fp, Ow H a
  | _, _, _, .nil, _, h => nomatch h
  | _, _, _, .skip r, a, h => r.own a h
  | _, _, _, .cons r rs, a, h => by
    rcases List.mem_append.mp h with h | h
    · exact r.own a h
    · exact rs.own a h
theorem RE.move : ∀ {ρ : Env} {σ : L2.St} {fp : List Addr}, RE mg F H ρ σ fp → Keeps F F' H H' fp → RE mg F' H' ρ σ fp
  | _, _, _, .nil, _ => .nil
  | _, _, _, .skip r, k => .skip (r.move k)
  | _, _, _, .cons r rs, k => .cons (r.move (k.sub fun _ m => List.mem_append_left _ m)) (rs.move (k.sub fun _ m => List.mem_append_right _ m))
theorem RE.len : ∀ {ρ : Env} {σ : L2.St} {fp : List Addr}, RE mg F H ρ σ fp → ρ.length = σ.length
  | _, _, _, .nil => rfl
  | _, _, _, .skip r => by simp [r.len]
  | _, _, _, .cons _ r => by simp [r.len]
theorem RE.get : ∀ {ρ : Env} {σ : L2.St} {fp : List Addr}, RE mg F H ρ σ fp → ∀ {i : Nat} {d : D}, ρ[i]? = some (some d) → ∃ v fq, σ[i]? = some (some v) ∧ R mg F H v d fq ∧ ∀ a ∈ fq, a ∈ fp
  | _, _, _, .nil, i, d, h => by simp at h
  | _, _, _, .skip r, 0, d, h => by simp at h
  | _, _, _, .skip r, i + 1, d, h => by
    obtain ⟨v, fq, h1, h2, h3⟩ := r.get (i := i) (d := d) (by simpa using h)
    exact ⟨v, fq, by simpa using h1, h2, h3⟩
  | _, _, _, .cons r rs, 0, d, h => by
    simp at h; subst h
    exact ⟨_, _, rfl, r, fun a m => List.mem_append_left _ m⟩
  | _, _, _, .cons r rs, i + 1, d, h => by
    obtain ⟨v, fq, h1, h2, h3⟩ := rs.get (i := i) (d := d) (by simpa using h)
    exact ⟨v, fq, by simpa using h1, h2, fun a m => List.mem_append_right _ (h3 a m)⟩
/-- what a step that may write fps leaves alone -/
theorem Rch.keeps (r : Rch F H fps F' H' W) (g : Gd F H (fp ++ fps)) : Keeps F F' H H' fp where
  fz := fun a f n => ⟨r.mono a f, by
    cases e : H a with
    | none => exact absurd e n
    | some o => exact r.keep a o e fun m => g.dis a (List.mem_append_right _ m) f⟩
  ow := fun a m => by
    obtain ⟨o, e, _⟩ := g.own a (List.mem_append_left _ m)
    rw [e]
    exact r.keep a o e fun m' => g.apart m m'
  tp := fun a xs e => r.keep a _ e fun m => (g.own a (List.mem_append_right _ m)).ne e
/-- two footprints behind such a step -/
theorem Gd.carry (g : Gd F H (fp ++ fps)) (r : Rch F H fps F' H' W) (g' : Gd F' H' W) : Gd F' H' (fp ++ W) where
  nd := List.nodup_append.mpr ⟨(List.nodup_append.mp g.nd).1, g'.nd, fun a m b m' e => by
    subst e
    rcases r.fpn a m' with h | h
    · exact g.apart m h
    · exact (g.own a (List.mem_append_left _ m)).trk h⟩
  dis := fun a m f => by
    rcases List.mem_append.mp m with m | m
    · rcases r.new a f with h | h | h
      · exact g.dis a (List.mem_append_left _ m) h
      · exact g.apart m h
      · exact (g.own a (List.mem_append_left _ m)).trk h
    · exact g'.dis a m f
  trk := g'.trk
  own := fun a m => by
    rcases List.mem_append.mp m with m | m
    · exact (g.own a (List.mem_append_left _ m)).eq ((r.keeps g).ow a m)
    · exact g'.own a m
theorem Rch.carry (a : Rch F H W F1 H1 (fp ++ fps)) (r : Rch F1 H1 fps F2 H2 W2) : Rch F H W F2 H2 (fp ++ W2) :=
  a.trans ⟨fun b o e n => r.keep b o e fun m => n (List.mem_append_right _ m), r.mono, fun c f => (r.new c f).imp_right (Or.imp_left (List.mem_append_right _)), fun c m => (List.mem_append.mp m).elim (fun z => .inl (List.mem_append_left _ z)) fun z => (r.fpn c z).imp_left (List.mem_append_right _)⟩
end

/-! ### results -/
structure Ex where
  c : Str
  fs : List (Str × D)
inductive Ev (α : Type) where
  | ok (a : α) (ρ : Env) | exc (e : Ex) (ρ : Env) | bad
abbrev M (α : Type) := Env → Ev α
@[reducible] def M.pure {α : Type} (a : α) : M α := fun ρ => .ok a ρ
def M.bind {α β : Type} (m : M α) (f : α → M β) : M β := fun ρ => match m ρ with
  | .ok a ρ' => f a ρ'
  | .exc e ρ' => .exc e ρ'
  | .bad => .bad
instance : Monad M where
  pure := M.pure
  bind := M.bind
@[simp] theorem M.pure_def {α : Type} (a : α) (ρ : Env) : (pure a : M α) ρ = .ok a ρ := rfl
theorem M.bind_def {α β : Type} (m : M α) (f : α → M β) (ρ : Env) : (m >>= f) ρ = match m ρ with
  | .ok a ρ' => f a ρ'
  | .exc e ρ' => .exc e ρ'
  | .bad => .bad := rfl
theorem M.bind_ok {α β : Type} {m : M α} {f : α → M β} {ρ ρ' : Env} {a : α} (h : m ρ = .ok a ρ') : (m >>= f) ρ = f a ρ' := by rw [M.bind_def, h]
theorem M.bind_exc {α β : Type} {m : M α} {f : α → M β} {ρ ρ' : Env} {e : Ex} (h : m ρ = .exc e ρ') : (m >>= f) ρ = .exc e ρ' := by rw [M.bind_def, h]
theorem M.bind_bad {α β : Type} {m : M α} {f : α → M β} {ρ : Env} (h : m ρ = .bad) : (m >>= f) ρ = .bad := by rw [M.bind_def, h]

/-- an exception as it flies -/
def ExR (mg : MG) (F : FS) (H : Hp) (e : Ex) (cls : Value) (d : Option Addr) : Prop :=
  ∃ C, mg e.c = some (.ref C) ∧ cls = .ref C ∧ ((e.fs = [] ∧ d = none) ∨ ∃ dx vs, d = some dx ∧ H dx = some (.xd vs) ∧ F dx ∧ vs.map (·.1) = e.fs.map (·.1) ∧ Rs mg F H (vs.map (·.2)) (e.fs.map (·.2)) [])

/-- how results are told -/
structure Rl (β α : Type) where
  rel : FS → Hp → β → α → List Addr → Prop
  move : ∀ {F F' H H' x a fp}, rel F H x a fp → Keeps F F' H H' fp → rel F' H' x a fp

def Pst (mg : MG) (W : WX) (σ : L2.St) {β α : Type} (L : Rl β α) (F : FS) (H : Hp) (fps : List Addr) (r : Ev α) (Q : β → Hp → Prop) : Prop :=
  match r with
  | .ok a ρ' => ∀ x F' H' fp fps', L.rel F' H' x a fp → RE mg F' H' ρ' σ fps' → Gd F' H' (fp ++ fps') → Rch F H fps F' H' (fp ++ fps') → Q x H'
  | .exc e ρ' => ∀ cls d F' H' fps', ExR mg F' H' e cls d → RE mg F' H' ρ' σ fps' → Gd F' H' fps' → Rch F H fps F' H' fps' → W cls d σ H'
  | .bad => False
/-- the reading of what gives an α -/
def vX (mg : MG) (W : WX) {β α : Type} (L : Rl β α) (g : M α) : L2.St → Hp → (β → Hp → Prop) → Prop := fun σ H Q =>
  ∃ F ρ fps, RE mg F H ρ σ fps ∧ Gd F H fps ∧ Pst mg W σ L F H fps (g ρ) Q

def Rl.prod {β α β' α' : Type} (L : Rl β α) (L' : Rl β' α') : Rl (β × β') (α × α') where
  rel := fun F H x a fp => ∃ fp1 fp2, fp = fp1 ++ fp2 ∧ L.rel F H x.1 a.1 fp1 ∧ L'.rel F H x.2 a.2 fp2
  move := fun {F F' H H' x a fp} h k => by
    obtain ⟨fp1, fp2, rfl, h1, h2⟩ := h
    exact ⟨fp1, fp2, rfl, L.move h1 (k.sub fun _ m => List.mem_append_left _ m), L'.move h2 (k.sub fun _ m => List.mem_append_right _ m)⟩

section
variable {mg : MG} {W : WX} {σ : L2.St} {H : Hp}
/-- one after another -/
theorem vX.seq {β α β' α' : Type} {L : Rl β α} {L' : Rl β' α'} {g : M α} {g' : M α'} {Q : β → β' → Hp → Prop}
    (h : vX mg W (L.prod L') (g >>= fun a => g' >>= fun b => pure (a, b)) σ H (fun p H' => Q p.1 p.2 H')) : vX mg W L g σ H fun x H1 => vX mg W L' g' σ H1 fun y H2 => Q x y H2 := by
  obtain ⟨F, ρ, fps, hE, hG, hP⟩ := h
  refine ⟨F, ρ, fps, hE, hG, ?_⟩
  cases e : g ρ with
  | bad => rw [M.bind_bad e] at hP; exact hP
  | exc x ρ1 => rw [M.bind_exc e] at hP; exact hP
  | ok a ρ1 =>
    rw [M.bind_ok e] at hP
    intro x F1 H1 fp1 fps1 r1 e1 g1 c1
    refine ⟨F1, ρ1, fps1, e1, g1.right, ?_⟩
    cases e2 : g' ρ1 with
    | bad => rw [M.bind_bad e2] at hP; exact hP
    | exc x ρ2 =>
      rw [M.bind_exc e2] at hP
      intro cls d F2 H2 fps2 x2 r2 g2 c2
      exact hP cls d F2 H2 fps2 x2 r2 g2 ((c1.carry c2).sub fun _ m => List.mem_append_right _ m)
    | ok b ρ2 =>
      rw [M.bind_ok e2] at hP
      intro y F2 H2 fp2 fps2 r2 e2 g2 c2
      refine hP (x, y) F2 H2 (fp1 ++ fp2) fps2 ⟨fp1, fp2, rfl, L.move r1 (c2.keeps g1), r2⟩ e2 ?_ ?_
      · rw [List.append_assoc]; exact g1.carry c2 g2
      · rw [List.append_assoc]; exact c1.carry c2
theorem vX.imp {β α : Type} {L : Rl β α} {g : M α} {Q Q' : β → Hp → Prop} (h : vX mg W L g σ H Q) (q : ∀ x H', Q x H' → Q' x H') : vX mg W L g σ H Q' := by
  obtain ⟨F, ρ, fps, hE, hG, hP⟩ := h
  refine ⟨F, ρ, fps, hE, hG, ?_⟩
  cases e : g ρ with
  | bad => rw [e] at hP; exact hP
  | exc x ρ1 => rw [e] at hP; exact hP
  | ok a ρ1 => rw [e] at hP; exact fun x F' H' fp fps' r1 r2 r3 r4 => q _ _ (hP x F' H' fp fps' r1 r2 r3 r4)
/-- behind a step: what the step's result is good for -/
theorem vX.then {β α β' α' : Type} {L : Rl β α} {L' : Rl β' α'} {g : M α} {k : α → M α'} {Q : β' → Hp → Prop} {T : β → Hp → Prop}
    (h : vX mg W L' (g >>= k) σ H Q)
    (st : ∀ (a : α) (ρ : Env) (x : β) (F : FS) (H' : Hp) (fp fps : List Addr), L.rel F H' x a fp → RE mg F H' ρ σ fps → Gd F H' (fp ++ fps) → Pst mg W σ L' F H' (fp ++ fps) (k a ρ) Q → T x H') : vX mg W L g σ H T := by
  obtain ⟨F, ρ, fps, hE, hG, hP⟩ := h
  refine ⟨F, ρ, fps, hE, hG, ?_⟩
  cases e : g ρ with
  | bad => rw [M.bind_bad e] at hP; exact hP
  | exc x ρ1 => rw [M.bind_exc e] at hP; exact hP
  | ok a ρ1 =>
    rw [M.bind_ok e] at hP
    intro x F1 H1 fp1 fps1 r1 e1 g1 c1
    refine st a ρ1 x F1 H1 fp1 fps1 r1 e1 g1 ?_
    cases e2 : k a ρ1 with
    | bad => rw [e2] at hP; exact hP
    | exc x ρ2 =>
      rw [e2] at hP
      exact fun cls d F2 H2 fps2 x2 r2 g2 c2 => hP cls d F2 H2 fps2 x2 r2 g2 (c1.trans c2)
    | ok b ρ2 =>
      rw [e2] at hP
      exact fun y F2 H2 fp2 fps2 r2 e2 g2 c2 => hP y F2 H2 fp2 fps2 r2 e2 g2 (c1.trans c2)
end
end VL

set_option Elab.async false
set_option linter.all false
set_option maxRecDepth 100000
set_option maxHeartbeats 2000000
namespace VL
open PySem PySem.Spec PyProof.Rows L2

/-! ### the kinds of results -/
def rD (mg : MG) : Rl V D := ⟨fun F H v d fp => R mg F H v d fp, fun h k => h.move k⟩
def rB : Rl Bool Bool := ⟨fun _ _ b c fp => b = c ∧ fp = [], fun h _ => h⟩
/-- an operand: a value, or a name that is read when the operation runs -/
inductive Ar where
  | val (d : D) | slot (i : Nat)
inductive RO (mg : MG) (σ : L2.St) (F : FS) (H : Hp) : V → Ar → List Addr → Prop
  | val {v : V} {d : D} {fp : List Addr} : R mg F H v d fp → RO mg σ F H v (.val d) fp
  | slot {v : V} {i : Nat} : σ[i]? = some (some v) → RO mg σ F H v (.slot i) []
inductive RA (mg : MG) (σ : L2.St) (F : FS) (H : Hp) : List V → List Ar → List Addr → Prop
  | nil : RA mg σ F H [] [] []
  | cons {v : V} {vs : List V} {a : Ar} {as : List Ar} {fp fps : List Addr} : RO mg σ F H v a fp → RA mg σ F H vs as fps → RA mg σ F H (v :: vs) (a :: as) (fp ++ fps)
section
variable {mg : MG} {σ : L2.St} {F F' : FS} {H H' : Hp}
theorem RO.move {v : V} {a : Ar} {fp : List Addr} (h : RO mg σ F H v a fp) (k : Keeps F F' H H' fp) : RO mg σ F' H' v a fp := by
  cases h with
  | val r => exact .val (r.move k)
  | slot e => exact .slot e
theorem RA.move : ∀ {vs : List V} {as : List Ar} {fp : List Addr}, RA mg σ F H vs as fp → Keeps F F' H H' fp → RA mg σ F' H' vs as fp
  | _, _, _, .nil, _ => .nil
  | _, _, _, .cons r rs, k => .cons (r.move (k.sub fun _ m => List.mem_append_left _ m)) (rs.move (k.sub fun _ m => List.mem_append_right _ m))
end
def rO (mg : MG) (σ : L2.St) : Rl V Ar := ⟨RO mg σ, RO.move⟩
def rA (mg : MG) (σ : L2.St) : Rl (List V) (List Ar) := ⟨RA mg σ, RA.move⟩
def vE (mg : MG) (W : WX) (g : M D) : TE := vX mg W (rD mg) g
def vO (mg : MG) (W : WX) (g : M Ar) : TE := fun σ => vX mg W (rO mg σ) g σ
def vA (mg : MG) (W : WX) (g : M (List Ar)) : TA := fun σ => vX mg W (rA mg σ) g σ
def vT (mg : MG) (W : WX) (g : M Bool) : TT := vX mg W rB g

theorem pe_imp {X : Cx} {e : Expr} {t t' : TE} (h : PE X e t) (i : ∀ σ H Q, t' σ H Q → t σ H Q) : PE X e t' := ⟨fun pins s σ H Q I q => h.run pins s σ H Q I (i σ H Q q)⟩
theorem pt_imp {X : Cx} {e : Expr} {t t' : TT} (h : PT X e t) (i : ∀ σ H Q, t' σ H Q → t σ H Q) : PT X e t' := ⟨fun pins s σ H Q I q => h.run pins s σ H Q I (i σ H Q q)⟩
theorem pw_imp {X : Cx} {e : Expr} {t t' : TT} (h : PW X e t) (i : ∀ σ H Q, t' σ H Q → t σ H Q) : PW X e t' := ⟨fun whole pins s σ H Q I q => h.run whole pins s σ H Q I (i σ H Q q)⟩
theorem pa_imp {X : Cx} {es : List Expr} {t t' : TA} (h : PA X es t) (i : ∀ σ H Q, t' σ H Q → t σ H Q) : PA X es t' := ⟨fun pos pins s σ H Q I q => h.run pos pins s σ H Q I (i σ H Q q)⟩
theorem ps_imp {X : Cx} {st : Stmt} {t t' : TS} (h : PS X st t) (i : ∀ D σ H, t' D σ H → t D σ H) : PS X st t' := ⟨fun pins s σ H D I q => h.run pins s σ H D I (i D σ H q)⟩
theorem pss_imp {X : Cx} {st : List Stmt} {t t' : TS} (h : PSs X st t) (i : ∀ D σ H, t' D σ H → t D σ H) : PSs X st t' := ⟨fun pins s σ H D I q => h.run pins s σ H D I (i D σ H q)⟩

/-! ### the small steps -/
def lift {α : Type} (o : Option α) : M α := fun ρ => match o with
  | some a => .ok a ρ
  | none => .bad
def fail {α : Type} : M α := fun _ => .bad
/-- a name, for good: from then on it is not written -/
def gVar (i : Nat) : M D := fun ρ => match ρ[i]? with
  | some (some d) => .ok d.fz (ρ.set i (some d.fz))
  | _ => .bad
/-- a name that is not used again -/
def gMove (i : Nat) : M D := fun ρ => match ρ[i]? with
  | some (some d) => .ok d (ρ.set i none)
  | _ => .bad
def gC (d : D) : M D := pure d
def oVar (i : Nat) : M Ar := fun ρ => match ρ[i]? with
  | some (some _) => .ok (.slot i) ρ
  | _ => .bad
def oEx (g : M D) : M Ar := g >>= fun d => pure (.val d)
def aNil : M (List Ar) := pure []
def aCons (o : M Ar) (r : M (List Ar)) : M (List Ar) := o >>= fun a => r >>= fun as => pure (a :: as)
def Ar.get (a : Ar) : M D := match a with
  | .val d => pure d
  | .slot i => fun ρ => match ρ[i]? with
    | some (some d) => .ok d ρ
    | _ => .bad
def getAll : List Ar → M (List D)
  | [] => pure []
  | a :: as => a.get >>= fun d => getAll as >>= fun ds => pure (d :: ds)
def gOp1 (f : D → Option D) (o : M Ar) : M D := o >>= fun a => a.get >>= fun d => lift (f d)
def gOp2 (f : D → D → Option D) (o1 o2 : M Ar) : M D := (o1 >>= fun a => o2 >>= fun b => pure (a, b)) >>= fun p => p.1.get >>= fun x => p.2.get >>= fun y => lift (f x y)
def gCallB (f : List D → Option D) (a : M (List Ar)) : M D := a >>= fun as => getAll as >>= fun ds => lift (f ds)
def gTup (a : M (List Ar)) : M D := a >>= fun as => getAll as >>= fun ds => lift (if fzdL ds then some (.tup ds) else none)

section
variable {mg : MG} {W : WX} {σ : L2.St} {F F' : FS} {H H' : Hp} {fp fps fq : List Addr} {ρ : Env} {X : Cx}
/-- what is lent: the value, somewhere within what may be written -/
def Bor (mg : MG) (F : FS) (H : Hp) (fps : List Addr) (v : V) (d : D) : Prop := ∃ fq, R mg F H v d fq ∧ ∀ a ∈ fq, a ∈ fps
theorem Ar.get_ok {a : Ar} {v : V} {d : D} {ρ' : Env} (r : RO mg σ F H v a fp) (hE : RE mg F H ρ σ fps) (h : a.get ρ = .ok d ρ') : ρ' = ρ ∧ Bor mg F H (fp ++ fps) v d := by
  cases r with
  | val r =>
    injection h with h1 h2
    subst h1 h2
    exact ⟨rfl, _, r, fun a m => List.mem_append_left _ m⟩
  | slot e =>
    rename_i i
    unfold Ar.get at h
    simp only at h
    split at h
    · rename_i d' e'
      injection h with h1 h2
      subst h1 h2
      obtain ⟨v', fq, e1, r, m⟩ := hE.get e'
      rw [e] at e1
      injection e1 with e1
      injection e1 with e1
      subst e1
      exact ⟨rfl, fq, r, fun a x => List.mem_append_right _ (m a x)⟩
    · cases h
theorem Ar.get_noexc {a : Ar} {e : Ex} {ρ' : Env} : a.get ρ ≠ .exc e ρ' := by
  cases a with
  | val d => intro h; cases h
  | slot i =>
    intro h
    unfold Ar.get at h
    simp only at h
    split at h <;> cases h
inductive BorL (mg : MG) (F : FS) (H : Hp) (fps : List Addr) : List V → List D → Prop
  | nil : BorL mg F H fps [] []
  | cons {v : V} {vs : List V} {d : D} {ds : List D} : Bor mg F H fps v d → BorL mg F H fps vs ds → BorL mg F H fps (v :: vs) (d :: ds)
theorem Bor.mono {v : V} {d : D} (h : Bor mg F H fp v d) (m : ∀ a ∈ fp, a ∈ fps) : Bor mg F H fps v d := let ⟨fq, r, s⟩ := h; ⟨fq, r, fun a x => m a (s a x)⟩
theorem BorL.mono : ∀ {vs : List V} {ds : List D}, BorL mg F H fp vs ds → (∀ a ∈ fp, a ∈ fps) → BorL mg F H fps vs ds
  | _, _, .nil, _ => .nil
  | _, _, .cons b r, m => .cons (b.mono m) (r.mono m)
theorem getAll_ok : ∀ (as : List Ar) (vs : List V) (ds : List D) (fp : List Addr) (ρ ρ' : Env), RA mg σ F H vs as fp → RE mg F H ρ σ fps → getAll as ρ = .ok ds ρ' → ρ' = ρ ∧ BorL mg F H (fp ++ fps) vs ds
  | [], _, _, _, _, _, .nil, _, h => by
    injection h with h1 h2
    subst h1 h2
    exact ⟨rfl, .nil⟩
  | a :: as, _, _, _, ρ, _, .cons (fp := fp1) (fps := fp2) r rs, hE, h => by
    unfold getAll at h
    cases e : a.get ρ with
    | bad => rw [M.bind_bad e] at h; cases h
    | exc x ρ1 => exact absurd e Ar.get_noexc
    | ok d ρ1 =>
      rw [M.bind_ok e] at h
      obtain ⟨rfl, b⟩ := Ar.get_ok r hE e
      cases e2 : getAll as ρ1 with
      | bad => rw [M.bind_bad e2] at h; cases h
      | exc x ρ2 => rw [M.bind_exc e2] at h; cases h
      | ok ds' ρ2 =>
        rw [M.bind_ok e2] at h
        injection h with h1 h2
        subst h1 h2
        obtain ⟨rfl, bl⟩ := getAll_ok as _ _ _ _ _ rs hE e2
        refine ⟨rfl, .cons (b.mono fun a m => ?_) (bl.mono fun a m => ?_)⟩
        · rcases List.mem_append.mp m with m | m
          · exact List.mem_append_left _ (List.mem_append_left _ m)
          · exact List.mem_append_right _ m
        · rcases List.mem_append.mp m with m | m
          · exact List.mem_append_left _ (List.mem_append_right _ m)
          · exact List.mem_append_right _ m
theorem getAll_noexc : ∀ {as : List Ar} {e : Ex} {ρ ρ' : Env}, getAll as ρ ≠ .exc e ρ'
  | [], _, _, _, h => nomatch h
  | a :: as, e, ρ, ρ', h => by
    unfold getAll at h
    cases q : a.get ρ with
    | bad => rw [M.bind_bad q] at h; cases h
    | exc x ρ1 => exact absurd q Ar.get_noexc
    | ok d ρ1 =>
      rw [M.bind_ok q] at h
      cases q2 : getAll as ρ1 with
      | bad => rw [M.bind_bad q2] at h; cases h
      | exc x ρ2 => exact getAll_noexc q2
      | ok ds ρ2 => rw [M.bind_ok q2] at h; cases h
/-- a new result, and what there was -/
theorem Rch.keeps0 (c : Rch F H [] F' H' fq) (g : Gd F H fps) : Keeps F F' H H' fps where
  fz := fun a f n => ⟨c.mono a f, by
    cases e : H a with
    | none => exact absurd e n
    | some o => exact c.keep a o e (by simp)⟩
  ow := fun a m => by
    obtain ⟨o, e, _⟩ := g.own a m
    rw [e]
    exact c.keep a o e (by simp)
  tp := fun a xs e => c.keep a _ e (by simp)
theorem new_all (g : Gd F H fps) (g' : Gd F' H' fq) (c : Rch F H [] F' H' fq) : Gd F' H' (fq ++ fps) where
  nd := List.nodup_append.mpr ⟨g'.nd, g.nd, fun a m b m' e => by
    subst e
    rcases c.fpn a m with h | h
    · cases h
    · exact (g.own a m').trk h⟩
  dis := fun a m f => by
    rcases List.mem_append.mp m with m | m
    · exact g'.dis a m f
    · rcases c.new a f with h | h | h
      · exact g.dis a m h
      · cases h
      · exact (g.own a m).trk h
  trk := g'.trk
  own := fun a m => by
    rcases List.mem_append.mp m with m | m
    · exact g'.own a m
    · exact (g.own a m).eq ((c.keeps0 g).ow a m)
/-- the end of a step whose result is new (or was there, frozen); its operands are dropped -/
theorem fin_new {β α : Type} {L : Rl β α} {a : α} {x : β} {Q : β → Hp → Prop} (hP : Pst mg W σ L F H (fp ++ fps) (.ok a ρ) Q) (hE : RE mg F H ρ σ fps) (hG : Gd F H (fp ++ fps)) (r : L.rel F' H' x a fq) (g : Gd F' H' fq) (c : Rch F H [] F' H' fq) : Q x H' :=
  hP x F' H' fq fps r (hE.move (c.keeps0 hG.right)) (new_all hG.right g c) ((c.more (U := fp ++ fps) fun _ m => nomatch m).sub fun b m => by
    rcases List.mem_append.mp m with m | m
    · exact List.mem_append_left _ m
    · exact List.mem_append_right _ (List.mem_append_right _ m))
theorem Gd.nil (g : Gd F H fps) : Gd F H [] := ⟨List.nodup_nil, fun a m => (nomatch m), g.trk, fun a m => (nomatch m)⟩
/-! ### operations on values -/
/-- what an operation's result is wanted for -/
def Fin (mg : MG) (F : FS) (H : Hp) (d : D) (Q : VK) : Prop := ∀ v F' H' fq, R mg F' H' v d fq → Gd F' H' fq → Rch F H [] F' H' fq → Q v H'
def OpS1 (mg : MG) (r : V → Hp → VK → Prop) (f : D → Option D) : Prop := ∀ F H fps v d d' Q, Gd F H fps → Bor mg F H fps v d → f d = some d' → Fin mg F H d' Q → r v H Q
def OpS2 (mg : MG) (r : R2) (f : D → D → Option D) : Prop := ∀ F H fps v w d e d' Q, Gd F H fps → Bor mg F H fps v d → Bor mg F H fps w e → f d e = some d' → Fin mg F H d' Q → r v w H Q
def OpSL (mg : MG) (r : List V → Hp → VK → Prop) (f : List D → Option D) : Prop := ∀ F H fps vs ds d' Q, Gd F H fps → BorL mg F H fps vs ds → f ds = some d' → Fin mg F H d' Q → r vs H Q
theorem Fin.of {d : D} {Q : VK} (hP : Pst mg W σ (rD mg) F H (fp ++ fps) (.ok d ρ) Q) (hE : RE mg F H ρ σ fps) (hG : Gd F H (fp ++ fps)) : Fin mg F H d Q := fun v F' H' fq r g c => fin_new hP hE hG r g c

theorem vO_ex {g : M D} {Q : VK} (h : vO mg W (oEx g) σ H Q) : vE mg W g σ H Q := by
  refine vX.then (L' := rO mg σ) (k := fun d => pure (.val d)) h fun d ρ v F H' fp fps r hE hG hP => ?_
  exact hP v F H' fp fps (.val r) hE hG Rch.refl
theorem vO_var {i : Nat} {Q : VK} (h : vO mg W (oVar i) σ H Q) : tVar i σ H Q := by
  obtain ⟨F, ρ, fps, hE, hG, hP⟩ := h
  unfold oVar at hP
  split at hP
  · rename_i d e
    obtain ⟨v, fq, e1, _⟩ := hE.get e
    exact ⟨v, e1, hP v F H [] fps (.slot e1) hE (by simpa using hG) Rch.refl⟩
  · exact False.elim hP
theorem po_ex {e : Expr} {g : M D} (h : PE X e (vE mg W g)) : PE X e (vO mg W (oEx g)) := pe_imp h fun _ _ _ => vO_ex
theorem po_var {e : Expr} {i : Nat} (h : PE X e (tVar i)) : PE X e (vO mg W (oVar i)) := pe_imp h fun _ _ _ => vO_var
theorem op1 {r : V → Hp → VK → Prop} {f : D → Option D} {o : M Ar} (hf : OpS1 mg r f) {Q : VK} (h : vE mg W (gOp1 f o) σ H Q) : tUn r (vO mg W o) σ H Q := by
  refine vX.then h fun a ρ v F H' fp fps ro hE hG hP => ?_
  cases e : a.get ρ with
  | bad => rw [M.bind_bad e] at hP; exact False.elim hP
  | exc x ρ1 => exact absurd e Ar.get_noexc
  | ok d ρ1 =>
    rw [M.bind_ok e] at hP
    obtain ⟨rfl, b⟩ := Ar.get_ok ro hE e
    cases e2 : f d with
    | none => rw [e2] at hP; exact False.elim hP
    | some d' =>
      rw [e2] at hP
      exact hf F H' _ v d d' Q hG b e2 (Fin.of hP hE hG)
theorem op2 {r : R2} {f : D → D → Option D} {o1 o2 : M Ar} (hf : OpS2 mg r f) {Q : VK} (h : vE mg W (gOp2 f o1 o2) σ H Q) : tOp r (vO mg W o1) (vO mg W o2) σ H Q := by
  refine vX.seq (Q := fun x y H' => r x y H' Q) ?_
  refine vX.then h fun p ρ v F H' fp fps ro hE hG hP => ?_
  obtain ⟨fp1, fp2, rfl, r1, r2⟩ := ro
  cases e : p.1.get ρ with
  | bad => rw [M.bind_bad e] at hP; exact False.elim hP
  | exc x ρ1 => exact absurd e Ar.get_noexc
  | ok d ρ1 =>
    rw [M.bind_ok e] at hP
    obtain ⟨rfl, b⟩ := Ar.get_ok r1 hE e
    cases e2 : p.2.get ρ1 with
    | bad => rw [M.bind_bad e2] at hP; exact False.elim hP
    | exc x ρ2 => exact absurd e2 Ar.get_noexc
    | ok d2 ρ2 =>
      rw [M.bind_ok e2] at hP
      obtain ⟨rfl, b2⟩ := Ar.get_ok r2 hE e2
      cases e3 : f d d2 with
      | none => rw [e3] at hP; exact False.elim hP
      | some d' =>
        rw [e3] at hP
        refine hf F H' _ _ _ d d2 d' Q hG (b.mono fun a m => ?_) (b2.mono fun a m => ?_) e3 (Fin.of hP hE hG)
        · rcases List.mem_append.mp m with m | m
          · exact List.mem_append_left _ (List.mem_append_left _ m)
          · exact List.mem_append_right _ m
        · rcases List.mem_append.mp m with m | m
          · exact List.mem_append_left _ (List.mem_append_right _ m)
          · exact List.mem_append_right _ m
theorem opL {r : List V → Hp → VK → Prop} {f : List D → Option D} {a : M (List Ar)} (hf : OpSL mg r f) {Q : VK} (h : vE mg W (gCallB f a) σ H Q) : tCB r (vA mg W a) σ H Q := by
  refine vX.then h fun as ρ vs F H' fp fps ra hE hG hP => ?_
  cases e : getAll as ρ with
  | bad => rw [M.bind_bad e] at hP; exact False.elim hP
  | exc x ρ1 => exact absurd e getAll_noexc
  | ok ds ρ1 =>
    rw [M.bind_ok e] at hP
    obtain ⟨rfl, b⟩ := getAll_ok _ _ _ _ _ _ ra hE e
    cases e2 : f ds with
    | none => rw [e2] at hP; exact False.elim hP
    | some d' =>
      rw [e2] at hP
      exact hf F H' _ vs ds d' Q hG b e2 (Fin.of hP hE hG)
theorem va_nil (h : PA X [] tNil) : PA X [] (vA mg W aNil) := pa_imp h fun σ H Q ⟨F, ρ, fps, hE, hG, hP⟩ => hP [] F H [] fps .nil hE (by simpa using hG) Rch.refl
theorem va_cons {e : Expr} {es : List Expr} {o : M Ar} {r : M (List Ar)} (ha : PE X e (vO mg W o)) (hr : PA X es (vA mg W r)) (hs : starEach (e :: es) X.env = (false, eval e X.env) :: starEach es X.env := by rfl) : PA X (e :: es) (vA mg W (aCons o r)) := by
  refine pa_imp (pa_cons ha hr hs) fun σ H Q h => ?_
  refine vX.seq (L := rO mg σ) (L' := rA mg σ) (Q := fun x xs H' => Q (x :: xs) H') ?_
  obtain ⟨F, ρ, fps, hE, hG, hP⟩ := h
  refine ⟨F, ρ, fps, hE, hG, ?_⟩
  unfold aCons at hP
  cases e1 : o ρ with
  | bad => rw [M.bind_bad e1] at hP; exact False.elim hP
  | exc x ρ1 => rw [M.bind_exc e1] at hP ⊢; exact hP
  | ok a ρ1 =>
    rw [M.bind_ok e1] at hP ⊢
    cases e2 : r ρ1 with
    | bad => rw [M.bind_bad e2] at hP; exact False.elim hP
    | exc x ρ2 => rw [M.bind_exc e2] at hP ⊢; exact hP
    | ok as ρ2 =>
      rw [M.bind_ok e2] at hP ⊢
      intro p F' H' fp fps' rp hE' hG' hc
      obtain ⟨fp1, fp2, rfl, r1, r2⟩ := rp
      exact hP (p.1 :: p.2) F' H' (fp1 ++ fp2) fps' (.cons r1 r2) hE' hG' hc
end
end VL

set_option Elab.async false
set_option linter.all false
set_option maxRecDepth 100000
set_option maxHeartbeats 2000000
namespace VL
open PySem PySem.Spec PyProof.Rows L2

section
variable {mg : MG} {W : WX} {σ : L2.St} {F F' : FS} {H H' : Hp} {fp fps fq : List Addr} {ρ : Env} {X : Cx}
/-! ### names and constants -/
theorem vE_pure {d : D} {v : V} {Q : VK} (hr : ∀ (F : FS) (H : Hp), R mg F H v d []) (h : vE mg W (gC d) σ H Q) : tC v σ H Q := by
  obtain ⟨F, ρ, fps, hE, hG, hP⟩ := h
  exact hP v F H [] fps (hr F H) hE (by simpa using hG) Rch.refl
theorem ve_int {i j pos} : PE X (.Constant (.int i) j pos) (vE mg W (gC (.int i))) := pe_imp pe_int fun _ _ _ => vE_pure fun _ _ => .int i
theorem ve_bl {b j pos} : PE X (.Constant (.bool b) j pos) (vE mg W (gC (.bl b))) := pe_imp pe_bl fun _ _ _ => vE_pure fun _ _ => .bl b
theorem ve_non {j pos} : PE X (.Constant .none j pos) (vE mg W (gC .non)) := pe_imp pe_non fun _ _ _ => vE_pure fun _ _ => .non
theorem ve_str {x j pos} : PE X (.Constant (.str x) j pos) (vE mg W (gC (.str x))) := pe_imp pe_str fun _ _ _ => vE_pure fun _ _ => .str x
theorem ve_ty {x : Str} {n : String} {pos : Pos} (hg : Gl X x) (hm : X.mg x = none) (hv : bootBuiltins x = some (.type n)) (hn : x ≠ "__name__" := by decide) (hd : (x == ("__debug__" : Str)) = false := by decide) : PE X (.Name x pos) (vE mg W (gC (.ty n))) :=
  pe_imp (pe_bltn (v := .ty n) hg hm hv rfl hn hd) fun _ _ _ => vE_pure fun _ _ => .ty n
theorem ve_cls {x : Str} {C : Addr} {pos : Pos} (hg : Gl X x) (hm : X.mg x = some (.ref C)) (hd : (x == ("__debug__" : Str)) = false := by decide) : PE X (.Name x pos) (vE (mG X) W (gC (.cls x))) :=
  pe_imp (pe_glob (v := .ref C) hg hm rfl hd) fun _ _ _ => vE_pure fun _ _ => .cls hm
/-- a module's constant int -/
theorem ve_gint {x : Str} {i : Int} {pos : Pos} (hg : Gl X x) (hm : ∃ t, X.mg x = some (.int i t)) (hd : (x == ("__debug__" : Str)) = false := by decide) : PE X (.Name x pos) (vE mg W (gC (.int i))) :=
  let ⟨t, e⟩ := hm
  pe_imp (pe_glob (v := .int i) hg e ⟨t, rfl⟩ hd) fun _ _ _ => vE_pure fun _ _ => .int i
/-! ### slots of a frame taken out, put back -/
theorem RE.take : ∀ {ρ : Env} {σ : L2.St} {fps : List Addr}, RE mg F H ρ σ fps → ∀ {i : Nat} {d : D}, ρ[i]? = some (some d) → ∃ v fq rest, σ[i]? = some (some v) ∧ R mg F H v d fq ∧ RE mg F H (ρ.set i none) σ rest ∧ fps.Perm (fq ++ rest)
  | _, _, _, .nil, i, d, h => by simp at h
  | _, _, _, .skip r, 0, d, h => by simp at h
  | _, _, _, .skip r, i + 1, d, h => by
    obtain ⟨v, fq, rest, h1, h2, h3, h4⟩ := r.take (i := i) (d := d) (by simpa using h)
    exact ⟨v, fq, rest, by simpa using h1, h2, .skip h3, h4⟩
  | _, _, _, .cons r rs, 0, d, h => by
    simp at h; subst h
    exact ⟨_, _, _, rfl, r, .skip rs, List.Perm.refl _⟩
  | _, _, _, .cons (fp := fp1) (fps := fp2) r rs, i + 1, d, h => by
    obtain ⟨v, fq, rest, h1, h2, h3, h4⟩ := rs.take (i := i) (d := d) (by simpa using h)
    refine ⟨v, fq, fp1 ++ rest, by simpa using h1, h2, .cons r h3, ?_⟩
    refine (List.Perm.append_left fp1 h4).trans ?_
    rw [← List.append_assoc, ← List.append_assoc]
    exact List.Perm.append_right rest List.perm_append_comm
/-- a slot is stored -/
theorem RE.put : ∀ {ρ : Env} {σ : L2.St} {fps : List Addr}, RE mg F H ρ σ fps → ∀ {i : Nat} {v : V} {d : D} {fq : List Addr}, i < ρ.length → R mg F H v d fq → ∃ gone fps', RE mg F H (ρ.set i (some d)) (σ.set i (some v)) fps' ∧ (fq ++ fps).Perm (gone ++ fps')
  | _, _, _, .nil, i, v, d, fq, h, _ => by simp at h
  | _, _, _, .skip (fp := fp1) r, 0, v, d, fq, _, q => ⟨[], _, .cons q r, List.Perm.refl _⟩
  | _, _, _, .skip r, i + 1, v, d, fq, h, q => by
    obtain ⟨gone, fps', h1, h2⟩ := r.put (i := i) (by simpa using h) q
    exact ⟨gone, fps', .skip h1, h2⟩
  | _, _, _, .cons (fp := fp1) (fps := fp2) r rs, 0, v, d, fq, _, q => by
    refine ⟨fp1, _, .cons q rs, ?_⟩
    rw [← List.append_assoc, ← List.append_assoc]
    exact List.Perm.append_right _ List.perm_append_comm
  | _, _, _, .cons (fp := fp1) (fps := fp2) r rs, i + 1, v, d, fq, h, q => by
    obtain ⟨gone, fps', h1, h2⟩ := rs.put (i := i) (by simpa using h) q
    refine ⟨gone, fp1 ++ fps', .cons r h1, ?_⟩
    have e1 : (fq ++ (fp1 ++ fp2)).Perm (fp1 ++ (fq ++ fp2)) := by
      rw [← List.append_assoc, ← List.append_assoc]
      exact List.Perm.append_right _ List.perm_append_comm
    have e2 : (gone ++ (fp1 ++ fps')).Perm (fp1 ++ (gone ++ fps')) := by
      rw [← List.append_assoc, ← List.append_assoc]
      exact List.Perm.append_right _ List.perm_append_comm
    exact e1.trans ((List.Perm.append_left fp1 h2).trans e2.symm)
/-- a slot is forgotten -/
theorem RE.drop : ∀ {ρ : Env} {σ : L2.St} {fps : List Addr}, RE mg F H ρ σ fps → ∀ (i : Nat), ∃ gone rest, RE mg F H (ρ.set i none) σ rest ∧ fps.Perm (gone ++ rest)
  | _, _, _, .nil, i => ⟨[], [], by simpa using RE.nil, List.Perm.refl _⟩
  | _, _, _, .skip r, 0 => ⟨[], _, .skip r, List.Perm.refl _⟩
  | _, _, _, .skip r, i + 1 => by
    obtain ⟨gone, rest, h1, h2⟩ := r.drop i
    exact ⟨gone, rest, .skip h1, h2⟩
  | _, _, _, .cons r rs, 0 => ⟨_, _, .skip rs, List.Perm.refl _⟩
  | _, _, _, .cons (fp := fp1) (fps := fp2) r rs, i + 1 => by
    obtain ⟨gone, rest, h1, h2⟩ := rs.drop i
    refine ⟨gone, fp1 ++ rest, .cons r h1, (List.Perm.append_left fp1 h2).trans ?_⟩
    rw [← List.append_assoc, ← List.append_assoc]
    exact List.Perm.append_right rest List.perm_append_comm
theorem Gd.perm (g : Gd F H fps) (p : fps.Perm fq) : Gd F H fq := ⟨p.nodup_iff.mp g.nd, fun a m => g.dis a (p.mem_iff.mpr m), g.trk, fun a m => g.own a (p.mem_iff.mpr m)⟩
theorem Gd.sub (g : Gd F H fps) (s : fq.Sublist fps) : Gd F H fq := ⟨g.nd.sublist s, fun a m => g.dis a (s.subset m), g.trk, fun a m => g.own a (s.subset m)⟩
/-- F with more -/
def FS.add (F : FS) (l : List Addr) : FS := fun a => F a ∨ a ∈ l
theorem Gd.add (g : Gd F H (fq ++ fps)) : Gd (F.add fq) H fps := ⟨(List.nodup_append.mp g.nd).2.1, fun a m f => f.elim (g.dis a (List.mem_append_right _ m)) fun z => g.apart z m, fun a f => f.elim (g.trk a) fun m => (g.own a (List.mem_append_left _ m)).trk, fun a m => g.own a (List.mem_append_right _ m)⟩
theorem keeps_add (l : List Addr) : Keeps F (F.add l) H H fp := ⟨fun _ f _ => ⟨.inl f, rfl⟩, fun _ _ => rfl, fun _ _ e => e⟩
theorem Rch.add {rest : List Addr} (h : ∀ a, a ∈ fq ∨ a ∈ rest → a ∈ fps) : Rch F H fps (F.add fq) H rest := ⟨fun _ _ e _ => e, fun _ f => .inl f, fun a f => f.elim .inl fun z => .inr (.inl (h a (.inl z))), fun a m => .inl (h a (.inr m))⟩
theorem vE_var {i : Nat} {Q : VK} (h : vE mg W (gVar i) σ H Q) : tVar i σ H Q := by
  obtain ⟨F, ρ, fps, hE, hG, hP⟩ := h
  unfold gVar at hP
  split at hP
  · rename_i d e
    obtain ⟨v, fq, rest, e1, r, hE', p⟩ := hE.take e
    have g1 : Gd F H (fq ++ rest) := hG.perm p
    have r' : R mg (F.add fq) H v d.fz [] := r.freeze (fun _ f => .inl f) fun _ m => .inr m
    have hil : i < ρ.length := (List.getElem?_eq_some_iff.mp e).1
    obtain ⟨gone, fps', hE2, p2⟩ := (hE'.move (keeps_add fq)).put (i := i) (by simpa using hil) r'
    rw [List.set_set, show σ.set i (some v) = σ from List.ext_getElem? fun j => by
      by_cases hj : i = j
      · subst hj; rw [List.getElem?_set_self (List.getElem?_eq_some_iff.mp e1).1, e1]
      · rw [List.getElem?_set_ne hj]] at hE2
    have g2 : Gd (F.add fq) H (gone ++ fps') := g1.add.perm (by simpa using p2)
    refine ⟨v, e1, hP v (F.add fq) H [] fps' r' hE2 (by simpa using g2.right) ?_⟩
    refine Rch.add fun a m => p.mem_iff.mpr ?_
    rcases m with m | m
    · exact List.mem_append_left _ m
    · exact List.mem_append_right _ ((by simpa using p2 : rest.Perm (gone ++ fps')).mem_iff.mpr (List.mem_append_right _ (by simpa using m)))
  · exact False.elim hP
theorem vE_move {i : Nat} {Q : VK} (h : vE mg W (gMove i) σ H Q) : tVar i σ H Q := by
  obtain ⟨F, ρ, fps, hE, hG, hP⟩ := h
  unfold gMove at hP
  split at hP
  · rename_i d e
    obtain ⟨v, fq, rest, e1, r, hE', p⟩ := hE.take e
    exact ⟨v, e1, hP v F H fq rest r hE' (hG.perm p) ⟨fun _ _ z _ => z, fun _ z => z, fun _ z => .inl z, fun a m => .inl (p.mem_iff.mpr m)⟩⟩
  · exact False.elim hP
theorem ve_var {e : Expr} {i : Nat} (h : PE X e (tVar i)) : PE X e (vE mg W (gVar i)) := pe_imp h fun _ _ _ => vE_var
theorem ve_move {e : Expr} {i : Nat} (h : PE X e (tVar i)) : PE X e (vE mg W (gMove i)) := pe_imp h fun _ _ _ => vE_move

/-! ### displays -/
theorem BorL.len {vs : List V} {ds : List D} (b : BorL mg F H fps vs ds) : vs.length = ds.length := by
  induction b with
  | nil => rfl
  | cons _ _ ih => simp [ih]
def big : Nat := 1000000
theorem big_line : big < sizeLine := by rw [sizeLine_eq]; decide
/-- values, for good: those in slots are frozen there -/
def Ar.own (a : Ar) : M D := match a with
  | .val d => pure d
  | .slot i => gVar i
def gTupD (l : List D) : Option D := if fzdL l then some (.tup l) else none
/-- an operand list, its values alone -/
def vals : List Ar → Option (List D)
  | [] => some []
  | .val d :: as => (vals as).map (d :: ·)
  | .slot _ :: _ => none
theorem RA.vals : ∀ {vs : List V} {as : List Ar} {fp : List Addr} {ds : List D}, RA mg σ F H vs as fp → VL.vals as = some ds → Rs mg F H vs ds fp
  | _, _, _, _, .nil, h => by cases h; exact .nil
  | _, _, _, _, .cons (.val r) rs, h => by
    unfold VL.vals at h
    obtain ⟨ds', e, rfl⟩ := Option.map_eq_some_iff.mp h
    exact .cons r (rs.vals e)
  | _, _, _, _, .cons (.slot _) rs, h => by cases h
def gLst (a : M (List Ar)) : M D := a >>= fun as => lift ((vals as).bind fun ds => if ds.length < big then some (.lst true ds) else none)
def gTuple (a : M (List Ar)) : M D := a >>= fun as => lift ((vals as).bind fun ds => if fzdL ds && decide (ds.length < big) then some (.tup ds) else none)
theorem Rch.alloc {p : Addr} {o : HO} (h : H p = none) {W : List Addr} (F' : FS) (hm : ∀ a, F a → F' a) (hn : ∀ a, F' a → F a ∨ a ∈ W ∨ a = p) {fq : List Addr} (hq : ∀ a ∈ fq, a ∈ W ∨ a = p) : Rch F H W F' (upd H p o) fq where
  keep := fun b u e _ => by rw [upd_ne (ne_of_none e h)]; exact e
  mono := hm
  new := fun a f => by
    rcases hn a f with z | z | rfl
    · exact .inl z
    · exact .inr (.inl z)
    · exact .inr (.inr h)
  fpn := fun a m => by
    rcases hq a m with z | rfl
    · exact .inl z
    · exact .inr h
theorem keeps_alloc {p : Addr} {o : HO} (h : H p = none) (F' : FS) (hm : ∀ a, F a → F' a) (t : ∀ a ∈ fp, Ow H a) : Keeps F F' H (upd H p o) fp where
  fz := fun a f n => ⟨hm a f, upd_ne fun e => n (by rw [e]; exact h)⟩
  ow := fun a m => upd_ne fun e => (t a m).trk (by rw [e]; exact h)
  tp := fun a xs e => by rw [upd_ne (ne_of_none e h)]; exact e
theorem trk_alloc {p : Addr} {o : HO} (g : Gd F H fps) : ∀ a, F a ∨ a = p → upd H p o a ≠ none := fun a f => by
  by_cases e : a = p
  · subst e; rw [upd_same]; exact fun z => nomatch z
  · rw [upd_ne e]; exact g.trk a (f.resolve_right e)
theorem ve_lst {es : List Expr} {a : M (List Ar)} {pos : Pos} (ha : PA X es (vA mg W a)) : PE X (.List es pos) (vE mg W (gLst a)) := by
  refine pe_imp (pe_lst ha) fun σ H Q h => ?_
  refine vX.then h fun as ρ vs F H' fp fps ra hE hG hP => ?_
  cases e : (vals as).bind fun ds => if ds.length < big then some (D.lst true ds) else none with
  | none => rw [e] at hP; exact False.elim hP
  | some d =>
    rw [e] at hP
    obtain ⟨ds, e1, e2⟩ := Option.bind_eq_some_iff.mp e
    split at e2
    · rename_i hb
      cases e2
      have r := ra.vals e1
      have hlen := r.len
      refine ⟨by have := big_line; omega, fun p hp => ?_⟩
      have tr : ∀ a ∈ fp, Ow H' a := r.own
      have te : ∀ a ∈ fps, Ow H' a := hE.own
      have ka := keeps_alloc (o := .lst vs) hp F (fun _ f => f) (fp := fp ++ fps) hG.own
      refine hP (.ref p) F (upd H' p (.lst vs)) (p :: fp) fps (.lstO upd_same (r.move (keeps_alloc hp F (fun _ f => f) tr))) (hE.move (keeps_alloc hp F (fun _ f => f) te)) ⟨?_, ?_, fun a f => trk_alloc hG a (.inl f), ?_⟩ ?_
      · rw [List.cons_append]
        exact List.nodup_cons.mpr ⟨fun m => (hG.own p m).trk hp, hG.nd⟩
      · intro a m f
        rw [List.cons_append] at m
        rcases List.mem_cons.mp m with rfl | m
        · exact hG.trk a f hp
        · exact hG.dis a m f
      · intro a m
        rw [List.cons_append] at m
        rcases List.mem_cons.mp m with rfl | m
        · exact ⟨_, upd_same, fun _ z => nomatch z⟩
        · exact (hG.own a m).eq (ka.ow a m)
      · refine Rch.alloc hp F (fun _ f => f) (fun _ f => .inl f) fun a m => ?_
        rw [List.cons_append] at m
        rcases List.mem_cons.mp m with rfl | m
        · exact .inr rfl
        · exact .inl m
    · cases e2
theorem ve_tup {es : List Expr} {a : M (List Ar)} {x1 : Nat} {pos : Pos} (ha : PA X es (vA mg W a)) : PE X (.Tuple es x1 pos) (vE mg W (gTuple a)) := by
  refine pe_imp (pe_tup ha) fun σ H Q h => ?_
  refine vX.then h fun as ρ vs F H' fp fps ra hE hG hP => ?_
  cases e : (vals as).bind fun ds => if fzdL ds && decide (ds.length < big) then some (D.tup ds) else none with
  | none => rw [e] at hP; exact False.elim hP
  | some d =>
    rw [e] at hP
    obtain ⟨ds, e1, e2⟩ := Option.bind_eq_some_iff.mp e
    split at e2
    · rename_i hb
      cases e2
      rw [Bool.and_eq_true] at hb
      have r := ra.vals e1
      have hlen := r.len
      have hl := of_decide_eq_true hb.2
      have hnil := r.fzd.mp hb.1
      subst hnil
      refine ⟨by have := big_line; omega, fun p hp => ?_⟩
      have ka := keeps_alloc (o := .tup vs) hp F (fun _ f => f) (fp := fps) hE.own
      refine hP (.ref p) F (upd H' p (.tup vs)) [] fps (.tup upd_same (r.move (keeps_alloc hp _ (fun _ f => f) fun _ m => nomatch m))) (hE.move ka) ⟨hG.nd, hG.dis, fun a f => trk_alloc hG a (.inl f), fun a m => (hG.own a m).eq (ka.ow a m)⟩ ?_
      exact Rch.alloc hp _ (fun _ f => f) (fun a f => .inl f) fun a m => .inl m
    · cases e2
end
end VL

set_option Elab.async false
set_option linter.all false
set_option maxRecDepth 100000
set_option maxHeartbeats 2000000
namespace VL
open PySem PySem.Spec PyProof.Rows L2

/-! ### the library's data -/
mutual
def D.py : D → Option PyData
  | .non => some .none
  | .bl b => some (.bool b)
  | .int i => some (.int i)
  | .str s => some (.str s)
  | .tup xs => (pyL xs).map .tuple
  | .ptp xs => (pyL xs).map .tuple
  | .lst _ xs => (pyL xs).map .list
  | .dct _ _ _ => none | .ins _ _ _ => none | .ty _ => none | .cls _ => none | .scr _ => none | .tab _ => none
def pyL : List D → Option (List PyData)
  | [] => some []
  | x :: xs => match x.py, pyL xs with
    | some p, some ps => some (p :: ps)
    | _, _ => none
end
section
variable {mg : MG} {F : FS} {H : Hp} {K : PySem.W.Frag}
mutual
theorem R.dp : ∀ {v : V} {d : D} {fp : List Addr}, R mg F H v d fp → ∀ {p : PyData}, d.py = some p → Dp K H v p
  | _, _, _, .non, p, h => by rw [D.py] at h; cases h; exact .non
  | _, _, _, .bl b, p, h => by rw [D.py] at h; cases h; exact .bl b
  | _, _, _, .int i, p, h => by rw [D.py] at h; cases h; exact .int i
  | _, _, _, .str x, p, h => by rw [D.py] at h; cases h; exact .str x
  | _, _, _, .ty n, p, h => by rw [D.py] at h; cases h
  | _, _, _, .cls m, p, h => by rw [D.py] at h; cases h
  | _, _, _, .scr m, p, h => by rw [D.py] at h; cases h
  | _, _, _, .tabF, p, h => by rw [D.py] at h; cases h
  | _, _, _, .tabO _ _ _ _, p, h => by rw [D.py] at h; cases h
  | _, _, _, .tup e r, p, h => by
    rw [D.py] at h
    obtain ⟨ps, e1, rfl⟩ := Option.map_eq_some_iff.mp h
    exact .tup (.inl (.inl e)) (r.dp e1)
  | _, _, _, .ptp f e o r, p, h => by
    rw [D.py] at h
    obtain ⟨ps, e1, rfl⟩ := Option.map_eq_some_iff.mp h
    exact .tup (.inl (.inr ⟨_, e⟩)) (r.dp e1)
  | _, _, _, .lstF f e r, p, h => by
    rw [D.py] at h
    obtain ⟨ps, e1, rfl⟩ := Option.map_eq_some_iff.mp h
    exact .lst (.inl e) (r.dp e1)
  | _, _, _, .lstO e r, p, h => by
    rw [D.py] at h
    obtain ⟨ps, e1, rfl⟩ := Option.map_eq_some_iff.mp h
    exact .lst (.inl (.inl e)) (r.dp e1)
  | _, _, _, .dctF _ _ _ _ _, p, h => by rw [D.py] at h; cases h
  | _, _, _, .dctO _ _ _ _, p, h => by rw [D.py] at h; cases h
  | _, _, _, .insF _ _ _ _ _, p, h => by rw [D.py] at h; cases h
  | _, _, _, .insO _ _ _ _, p, h => by rw [D.py] at h; cases h
theorem Rs.dp : ∀ {vs : List V} {ds : List D} {fp : List Addr}, Rs mg F H vs ds fp → ∀ {ps : List PyData}, pyL ds = some ps → DpAll K H vs ps
  | _, _, _, .nil, ps, h => by rw [pyL] at h; cases h; exact .nil
  | _, _, _, .cons (d := x) (ds := xs) r rs, ps, h => by
    rw [pyL] at h
    cases e1 : x.py with
    | none => rw [e1] at h; cases h
    | some q =>
      cases e2 : pyL xs with
      | none => rw [e1, e2] at h; cases h
      | some qs =>
        rw [e1, e2] at h
        cases h
        exact .cons (r.dp e1) (rs.dp e2)
end
end
/-- data to be compared: no dict within, not too deep -/
def D.cmp (d : D) : Option PyData := d.py.bind fun p => if p.plain && decide (p.depth ≤ 40) then some p else none
theorem D.cmp_ok {d : D} {p : PyData} (h : d.cmp = some p) : d.py = some p ∧ p.plain = true ∧ p.depth ≤ 40 := by
  unfold D.cmp at h
  obtain ⟨q, e1, e2⟩ := Option.bind_eq_some_iff.mp h
  split at e2
  · rename_i c
    cases e2
    rw [Bool.and_eq_true] at c
    exact ⟨e1, c.1, of_decide_eq_true c.2⟩
  · cases e2

section
variable {mg : MG} {W : WX} {σ : L2.St} {F F' : FS} {H H' : Hp} {fp fps fq : List Addr} {ρ : Env} {X : Cx}
theorem Fin.flat {d : D} {v : V} {Q : VK} (h : Fin mg F H d Q) (r : R mg F H v d []) (g : Gd F H fps) : Q v H := h v F H [] r g.nil Rch.refl
theorem Fin.bl {b : Bool} {Q : VK} (h : Fin mg F H (.bl b) Q) (g : Gd F H fps) : Q (.bl b) H := h.flat (.bl b) g
theorem Fin.int {i : Int} {Q : VK} (h : Fin mg F H (.int i) Q) (g : Gd F H fps) : Q (.int i) H := h.flat (.int i) g
theorem Fin.str {i : Str} {Q : VK} (h : Fin mg F H (.str i) Q) (g : Gd F H fps) : Q (.str i) H := h.flat (.str i) g
/-- a new list of frozen items -/
theorem Fin.lst {ds : List D} {vs : List V} {Q : VK} (h : Fin mg F H (.lst true ds) Q) (r : Rs mg F H vs ds []) (g : Gd F H fps) : ∀ p, H p = none → Q (.ref p) (upd H p (.lst vs)) := fun p hp =>
  h (.ref p) F (upd H p (.lst vs)) [p] (.lstO upd_same (r.move (keeps_alloc hp F (fun _ f => f) fun _ m => nomatch m))) ⟨by simp, fun a m f => by
    rw [List.mem_singleton] at m
    subst m
    exact g.trk a f hp, fun a f => trk_alloc g a (.inl f), fun a m => by
    rw [List.mem_singleton] at m
    subst m
    exact ⟨_, upd_same, fun _ z => nomatch z⟩⟩ (Rch.alloc hp F (fun _ f => f) (fun _ f => .inl f) fun a m => .inr (by simpa using m))
theorem Fin.tup {ds : List D} {vs : List V} {Q : VK} (h : Fin mg F H (.tup ds) Q) (r : Rs mg F H vs ds []) (g : Gd F H fps) : ∀ p, H p = none → Q (.ref p) (upd H p (.tup vs)) := fun p hp =>
  h (.ref p) F (upd H p (.tup vs)) [] (.tup upd_same (r.move (keeps_alloc hp _ (fun _ f => f) fun _ m => nomatch m))) ⟨List.nodup_nil, fun a m => (nomatch m), fun a f => trk_alloc g a (.inl f), fun a m => (nomatch m)⟩ (Rch.alloc hp _ (fun _ f => f) (fun a f => .inl f) fun a m => (nomatch m))

/-! ### inversions -/
theorem Bor.int {v : V} {i : Int} (b : Bor mg F H fps v (.int i)) : v = .int i := by obtain ⟨_, r, _⟩ := b; cases r; rfl
theorem Bor.bl {v : V} {i : Bool} (b : Bor mg F H fps v (.bl i)) : v = .bl i := by obtain ⟨_, r, _⟩ := b; cases r; rfl
theorem Bor.str {v : V} {i : Str} (b : Bor mg F H fps v (.str i)) : v = .str i := by obtain ⟨_, r, _⟩ := b; cases r; rfl
theorem Bor.non {v : V} (b : Bor mg F H fps v .non) : v = .non := by obtain ⟨_, r, _⟩ := b; cases r; rfl
theorem Bor.dp {v : V} {d : D} {p : PyData} {K : PySem.W.Frag} (b : Bor mg F H fps v d) (h : d.py = some p) : Dp K H v p := by obtain ⟨_, r, _⟩ := b; exact r.dp h
theorem Bor.lst {v : V} {o : Bool} {ds : List D} (b : Bor mg F H fps v (.lst o ds)) : ∃ a xs fq, v = .ref a ∧ Rd H a (.lst xs) ∧ Rs mg F H xs ds fq := by
  obtain ⟨_, r, _⟩ := b
  cases r with
  | lstF f e r => exact ⟨_, _, _, rfl, e, r⟩
  | lstO e r => exact ⟨_, _, _, rfl, .inl e, r⟩
theorem Bor.tup {v : V} {ds : List D} (b : Bor mg F H fps v (.tup ds)) : ∃ a xs, v = .ref a ∧ H a = some (.tup xs) ∧ Rs mg F H xs ds [] := by
  obtain ⟨_, r, _⟩ := b
  cases r with
  | tup e r => exact ⟨_, _, rfl, e, r⟩
theorem Bor.dct {v : V} {o t : Bool} {ds : List (DK × D)} (b : Bor mg F H fps v (.dct o t ds)) : ∃ a ob kvs fq, v = .ref a ∧ Rd H a ob ∧ DHO t ob kvs ∧ kvs.map (·.1) = ds.map (·.1) ∧ Rs mg F H (kvs.map (·.2)) (ds.map (·.2)) fq := by
  obtain ⟨_, r, _⟩ := b
  cases r with
  | dctF f e o q r => exact ⟨_, _, _, _, rfl, e, o, q, r⟩
  | dctO e o q r => exact ⟨_, _, _, _, rfl, .inl e, o, q, r⟩
theorem Bor.dctO {v : V} {t : Bool} {ds : List (DK × D)} (b : Bor mg F H fps v (.dct true t ds)) : ∃ a ob kvs fq, v = .ref a ∧ H a = some ob ∧ DHO t ob kvs ∧ kvs.map (·.1) = ds.map (·.1) ∧ Rs mg F H (kvs.map (·.2)) (ds.map (·.2)) fq := by
  obtain ⟨_, r, _⟩ := b
  cases r with
  | dctO e o q r => exact ⟨_, _, _, _, rfl, e, o, q, r⟩
theorem Bor.ins {v : V} {o : Bool} {c : Str} {ds : List (Str × D)} (b : Bor mg F H fps v (.ins o c ds)) : ∃ a C dx vs fq, v = .ref a ∧ H a = some (.ins C dx vs) ∧ mg c = some (.ref C) ∧ vs.map (·.1) = ds.map (·.1) ∧ Rs mg F H (vs.map (·.2)) (ds.map (·.2)) fq := by
  obtain ⟨_, r, _⟩ := b
  cases r with
  | insF f e m q r => exact ⟨_, _, _, _, _, rfl, e, m, q, r⟩
  | insO e m q r => exact ⟨_, _, _, _, _, rfl, e, m, q, r⟩
theorem Rs.get : ∀ {vs : List V} {ds : List D} {fp : List Addr}, Rs mg F H vs ds fp → ∀ {i : Nat} {d : D}, ds[i]? = some d → ∃ v fq, vs[i]? = some v ∧ R mg F H v d fq ∧ ∀ a ∈ fq, a ∈ fp
  | _, _, _, .nil, i, d, h => by simp at h
  | _, _, _, .cons r rs, 0, d, h => by
    simp at h; subst h
    exact ⟨_, _, rfl, r, fun a m => List.mem_append_left _ m⟩
  | _, _, _, .cons r rs, i + 1, d, h => by
    obtain ⟨v, fq, h1, h2, h3⟩ := rs.get (i := i) (d := d) (by simpa using h)
    exact ⟨v, fq, by simpa using h1, h2, fun a m => List.mem_append_right _ (h3 a m)⟩
theorem Rs.app : ∀ {vs ws : List V} {ds es : List D} {fp fq : List Addr}, Rs mg F H vs ds fp → Rs mg F H ws es fq → Rs mg F H (vs ++ ws) (ds ++ es) (fp ++ fq)
  | _, _, _, _, _, _, .nil, q => q
  | _, _, _, _, _, _, .cons r rs, q => by
    rw [List.append_assoc]
    exact .cons r (rs.app q)
theorem Rs.nilfp {vs : List V} {ds : List D} {fp : List Addr} (r : Rs mg F H vs ds fp) (h : fzdL ds = true) : Rs mg F H vs ds [] := by
  have e := r.fzd.mp h
  subst e
  exact r
theorem R.nilfp {v : V} {d : D} {fp : List Addr} (r : R mg F H v d fp) (h : d.fzd = true) : R mg F H v d [] := by
  have e := r.fzd.mp h
  subst e
  exact r
theorem Rs.uncons {v : V} {vs : List V} {d : D} {ds : List D} {fp : List Addr} (r : Rs mg F H (v :: vs) (d :: ds) fp) (h : fp = []) : R mg F H v d [] ∧ Rs mg F H vs ds [] := by
  cases r with
  | cons r rs =>
    have := List.append_eq_nil_iff.mp h
    rw [this.1] at r
    rw [this.2] at rs
    exact ⟨r, rs⟩
theorem Rs.drop : ∀ {vs : List V} {ds : List D} (n : Nat), Rs mg F H vs ds [] → Rs mg F H (vs.drop n) (ds.drop n) []
  | _, _, 0, r => r
  | [], [], n + 1, .nil => .nil
  | v :: vs, d :: ds, n + 1, r => (r.uncons rfl).2.drop n
theorem Rs.take : ∀ {vs : List V} {ds : List D} (n : Nat), Rs mg F H vs ds [] → Rs mg F H (vs.take n) (ds.take n) []
  | _, _, 0, r => .nil
  | [], [], n + 1, .nil => .nil
  | v :: vs, d :: ds, n + 1, r => .cons (fp := []) (fps := []) (r.uncons rfl).1 ((r.uncons rfl).2.take n)

/-! ### comparisons -/
section
variable {pins : List (Addr × Obj)} {s : Shared}
def rEqP (K : PySem.W.Frag) : R2 := fun x y H Q => ∃ d e, Dp K H x d ∧ Dp K H y e ∧ d.plain = true ∧ e.plain = true ∧ d.depth ≤ 40 ∧ Q (.bl (PyData.eqv d e)) H
def rNeP (K : PySem.W.Frag) : R2 := fun x y H Q => ∃ d e, Dp K H x d ∧ Dp K H y e ∧ d.plain = true ∧ e.plain = true ∧ d.depth ≤ 40 ∧ Q (.bl (!PyData.eqv d e)) H
theorem op_eqP (hu : X.A.units + 64 < cLine) : OpR X (compareOp .Eq) (rEqP X.K) := by
  intro pins s σ H x y v u Q I rx ry h
  obtain ⟨d, e, hd, he, pd, pe, dd, q⟩ := h
  obtain ⟨as, r1⟩ := Dp.reads I d x v hd rx
  obtain ⟨bs, r2⟩ := Dp.reads I e y u he ry
  exact PySem.SeqAt.eq_plain r1 r2 pd pe (by omega) ⟨.bl _, H, I, rfl, q⟩
theorem op_neP (hu : X.A.units + 64 < cLine) : OpR X (compareOp .NotEq) (rNeP X.K) := by
  intro pins s σ H x y v u Q I rx ry h
  obtain ⟨d, e, hd, he, pd, pe, dd, q⟩ := h
  obtain ⟨as, r1⟩ := Dp.reads I d x v hd rx
  obtain ⟨bs, r2⟩ := Dp.reads I e y u he ry
  exact PySem.SeqAt.ne_plain r1 r2 pd pe (by omega) ⟨.bl _, H, I, rfl, q⟩
def rCmpP (K : PySem.W.Frag) (g : PyData → PyData → Bool) : R2 := fun x y H Q => ∃ d e, Dp K H x d ∧ Dp K H y e ∧ PySem.W.alike d e = true ∧ d ≠ .none ∧ d.depth ≤ 40 ∧ Q (.bl (g d e)) H
theorem op_ltP (hu : X.A.units + 64 < cLine) : OpR X (compareOp .Lt) (rCmpP X.K fun d e => PySem.W.dataLt d e) := by
  intro pins s σ H x y v u Q I rx ry h
  obtain ⟨d, e, hd, he, al, nn, dd, q⟩ := h
  obtain ⟨as, r1⟩ := Dp.reads I d x v hd rx
  obtain ⟨bs, r2⟩ := Dp.reads I e y u he ry
  exact PySem.W.lt_data r1 r2 al nn (by omega) ⟨.bl _, H, I, rfl, q⟩
theorem op_gtP (hu : X.A.units + 64 < cLine) : OpR X (compareOp .Gt) (rCmpP X.K fun d e => PySem.W.dataLt e d) := by
  intro pins s σ H x y v u Q I rx ry h
  obtain ⟨d, e, hd, he, al, nn, dd, q⟩ := h
  obtain ⟨as, r1⟩ := Dp.reads I d x v hd rx
  obtain ⟨bs, r2⟩ := Dp.reads I e y u he ry
  exact PySem.W.gt_data r1 r2 al nn (by omega) ⟨.bl _, H, I, rfl, q⟩
theorem op_leP (hu : X.A.units + 64 < cLine) : OpR X (compareOp .LtE) (rCmpP X.K fun d e => !PySem.W.dataLt e d) := by
  intro pins s σ H x y v u Q I rx ry h
  obtain ⟨d, e, hd, he, al, nn, dd, q⟩ := h
  obtain ⟨as, r1⟩ := Dp.reads I d x v hd rx
  obtain ⟨bs, r2⟩ := Dp.reads I e y u he ry
  exact PySem.W.le_data r1 r2 al nn (by omega) ⟨.bl _, H, I, rfl, q⟩
theorem op_geP (hu : X.A.units + 64 < cLine) : OpR X (compareOp .GtE) (rCmpP X.K fun d e => !PySem.W.dataLt d e) := by
  intro pins s σ H x y v u Q I rx ry h
  obtain ⟨d, e, hd, he, al, nn, dd, q⟩ := h
  obtain ⟨as, r1⟩ := Dp.reads I d x v hd rx
  obtain ⟨bs, r2⟩ := Dp.reads I e y u he ry
  exact PySem.W.ge_data r1 r2 al nn (by omega) ⟨.bl _, H, I, rfl, q⟩
end
def fEq (d e : D) : Option D := match d.cmp, e.cmp with
  | some p, some q => some (.bl (PyData.eqv p q))
  | _, _ => none
def fNe (d e : D) : Option D := match d.cmp, e.cmp with
  | some p, some q => some (.bl (!PyData.eqv p q))
  | _, _ => none
def pyNone : PyData → Bool
  | .none => true
  | _ => false
/-- an order: ints at once, else alike data -/
def fCmp (gi : Int → Int → Bool) (g : PyData → PyData → Bool) (d e : D) : Option D := match d, e with
  | .int i, .int j => some (.bl (gi i j))
  | d, e => match d.cmp, e.cmp with
    | some p, some q => if PySem.W.alike p q && !pyNone p then some (.bl (g p q)) else none
    | _, _ => none
abbrev fLt := fCmp (fun i j => decide (i < j)) fun d e => PySem.W.dataLt d e
abbrev fGt := fCmp (fun i j => decide (j < i)) fun d e => PySem.W.dataLt e d
abbrev fLe := fCmp (fun i j => decide (i ≤ j)) fun d e => !PySem.W.dataLt e d
abbrev fGe := fCmp (fun i j => decide (j ≤ i)) fun d e => !PySem.W.dataLt d e
theorem ops_eq {K : PySem.W.Frag} : OpS2 mg (rEqP K) fEq := by
  intro F H fps v w d e d' Q g b1 b2 h q
  unfold fEq at h
  split at h
  · rename_i p1 p2 e1 e2
    cases h
    obtain ⟨a1, a2, a3⟩ := D.cmp_ok e1
    obtain ⟨c1, c2, c3⟩ := D.cmp_ok e2
    exact ⟨p1, p2, b1.dp a1, b2.dp c1, a2, c2, a3, q.bl g⟩
  · cases h
theorem ops_ne {K : PySem.W.Frag} : OpS2 mg (rNeP K) fNe := by
  intro F H fps v w d e d' Q g b1 b2 h q
  unfold fNe at h
  split at h
  · rename_i p1 p2 e1 e2
    cases h
    obtain ⟨a1, a2, a3⟩ := D.cmp_ok e1
    obtain ⟨c1, c2, c3⟩ := D.cmp_ok e2
    exact ⟨p1, p2, b1.dp a1, b2.dp c1, a2, c2, a3, q.bl g⟩
  · cases h
theorem ops_cmp {K : PySem.W.Frag} {gi : Int → Int → Bool} {g : PyData → PyData → Bool} : OpS2 mg (fun x y H Q => rI0 (fun i j => .bl (gi i j)) x y H Q ∨ rCmpP K g x y H Q) (fCmp gi g) := by
  intro F H fps v w d e d' Q gd b1 b2 h q
  unfold fCmp at h
  split at h
  · rename_i i j
    cases h
    exact .inl ⟨i, j, b1.int, b2.int, q.bl gd⟩
  · split at h
    · rename_i p1 p2 e1 e2
      split at h
      · rename_i c
        cases h
        rw [Bool.and_eq_true] at c
        obtain ⟨a1, a2, a3⟩ := D.cmp_ok e1
        obtain ⟨c1, c2, c3⟩ := D.cmp_ok e2
        refine .inr ⟨p1, p2, b1.dp a1, b2.dp c1, c.1, fun z => ?_, a3, q.bl gd⟩
        subst z
        exact nomatch c.2
      · cases h
    · cases h
end
end VL

set_option Elab.async false
set_option linter.all false
set_option maxRecDepth 100000
set_option maxHeartbeats 2000000
namespace VL
open PySem PySem.Spec PyProof.Rows L2

section
variable {mg : MG} {W : WX} {σ : L2.St} {F F' : FS} {H H' : Hp} {fp fps fq : List Addr} {ρ : Env} {X : Cx}
/-! ### arithmetic -/
/-- a bound that is asked of small things alone: told by Nat.blt -/
def within (n : Nat) (i : Int) : Bool := Nat.blt i.natAbs n
theorem within_iff {n : Nat} {i : Int} : within n i = true ↔ i.natAbs < n := by
  unfold within
  exact iff_of_eq Nat.blt_eq
def small64 (i : Int) : Bool := within 18446744073709551616 i
theorem small64_iff {i : Int} : small64 i = true ↔ (-(2 ^ 64) < i ∧ i < 2 ^ 64) := by
  unfold small64
  rw [within_iff]
  omega
def fSub (d e : D) : Option D := match d, e with
  | .int i, .int j => some (.int (i - j))
  | _, _ => none
def fMul (d e : D) : Option D := match d, e with
  | .int i, .int j => if small64 i || small64 j then some (.int (i * j)) else none
  | _, _ => none
def fDiv (d e : D) : Option D := match d, e with
  | .int i, .int j => if decide (0 < j) && within 1073741824 j then some (.int (i / j)) else none
  | _, _ => none
def fMod (d e : D) : Option D := match d, e with
  | .int i, .int j => if decide (0 < j) then some (.int (i % j)) else none
  | _, _ => none
def fPow (d e : D) : Option D := match d, e with
  | .int i, .int j => if decide (0 ≤ j) && decide (j ≤ 1000) && decide (i.natAbs < 2 ^ 60) then some (.int (i ^ j.toNat)) else none
  | _, _ => none
def fNeg (d : D) : Option D := match d with
  | .int i => some (.int (-i))
  | _ => none
def fAdd (d e : D) : Option D := match d, e with
  | .int i, .int j => some (.int (i + j))
  | .lst _ xs, .lst _ ys => if fzdL xs && fzdL ys && decide (xs.length + ys.length < big) then some (.lst true (xs ++ ys)) else none
  | .tup xs, .tup ys => if decide (xs.length + ys.length < big) then some (.tup (xs ++ ys)) else none
  | .str x, .str y => if decide (x.length + y.length < big) then some (.str (x ++ y)) else none
  | _, _ => none
theorem ops_sub : OpS2 mg (rI0 fun i j => .int (i - j)) fSub := by
  intro F H fps v w d e d' Q g b1 b2 h q
  unfold fSub at h
  split at h
  · cases h
    exact ⟨_, _, b1.int, b2.int, q.int g⟩
  · cases h
theorem ops_mul : OpS2 mg (rI CMul fun i j => .int (i * j)) fMul := by
  intro F H fps v w d e d' Q g b1 b2 h q
  unfold fMul at h
  split at h
  · split at h
    · rename_i c
      cases h
      refine ⟨_, _, b1.int, b2.int, ?_, q.int g⟩
      simp only [Bool.or_eq_true, small64_iff] at c
      exact c
    · cases h
  · cases h
theorem ops_div : OpS2 mg (rI CDiv fun i j => .int (i / j)) fDiv := by
  intro F H fps v w d e d' Q g b1 b2 h q
  unfold fDiv at h
  split at h
  · split at h
    · rename_i c
      cases h
      simp only [Bool.and_eq_true, decide_eq_true_eq, within_iff] at c
      exact ⟨_, _, b1.int, b2.int, ⟨c.1, by omega⟩, q.int g⟩
    · cases h
  · cases h
theorem ops_mod : OpS2 mg (rI (fun _ j => 0 < j) fun i j => .int (i % j)) fMod := by
  intro F H fps v w d e d' Q g b1 b2 h q
  unfold fMod at h
  split at h
  · split at h
    · rename_i c
      cases h
      exact ⟨_, _, b1.int, b2.int, of_decide_eq_true c, q.int g⟩
    · cases h
  · cases h
theorem ops_pow : OpS2 mg (rI CPow fun i j => .int (i ^ j.toNat)) fPow := by
  intro F H fps v w d e d' Q g b1 b2 h q
  unfold fPow at h
  split at h
  · split at h
    · rename_i c
      cases h
      simp only [Bool.and_eq_true, decide_eq_true_eq] at c
      exact ⟨_, _, b1.int, b2.int, ⟨c.1.1, by omega, by omega⟩, q.int g⟩
    · cases h
  · cases h
theorem ops_neg : OpS1 mg (rU fun i => .int (-i)) fNeg := by
  intro F H fps v d d' Q g b1 h q
  unfold fNeg at h
  split at h
  · cases h
    exact ⟨_, b1.int, q.int g⟩
  · cases h
/-- list + list, whatever holds them -/
def rCatR : R2 := fun x y H Q => ∃ l b xs zs, x = .ref l ∧ y = .ref b ∧ Rd H l (.lst xs) ∧ Rd H b (.lst zs) ∧ xs.length + zs.length ≤ sizeLine ∧ ∀ p, H p = none → Q (.ref p) (upd H p (.lst (xs ++ zs)))
theorem op_catR : OpR X (binaryOp .Add) rCatR := by
  intro pins s σ H x y v u Q I rx ry h
  obtain ⟨l, b, xs, zs, rfl, rfl, hH, hB, hz, q⟩ := h
  cases rx
  cases ry
  obtain ⟨z, its, n, r, e⟩ := (show ObjOk X.prog X.w H s.heap l (.lst xs) from hH.ok I.hok)
  obtain ⟨z2, its2, n2, r2, e2⟩ := (show ObjOk X.prog X.w H s.heap b (.lst zs) from hB.ok I.hok)
  have hl := r.length
  have hl2 := r2.length
  refine PySem.P.add_list e e2 ?_ (by rw [List.size_toArray, List.size_toArray]; omega)
  have ea : its.toArray ++ its2.toArray = (its ++ its2).toArray := by simp
  rw [ea]
  exact ⟨.ref _, _, I.lnew (t' := s.toks) (r.append r2) (by rw [List.length_append]; omega), rfl, q _ I.fresh⟩
def rAddA (K : PySem.W.Frag) : R2 := fun x y H Q => rI0 (fun i j => .int (i + j)) x y H Q ∨ rCatR x y H Q ∨ rCatA K x y H Q ∨ (∃ i j, x = .str i ∧ y = .str j ∧ i.length + j.length ≤ sizeLine ∧ Q (.str (i ++ j)) H)
theorem op_addA : OpR X (binaryOp .Add) (rAddA X.K) := op_add.or (op_catR.or (op_catA.or op_add_str))
theorem fzdL_app (xs ys : List D) : fzdL (xs ++ ys) = (fzdL xs && fzdL ys) := by simp [fzdL_all]
theorem ops_add {K : PySem.W.Frag} : OpS2 mg (rAddA K) fAdd := by
  intro F H fps v w d e d' Q g b1 b2 h q
  unfold fAdd at h
  have hb := big_line
  split at h
  · cases h
    exact .inl ⟨_, _, b1.int, b2.int, q.int g⟩
  · split at h
    · rename_i c
      cases h
      simp only [Bool.and_eq_true, decide_eq_true_eq] at c
      obtain ⟨a, xs, fq, rfl, e1, r1⟩ := b1.lst
      obtain ⟨b, ys, fr, rfl, e2, r2⟩ := b2.lst
      have r1' := r1.nilfp c.1.1
      have r2' := r2.nilfp c.1.2
      have l1 := r1.len
      have l2 := r2.len
      exact .inr (.inl ⟨a, b, xs, ys, rfl, rfl, e1, e2, by omega, q.lst (r1'.app r2') g⟩)
    · cases h
  · split at h
    · rename_i c
      cases h
      obtain ⟨a, xs, rfl, e1, r1⟩ := b1.tup
      obtain ⟨b, ys, rfl, e2, r2⟩ := b2.tup
      have l1 := r1.len
      have l2 := r2.len
      have cc := of_decide_eq_true c
      refine .inr (.inr (.inl ⟨a, b, xs, ys, rfl, rfl, .inl (.inl e1), .inl (.inl e2), by omega, fun z => ?_, fun _ z => ?_, fun _ _ => q.tup (r1.app r2) g⟩))
      · subst z
        cases r1
        exact q.flat (.tup e2 r2) g
      · subst z
        cases r2
        rw [List.append_nil] at q
        exact q.flat (.tup e1 r1) g
    · cases h
  · split at h
    · rename_i c
      cases h
      have cc := of_decide_eq_true c
      exact .inr (.inr (.inr ⟨_, _, b1.str, b2.str, by omega, q.str g⟩))
    · cases h
  · cases h
/-! ### is None -/
def D.isNon : D → Bool
  | .non => true
  | _ => false
theorem R.non_iff {v : V} {d : D} (r : R mg F H v d fp) : decide (v = .non) = d.isNon := by
  cases r <;> simp [D.isNon]
def fIsN (d : D) : Option D := some (.bl d.isNon)
def fNotN (d : D) : Option D := some (.bl (!d.isNon))
theorem ops_isN : OpS1 mg (fun x H Q => Q (.bl (decide (x = .non))) H) fIsN := by
  intro F H fps v d d' Q g b1 h q
  obtain ⟨_, r, _⟩ := b1
  show Q (.bl (decide (v = .non))) H
  rw [r.non_iff]
  cases h; exact q.bl g
theorem ops_notN : OpS1 mg (fun x H Q => Q (.bl (!decide (x = .non))) H) fNotN := by
  intro F H fps v d d' Q g b1 h q
  obtain ⟨_, r, _⟩ := b1
  show Q (.bl (!decide (v = .non))) H
  rw [r.non_iff]
  cases h; exact q.bl g
/-! ### dicts by keys -/
def keyOf (d : D) : Option Key := match d with
  | .int i => some (.inl i)
  | .str s => some (.inr s)
  | _ => none
def keysOf : List D → Option (List Key)
  | [] => some []
  | d :: ds => match keyOf d, keysOf ds with
    | some k, some ks => some (k :: ks)
    | _, _ => none
def dkey (d : D) : Option DK := match d with
  | .int i => some (.k (.inl i))
  | .str s => some (.k (.inr s))
  | .tup ds => (keysOf ds).map .t
  | _ => none
def kget {α : Type} (kvs : List (DK × α)) (k : DK) : Option α := (kvs.find? fun kv => decide (kv.1 = k)).map (·.2)
def kput {α : Type} (kvs : List (DK × α)) (k : DK) (v : α) : List (DK × α) :=
  if (kvs.any fun kv => decide (kv.1 = k)) = true then kvs.map (fun kv => if kv.1 = k then (kv.1, v) else kv) else kvs ++ [(k, v)]
def DK.isK : DK → Bool
  | .k _ => true
  | .t _ => false
theorem keyOf_kV {v : V} {d : D} {k : Key} (r : R mg F H v d fp) (h : keyOf d = some k) : v = kV k := by
  cases r <;> first | (cases h; rfl) | cases h
theorem keysOf_kV : ∀ {vs : List V} {ds : List D} {fp : List Addr} {ks : List Key}, Rs mg F H vs ds fp → keysOf ds = some ks → vs = ks.map kV
  | _, _, _, _, .nil, h => by cases h; rfl
  | _, _, _, _, .cons (d := d) (ds := ds) r rs, h => by
    unfold keysOf at h
    cases e1 : keyOf d with
    | none => rw [e1] at h; cases h
    | some k =>
      cases e2 : keysOf ds with
      | none => rw [e1, e2] at h; cases h
      | some ks =>
        rw [e1, e2] at h
        cases h
        rw [keyOf_kV r e1, keysOf_kV rs e2]
        rfl
theorem find_map {κ : Type} [DecidableEq κ] {α : Type} (f : κ → DK) (hf : ∀ a b, f a = f b → a = b) (l : List (κ × α)) (k : κ) : kget (l.map fun p => (f p.1, p.2)) (f k) = (l.find? fun kv => decide (kv.1 = k)).map (·.2) := by
  induction l with
  | nil => rfl
  | cons p l ih =>
    by_cases e : p.1 = k
    · subst e; simp [kget]
    · have e' : ¬ f p.1 = f k := fun z => e (hf _ _ z)
      simp only [kget, List.map_cons, List.find?_cons, e, e', decide_false] at ih ⊢
      exact ih
theorem kget_rel : ∀ {l : List (DK × V)} {m : List (DK × D)} {fp : List Addr} {k : DK} {d : D}, l.map (·.1) = m.map (·.1) → Rs mg F H (l.map (·.2)) (m.map (·.2)) fp → kget m k = some d → ∃ v fq, kget l k = some v ∧ R mg F H v d fq ∧ ∀ a ∈ fq, a ∈ fp
  | [], [], _, k, d, _, _, h => by cases h
  | p :: l, q :: m, _, k, d, e, .cons r rs, h => by
    simp only [List.map_cons, List.cons.injEq] at e
    by_cases c : q.1 = k
    · have c' : p.1 = k := e.1.trans c
      simp only [kget, List.find?_cons, c, c', decide_true, Option.map_some, Option.some.injEq] at h ⊢
      subst h
      exact ⟨_, _, rfl, r, fun a x => List.mem_append_left _ x⟩
    · have c' : ¬ p.1 = k := fun z => c (e.1.symm.trans z)
      simp only [kget, List.find?_cons, c, c', decide_false] at h ⊢
      obtain ⟨v, fq, h1, h2, h3⟩ := kget_rel e.2 rs h
      exact ⟨v, fq, h1, h2, fun a x => List.mem_append_right _ (h3 a x)⟩
theorem kget_none : ∀ {l : List (DK × V)} {m : List (DK × D)} {k : DK}, l.map (·.1) = m.map (·.1) → (kget l k).isSome = (kget m k).isSome
  | [], [], k, _ => rfl
  | p :: l, q :: m, k, e => by
    simp only [List.map_cons, List.cons.injEq] at e
    by_cases c : q.1 = k
    · have c' : p.1 = k := e.1.trans c
      simp [kget, List.find?_cons, c, c']
    · have c' : ¬ p.1 = k := fun z => c (e.1.symm.trans z)
      have ih := kget_none (k := k) e.2
      simp only [kget, List.find?_cons, c, c', decide_false] at ih ⊢
      exact ih
  | [], _ :: _, _, e => by cases e
  | _ :: _, [], _, e => by cases e
theorem DK.k_inj : ∀ a b, DK.k a = DK.k b → a = b := fun _ _ e => by injection e
theorem DK.t_inj : ∀ a b, DK.t a = DK.t b → a = b := fun _ _ e => by injection e
/-- what a dict holds at a key -/
theorem dget_of {a : Addr} {t : Bool} {ob : HO} {kvs : List (DK × V)} {y : V} {k : D} {dk : DK} (e : Rd H a ob) (o : DHO t ob kvs) (rk : R mg F H y k fp) (hk : dkey k = some dk) (ht : dk.isK = !t) : DGet H a y (kget kvs dk) := by
  rcases o with ⟨rfl, l, rfl, rfl⟩ | ⟨rfl, l, rfl, rfl⟩
  · cases dk with
    | t ks => simp [DK.isK] at ht
    | k k0 =>
      refine .inl ⟨l, k0, e, ?_, find_map DK.k DK.k_inj l k0⟩
      cases rk <;> first | (unfold dkey at hk; simp only [Option.some.injEq, DK.k.injEq] at hk; subst hk; rfl) | (unfold dkey at hk; simp at hk)
  · cases dk with
    | k k0 => simp [DK.isK] at ht
    | t ks =>
      cases rk with
      | tup et rt =>
        unfold dkey at hk
        obtain ⟨ks', e1, e2⟩ := Option.map_eq_some_iff.mp hk
        cases e2
        have ev := keysOf_kV rt e1
        subst ev
        exact .inr ⟨l, ks, _, e, rfl, et, find_map DK.t DK.t_inj l ks⟩
      | _ => unfold dkey at hk; simp at hk
end
end VL

set_option Elab.async false
set_option linter.all false
set_option maxRecDepth 100000
set_option maxHeartbeats 2000000
namespace VL
open PySem PySem.Spec PyProof.Rows L2

section
variable {mg : MG} {W : WX} {σ : L2.St} {F F' : FS} {H H' : Hp} {fp fps fq : List Addr} {ρ : Env} {X : Cx}
/-! ### x in c -/
def rInP (K : PySem.W.Frag) (neg : Bool) : R2 := fun x y H Q => ∃ d ds, Dp K H x d ∧ (Dp K H y (.list ds) ∨ Dp K H y (.tuple ds)) ∧ d.plain = true ∧ PyData.plainAll ds = true ∧ d.depth ≤ 40 ∧ Q (.bl (if neg then !ds.any fun z => PyData.eqv z d else ds.any fun z => PyData.eqv z d)) H
theorem op_inP (hu : X.A.units + 64 < cLine) : OpR X (compareOp .In) (rInP X.K false) := by
  intro pins s σ H x y v u Q I rx ry h
  obtain ⟨d, ds, hd, he, pd, pe, dd, q⟩ := h
  obtain ⟨as, r1⟩ := Dp.reads I d x v hd rx
  rcases he with he | he
  · obtain ⟨bs, r2⟩ := Dp.reads I _ y u he ry
    exact PySem.SeqAt.in_list_data r2 r1 pe pd (by omega) ⟨.bl _, H, I, rfl, q⟩
  · obtain ⟨bs, r2⟩ := Dp.reads I _ y u he ry
    exact PySem.SeqAt.in_tuple_data r2 r1 pe pd (by omega) ⟨.bl _, H, I, rfl, q⟩
theorem op_notInP (hu : X.A.units + 64 < cLine) : OpR X (compareOp .NotIn) (rInP X.K true) := by
  intro pins s σ H x y v u Q I rx ry h
  obtain ⟨d, ds, hd, he, pd, pe, dd, q⟩ := h
  obtain ⟨as, r1⟩ := Dp.reads I d x v hd rx
  rcases he with he | he
  · obtain ⟨bs, r2⟩ := Dp.reads I _ y u he ry
    exact PySem.SeqAt.notIn_list_data r2 r1 pe pd (by omega) ⟨.bl _, H, I, rfl, q⟩
  · obtain ⟨bs, r2⟩ := Dp.reads I _ y u he ry
    exact PySem.SeqAt.notIn_tuple_data r2 r1 pe pd (by omega) ⟨.bl _, H, I, rfl, q⟩
/-- y in d, by values -/
theorem op_inD (hu : X.A.units + 64 < cLine) (neg : Bool) : OpR X (compareOp (if neg then .NotIn else .In)) (fun y x H Q => ∃ a o, x = .ref a ∧ DGet H a y o ∧ Q (.bl (if neg then !o.isSome else o.isSome)) H) := by
  intro pins s σ H x y v u Q I rx ry h
  obtain ⟨a, o, rfl, g, q⟩ := h
  obtain rfl : u = Value.ref a := ry
  cases neg with
  | true => exact d_notIn (A := X.A) (by omega) I g rx fun s3 I3 => ⟨.bl (!o.isSome), H, I3, rfl, q⟩
  | false => exact d_in (A := X.A) (by omega) I g rx fun s3 I3 => ⟨.bl o.isSome, H, I3, rfl, q⟩
def rInA (K : PySem.W.Frag) (neg : Bool) : R2 := fun x y H Q => rInP K neg x y H Q ∨ ∃ a o, y = .ref a ∧ DGet H a x o ∧ Q (.bl (if neg then !o.isSome else o.isSome)) H
theorem op_inA (hu : X.A.units + 64 < cLine) : OpR X (compareOp .In) (rInA X.K false) := (op_inP hu).or (op_inD hu false)
theorem op_notInA (hu : X.A.units + 64 < cLine) : OpR X (compareOp .NotIn) (rInA X.K true) := (op_notInP hu).or (op_inD hu true)
def fInL (neg : Bool) (d : D) (ds : List D) : Option D := match d.cmp, pyL ds with
  | some p, some ps => if PyData.plainAll ps then some (.bl (if neg then !ps.any fun z => PyData.eqv z p else ps.any fun z => PyData.eqv z p)) else none
  | _, _ => none
def fIn (neg : Bool) (d c : D) : Option D := match c with
  | .lst _ ds => fInL neg d ds
  | .tup ds => fInL neg d ds
  | .dct _ t kvs => match dkey d with
    | some k => if k.isK == !t then some (.bl (if neg then !(kget kvs k).isSome else (kget kvs k).isSome)) else none
    | none => none
  | _ => none
theorem fInL_ok {neg : Bool} {d d' : D} {ds : List D} (h : fInL neg d ds = some d') : ∃ p ps, d.cmp = some p ∧ pyL ds = some ps ∧ PyData.plainAll ps = true ∧ d' = .bl (if neg then !ps.any fun z => PyData.eqv z p else ps.any fun z => PyData.eqv z p) := by
  unfold fInL at h
  split at h
  · rename_i p ps e1 e2
    split at h
    · rename_i c
      cases h
      exact ⟨p, ps, e1, e2, c, rfl⟩
    · cases h
  · cases h
theorem ops_in {K : PySem.W.Frag} {neg : Bool} : OpS2 mg (rInA K neg) (fIn neg) := by
  intro F H fps v w d e d' Q g b1 b2 h q
  unfold fIn at h
  split at h
  · obtain ⟨p, ps, e1, e2, e3, rfl⟩ := fInL_ok h
    obtain ⟨a1, a2, a3⟩ := D.cmp_ok e1
    exact .inl ⟨p, ps, b1.dp a1, .inl (b2.dp (by rw [D.py, e2]; rfl)), a2, e3, a3, q.bl g⟩
  · obtain ⟨p, ps, e1, e2, e3, rfl⟩ := fInL_ok h
    obtain ⟨a1, a2, a3⟩ := D.cmp_ok e1
    exact .inl ⟨p, ps, b1.dp a1, .inr (b2.dp (by rw [D.py, e2]; rfl)), a2, e3, a3, q.bl g⟩
  · split at h
    · rename_i k ek
      split at h
      · rename_i c
        cases h
        obtain ⟨a, ob, kvs, fq, rfl, e1, o, ek2, rs⟩ := b2.dct
        obtain ⟨_, rk, _⟩ := b1
        refine .inr ⟨a, _, rfl, dget_of e1 o rk ek (by simpa using c), ?_⟩
        rw [kget_none ek2]
        exact q.bl g
      · cases h
    · cases h
  · cases h

/-! ### subscripts -/
def fAt (xs : List D) (i : Int) : Option D := (atI xs i).bind fun d => if d.fzd then some d else none
def fIx (d e : D) : Option D := match d, e with
  | .lst _ xs, .int i => fAt xs i
  | .tup xs, .int i => fAt xs i
  | .dct _ t kvs, k => match dkey k with
    | some dk => if dk.isK == !t then (kget kvs dk).bind fun d => if d.fzd then some d else none else none
    | none => none
  | _, _ => none
def rIxA (K : PySem.W.Frag) : R2 := fun x y H Q => rIxL K x y H Q ∨ rIxT K x y H Q
theorem ix_A : IxR X (rIxA X.K) := ix_list.or ix_tup
theorem ixN_lt {n : Nat} {i : Int} {xs : List D} {ys : List V} (h : ys.length = xs.length) (d : D) (e : atI xs i = some d) : ∃ j : Nat, xs[j]? = some d ∧ ∀ v, ys[j]? = some v → atI ys i = some v := by
  unfold atI at e
  obtain ⟨j, h1, h2⟩ := Option.bind_eq_some_iff.mp e
  refine ⟨j, h2, fun v hv => ?_⟩
  unfold atI
  rw [h, h1]
  exact hv
theorem at_rel {vs : List V} {xs : List D} {fp : List Addr} {i : Int} {d : D} (r : Rs mg F H vs xs fp) (h : fAt xs i = some d) : ∃ v, atI vs i = some v ∧ R mg F H v d [] := by
  obtain ⟨d', e1, e2⟩ := Option.bind_eq_some_iff.mp h
  split at e2
  · rename_i c
    cases e2
    obtain ⟨j, h1, h2⟩ := ixN_lt (n := 0) (ys := vs) r.len d e1
    obtain ⟨v, fq, h3, h4, _⟩ := r.get h1
    exact ⟨v, h2 v h3, h4.nilfp c⟩
  · cases e2
/-- x[i] where x is a list, a tuple or a dict -/
def tIxA (K : PySem.W.Frag) (ta tb : TE) : TE := fun σ H Q => ta σ H fun x H1 => tb σ H1 fun y H2 => rIxA K x y H2 Q ∨ ∃ a v, x = .ref a ∧ DGet H2 a y (some v) ∧ Q v H2
theorem pe_ixA {a b : Expr} {ta tb : TE} {pos : Pos} (hu : X.A.units + 64 < cLine) (ha : PE X a ta) (hb : PE X b tb) (hs : PlainIx b) (hn : NoSl b) : PE X (.Subscript a b pos) (tIxA X.K ta tb) := by
  refine ⟨fun pins s σ H Q I h => ?_⟩
  refine Subscript_ (binT ha hb I h fun v u s2 x y H2 I2 rx ry q => ?_)
  rcases q with q | ⟨a', z, rfl, g, q⟩
  · exact ix_A a b pins s2 σ H2 x y v u Q I2 rx ry q (hs _ _)
  · obtain rfl : v = Value.ref a' := rx
    exact tail_any (dict_typeIs I2 g) PySem.F.slot_dict_getitem.lookup (d_getItem (A := X.A) (by omega) I2 g ry fun w' s3 I3 rw' => ⟨z, H2, I3, rw', q⟩) (hs _ _)
theorem ve_ix {a b : Expr} {o1 o2 : M Ar} {pos : Pos} (hu : X.A.units + 64 < cLine) (ha : PE X a (vO mg W o1)) (hb : PE X b (vO mg W o2)) (hs : PlainIx b) (hn : NoSl b) : PE X (.Subscript a b pos) (vE mg W (gOp2 fIx o1 o2)) := by
  refine pe_imp (pe_ixA hu ha hb hs hn) fun σ H Q h => ?_
  refine op2 (r := fun x y H Q => rIxA X.K x y H Q ∨ ∃ a v, x = .ref a ∧ DGet H a y (some v) ∧ Q v H) ?_ h
  intro F H fps v w d e d' Q g b1 b2 h q
  unfold fIx at h
  split at h
  · obtain ⟨a, xs, fq, rfl, e1, r⟩ := b1.lst
    obtain ⟨z, hz, rz⟩ := at_rel r h
    exact .inl (.inl ⟨a, xs, _, z, rfl, b2.int, .inl e1, hz, q.flat rz g⟩)
  · obtain ⟨a, xs, rfl, e1, r⟩ := b1.tup
    obtain ⟨z, hz, rz⟩ := at_rel r h
    exact .inl (.inr ⟨a, xs, _, z, rfl, b2.int, .inl (.inl e1), hz, q.flat rz g⟩)
  · split at h
    · rename_i k ek
      split at h
      · rename_i c
        obtain ⟨d2, e3, e4⟩ := Option.bind_eq_some_iff.mp h
        split at e4
        · rename_i cf
          cases e4
          obtain ⟨a, ob, kvs, fq, rfl, e1, o, ek2, rs⟩ := b1.dct
          obtain ⟨_, rk, _⟩ := b2
          obtain ⟨z, fr, h1, h2, _⟩ := kget_rel ek2 rs e3
          refine .inr ⟨a, z, rfl, ?_, q.flat (h2.nilfp cf) g⟩
          have := dget_of e1 o rk ek (by simpa using c)
          rw [h1] at this
          exact this
        · cases e4
      · cases h
    · cases h
  · cases h
/-! ### slices -/
def cutD (xs : List D) (lo hi : Option Int) : List D := (xs.drop (HT.sIx xs.length 0 lo)).take (HT.sIx xs.length xs.length hi - HT.sIx xs.length 0 lo)
def fSl (lo hi : Option Int) (d : D) : Option D := match d with
  | .lst _ xs => if fzdL xs then some (.lst true (cutD xs lo hi)) else none
  | .tup xs => some (.tup (cutD xs lo hi))
  | .scr ns => some (.lst true (cutD (ns.map .int) lo hi))
  | _ => none
theorem Rs.ints : ∀ ns : List Int, Rs mg F H (ns.map V.int) (ns.map D.int) []
  | [] => .nil
  | i :: ns => .cons (fp := []) (.int i) (Rs.ints ns)
theorem Bor.scr {v : V} {ns : List Int} (b : Bor mg F H fps v (.scr ns)) : ∃ a, v = .ref a ∧ SqL mg.K H a (ns.map V.int) := by
  obtain ⟨_, r, _⟩ := b
  cases r with
  | scr e => exact ⟨_, rfl, e.symm.imp (fun q => q.2) fun q => q⟩
def rSlAll (K : PySem.W.Frag) : V → Option Int → Option Int → Hp → VK → Prop := fun x lo hi H Q => rSlL K x lo hi H Q ∨ rSlA K x lo hi H Q
theorem sl_all : SlR X (rSlAll X.K) := sl_list.or sl_tupA
theorem cut_rel {vs : List V} {xs : List D} (r : Rs mg F H vs xs []) (lo hi : Option Int) : Rs mg F H (cutV vs lo hi) (cutD xs lo hi) [] := by
  unfold cutV cutD
  rw [r.len]
  exact (r.drop _).take _
theorem ops_sl {lo hi : Option Int} : OpS1 mg (fun x H Q => rSlAll mg.K x lo hi H Q) (fSl lo hi) := by
  intro F H fps v d d' Q g b1 h q
  unfold fSl at h
  split at h
  · split at h
    · rename_i c
      cases h
      obtain ⟨a, xs, fq, rfl, e1, r⟩ := b1.lst
      exact .inl ⟨a, xs, rfl, .inl e1, q.lst (cut_rel (r.nilfp c) lo hi) g⟩
    · cases h
  · cases h
    obtain ⟨a, xs, rfl, e1, r⟩ := b1.tup
    refine .inr ⟨a, xs, rfl, .inl (.inl e1), fun z => ?_, fun _ => q.tup (cut_rel r lo hi) g⟩
    have hl := r.len
    unfold cutD at q
    rw [← hl, z.1, z.2] at q
    simp only [List.drop_zero, Nat.sub_zero] at q
    rw [hl, List.take_length] at q
    exact q.flat (.tup e1 r) g
  · rename_i ns
    cases h
    obtain ⟨a, rfl, e1⟩ := b1.scr
    exact .inl ⟨a, ns.map V.int, rfl, e1, q.lst (cut_rel (Rs.ints ns) lo hi) g⟩
  · cases h
/-- a part of a slice as an operand -/
def pInt (g : M D) : M (Option Int) := g >>= fun d => match d with
  | .int i => pure (some i)
  | _ => fail
def pNone : M (Option Int) := pure none
def rI (α : Type) : Rl α α := ⟨fun _ _ a b fp => a = b ∧ fp = [], fun h _ => h⟩
def vP (mg : MG) (W : WX) (p : M (Option Int)) : TO := vX mg W (rI (Option Int)) p
theorem po_imp {X : Cx} {e : Option Expr} {t t' : TO} (h : PO X e t) (i : ∀ σ H Q, t' σ H Q → t σ H Q) : PO X e t' := ⟨fun pins s σ H Q I q => h.run pins s σ H Q I (i σ H Q q)⟩
theorem vp_none : PO X none (vP mg W pNone) := po_imp po_none fun σ H Q h => by
  obtain ⟨F, ρ, fps, hE, hG, hP⟩ := h
  exact hP none F H [] fps ⟨rfl, rfl⟩ hE (by simpa using hG) Rch.refl
theorem vp_some {e : Expr} {g : M D} (he : PE X e (vE mg W g)) : PO X (some e) (vP mg W (pInt g)) := po_imp (po_some he) fun σ H Q h => by
  refine vX.then h fun d ρ v F H' fp fps r hE hG hP => ?_
  cases d with
  | int i =>
    cases r
    exact ⟨i, rfl, hP (some i) F H' [] fps ⟨rfl, rfl⟩ hE hG Rch.refl⟩
  | _ => exact False.elim hP
def gSl (o : M Ar) (lo hi : M (Option Int)) : M D := (o >>= fun a => (lo >>= fun l => hi >>= fun u => pure (l, u)) >>= fun p => pure (a, p)) >>= fun q => q.1.get >>= fun d => lift (fSl q.2.1 q.2.2 d)
theorem ve_sl {e : Expr} {lo hi : Option Expr} {p2 pos : Pos} {o : M Ar} {l u : M (Option Int)} (he : PE X e (vO (mG X) W o)) (hl : PO X lo (vP (mG X) W l)) (hh : PO X hi (vP (mG X) W u)) : PE X (.Subscript e (.Slice lo hi none p2) pos) (vE (mG X) W (gSl o l u)) := by
  refine pe_imp (pe_slice sl_all he hl hh) fun σ H Q h => ?_
  refine vX.imp (L := rO (mG X) σ) (Q := fun x H1 => vX (mG X) W ((rI (Option Int)).prod (rI (Option Int))) (l >>= fun a => u >>= fun b => pure (a, b)) σ H1 fun (p : Option Int × Option Int) H3 => rSlAll X.K x p.1 p.2 H3 Q) ?_ fun x H1 q => vX.seq (Q := fun l' u' H3 => rSlAll X.K x l' u' H3 Q) q
  refine vX.seq (L := rO (mG X) σ) (L' := (rI (Option Int)).prod (rI (Option Int))) (Q := fun x (p : Option Int × Option Int) H' => rSlAll X.K x p.1 p.2 H' Q) ?_
  refine vX.then h fun q ρ v F H' fp fps ro hE hG hP => ?_
  obtain ⟨fp1, fp2, rfl, r1, ⟨fp3, fp4, rfl, r3, r4⟩⟩ := ro
  obtain ⟨e3, rfl⟩ := r3
  obtain ⟨e4, rfl⟩ := r4
  cases e : q.1.get ρ with
  | bad => rw [M.bind_bad e] at hP; exact False.elim hP
  | exc x ρ1 => exact absurd e Ar.get_noexc
  | ok d ρ1 =>
    rw [M.bind_ok e] at hP
    obtain ⟨rfl, b⟩ := Ar.get_ok r1 hE e
    cases e2 : fSl q.2.1 q.2.2 d with
    | none => rw [e2] at hP; exact False.elim hP
    | some d' =>
      rw [e2] at hP
      show rSlAll X.K v.1 v.2.1 v.2.2 H' Q
      rw [show v.2.1 = q.2.1 from e3, show v.2.2 = q.2.2 from e4]
      exact ops_sl F H' _ v.1 d d' Q hG (b.mono fun a m => by
        rcases List.mem_append.mp m with m | m
        · exact List.mem_append_left _ (List.mem_append_left _ m)
        · exact List.mem_append_right _ m) e2 (Fin.of hP hE hG)
/-! ### attributes -/
def fFld (f : Str) (d : D) : Option D := match d with
  | .ins _ _ fs => (fs.lookup f).bind fun d => if d.fzd then some d else none
  | _ => none
/-- a class whose instances hold their fields plainly, the names in fs no attribute of it -/
structure ClsOk (K : PySem.W.Frag) (mg : MG) (c : Str) (fs : List Str) : Prop where
  cl : ∀ C, mg c = some (.ref C) → Cls K C
  no : ∀ C, mg c = some (.ref C) → ∀ f ∈ fs, NoAttr K C f
theorem lookup_rel : ∀ {l : List (Str × V)} {m : List (Str × D)} {fp : List Addr} {k : Str} {d : D}, l.map (·.1) = m.map (·.1) → Rs mg F H (l.map (·.2)) (m.map (·.2)) fp → m.lookup k = some d → ∃ v fq, l.lookup k = some v ∧ R mg F H v d fq ∧ ∀ a ∈ fq, a ∈ fp
  | [], [], _, k, d, _, _, h => by cases h
  | (p, pv) :: l, (q, qd) :: m, _, k, d, e, .cons r rs, h => by
    simp only [List.map_cons, List.cons.injEq] at e
    obtain ⟨e1, e2⟩ := e
    subst e1
    by_cases c : k == p
    · simp only [List.lookup, c, Option.some.injEq] at h ⊢
      subst h
      exact ⟨_, _, rfl, r, fun a x => List.mem_append_left _ x⟩
    · simp only [List.lookup, c] at h ⊢
      obtain ⟨v, fq, h1, h2, h3⟩ := lookup_rel e2 rs h
      exact ⟨v, fq, h1, h2, fun a x => List.mem_append_right _ (h3 a x)⟩
def fFldC (f : Str) (cs : List Str) (d : D) : Option D := match d with
  | .ins _ c _ => if cs.contains c then fFld f d else none
  | _ => none
def gFld (f : Str) (cs : List Str) (o : M Ar) : M D := gOp1 (fFldC f cs) o
theorem ve_fld {e : Expr} {f : Str} {cs : List Str} {o : M Ar} {pos : Pos} (he : PE X e (vO (mG X) W o)) (hc : ∀ c ∈ cs, ∃ fs, ClsOk X.K (mG X) c fs ∧ f ∈ fs) (hb : attributeBase e f X.env (eval e X.env) = eval e X.env := by rfl) : PE X (.Attribute e f pos) (vE (mG X) W (gFld f cs o)) := by
  refine pe_imp (pe_fld he hb) fun σ H Q h => ?_
  refine op1 (r := fun x H1 Q => ∃ a C dx fs v, x = .ref a ∧ H1 a = some (.ins C dx fs) ∧ Cls X.K C ∧ NoAttr X.K C f ∧ fs.lookup f = some v ∧ Q v H1) ?_ h
  intro F H fps v d d' Q g b1 h q
  unfold fFldC at h
  split at h
  · rename_i ow c ds
    split at h
    · rename_i hm
      obtain ⟨a, C, dx, vs, fq, rfl, e1, e2, e3, rs⟩ := b1.ins
      obtain ⟨fs, ok, hf⟩ := hc c (by simpa using hm)
      unfold fFld at h
      obtain ⟨d2, e4, e5⟩ := Option.bind_eq_some_iff.mp h
      split at e5
      · rename_i cf
        cases e5
        obtain ⟨z, fr, h1, h2, _⟩ := lookup_rel e3 rs e4
        exact ⟨a, C, dx, vs, z, rfl, e1, ok.cl C e2, ok.no C e2 f hf, h1, q.flat (h2.nilfp cf) g⟩
      · cases e5
    · cases h
  · cases h
end
end VL

set_option Elab.async false
set_option linter.all false
set_option maxRecDepth 100000
set_option maxHeartbeats 2000000
namespace VL
open PySem PySem.Spec PyProof.Rows L2

theorem CallR.or {X : Cx} {f : Value} {r r' : List V → Hp → VK → Prop} (h : CallR X f r) (h' : CallR X f r') : CallR X f (fun xs H Q => r xs H Q ∨ r' xs H Q) := by
  intro pins s σ H xs us Q I rv q
  rcases q with q | q
  · exact h pins s σ H xs us Q I rv q
  · exact h' pins s σ H xs us Q I rv q
section
variable {mg : MG} {W : WX} {σ : L2.St} {F F' : FS} {H H' : Hp} {fp fps fq : List Addr} {ρ : Env} {X : Cx}
theorem BorL.one {vs : List V} {d : D} (b : BorL mg F H fps vs [d]) : ∃ v, vs = [v] ∧ Bor mg F H fps v d := by
  cases b with
  | cons b r => cases r; exact ⟨_, rfl, b⟩
theorem BorL.two {vs : List V} {d e : D} (b : BorL mg F H fps vs [d, e]) : ∃ v w, vs = [v, w] ∧ Bor mg F H fps v d ∧ Bor mg F H fps w e := by
  cases b with
  | cons b r =>
    obtain ⟨w, rfl, b2⟩ := r.one
    exact ⟨_, w, rfl, b, b2⟩
/-! ### a call of a built-in by its name -/
theorem ve_callB {e : Expr} {es : List Expr} {x : Str} {p pos : Pos} {id : String} {r : List V → Hp → VK → Prop} {f : List D → Option D} {a : M (List Ar)} (hf : OpSL mg r f) (hc : CallR X (.builtin id) r) (hg : Gl X x) (hm : X.mg x = none) (hv : bootBuiltins x = some (.builtin id)) (ha : PA X (e :: es) (vA mg W a)) (hn : x ≠ "__name__" := by decide) (hdb : (x == ("__debug__" : Str)) = false := by decide)
    (he : starEach (e :: es) X.env = (false, eval e X.env) :: starEach es X.env := by rfl) (hpl : (backTo pos (starEach es X.env)).any (·.1) = false := by rfl) : PE X (.Call (.Name x p) (e :: es) [] pos) (vE mg W (gCallB f a)) :=
  pe_imp (pe_callB hc hg hm hv ha hn hdb he hpl) fun _ _ _ h => opL hf h
theorem ve_callTy {e : Expr} {es : List Expr} {x : Str} {p pos : Pos} {T : String} {r : List V → Hp → VK → Prop} {f : List D → Option D} {a : M (List Ar)} (hf : OpSL mg r f) (hc : CallR X (.type T) r) (hg : Gl X x) (hm : X.mg x = none) (hv : bootBuiltins x = some (.type T)) (ha : PA X (e :: es) (vA mg W a)) (hn : x ≠ "__name__" := by decide) (hdb : (x == ("__debug__" : Str)) = false := by decide)
    (he : starEach (e :: es) X.env = (false, eval e X.env) :: starEach es X.env := by rfl) (hpl : (backTo pos (starEach es X.env)).any (·.1) = false := by rfl) : PE X (.Call (.Name x p) (e :: es) [] pos) (vE mg W (gCallB f a)) :=
  pe_imp (pe_callTy hc hg hm hv ha hn hdb he hpl) fun _ _ _ h => opL hf h
/-! ### len -/
def fLen (ds : List D) : Option D := match ds with
  | [.lst _ xs] => some (.int xs.length)
  | [.tup xs] => some (.int xs.length)
  | [.ptp xs] => some (.int xs.length)
  | [.dct _ _ kvs] => some (.int kvs.length)
  | [.str s] => if s.length < big then some (.int s.length) else none
  | _ => none
/-- the length of a dict that may be locked -/
def rLenD : List V → Hp → VK → Prop := fun xs H Q => ∃ (a : Addr) (n : Nat), xs = [V.ref a] ∧ ((∃ kvs : List (Key × V), Rd H a (.dK kvs) ∧ n = kvs.length) ∨ ∃ kvs : List (List Key × V), Rd H a (.dT kvs) ∧ n = kvs.length) ∧ Q (.int n) H
theorem call_lenDR : CallR X (.builtin "len") rLenD := by
  intro pins s σ H xs us Q I r h
  obtain ⟨a, n, rfl, hd, q⟩ := h
  obtain ⟨u, rfl, ru⟩ := vals1 r
  obtain rfl : u = .ref a := ru
  rcases hd with ⟨kvs, e, rfl⟩ | ⟨kvs, e, rfl⟩
  · exact d_len I e fun t s2 I2 => ⟨.int (kvs.length : Nat), H, I2, ⟨t, rfl⟩, q⟩
  · obtain ⟨z, nd, ws, rel, dd⟩ := dt_rd I.hok e
    have hl : kvs.length = ws.length := Paired.length rel
    refine call_len_dictH nd dd (by rw [sizeLine_eq] at z; omega) ?_
    rw [← hl]
    exact ⟨.int (kvs.length : Nat), H, I.tok _, ⟨_, rfl⟩, q⟩
def rLenA (K : PySem.W.Frag) : List V → Hp → VK → Prop := fun xs H Q => (∃ p ys, xs = [.ref p] ∧ (SqL K H p ys ∨ SqT K H p ys) ∧ Q (.int ys.length) H) ∨ rLenD xs H Q ∨ (∃ z, xs = [.str z] ∧ z.length ≤ sizeLine ∧ Q (.int z.length) H)
theorem call_lenA : CallR X (.builtin "len") (rLenA X.K) := CallR.or call_len_seq (CallR.or call_lenDR call_len_str)
theorem ops_len {K : PySem.W.Frag} : OpSL mg (rLenA K) fLen := by
  intro F H fps vs ds d' Q g b h q
  unfold fLen at h
  split at h
  · cases h
    obtain ⟨v, rfl, b'⟩ := b.one
    obtain ⟨a, xs, fq, rfl, e1, r⟩ := b'.lst
    rw [← r.len] at q
    exact .inl ⟨a, xs, rfl, .inl (.inl e1), q.int g⟩
  · cases h
    obtain ⟨v, rfl, b'⟩ := b.one
    obtain ⟨a, xs, rfl, e1, r⟩ := b'.tup
    rw [← r.len] at q
    exact .inl ⟨a, xs, rfl, .inr (.inl (.inl e1)), q.int g⟩
  · cases h
    obtain ⟨v, rfl, b'⟩ := b.one
    obtain ⟨_, r, _⟩ := b'
    cases r with
    | ptp f e1 o r =>
      rw [← r.len] at q
      exact .inl ⟨_, _, rfl, .inr (.inl (.inr ⟨_, e1⟩)), q.int g⟩
  · cases h
    obtain ⟨v, rfl, b'⟩ := b.one
    obtain ⟨a, ob, kvs, fq, rfl, e1, o, ek, r⟩ := b'.dct
    have hl := congrArg List.length ek
    rw [List.length_map, List.length_map] at hl
    rw [← hl] at q
    rcases o with ⟨_, l, rfl, rfl⟩ | ⟨_, l, rfl, rfl⟩
    · rw [List.length_map] at q
      exact .inr (.inl ⟨a, _, rfl, .inl ⟨l, e1, rfl⟩, q.int g⟩)
    · rw [List.length_map] at q
      exact .inr (.inl ⟨a, _, rfl, .inr ⟨l, e1, rfl⟩, q.int g⟩)
  · split at h
    · rename_i c
      cases h
      obtain ⟨v, rfl, b'⟩ := b.one
      have := big_line
      exact .inr (.inr ⟨_, by rw [b'.str], by omega, q.int g⟩)
    · cases h
  · cases h
/-! ### list(x), tuple(x) -/
def dOfK : Key → D
  | .inl i => .int i
  | .inr s => .str s
def dOfDK : DK → D
  | .k k => dOfK k
  | .t ks => .tup (ks.map dOfK)
def fList (ds : List D) : Option D := match ds with
  | [.lst _ xs] => if fzdL xs then some (.lst true xs) else none
  | [.tup xs] => some (.lst true xs)
  | [.dct _ _ kvs] => some (.lst true (kvs.map fun kv => dOfDK kv.1))
  | _ => none
def rListA (K : PySem.W.Frag) : List V → Hp → VK → Prop := fun xs H Q => (∃ p ys, xs = [.ref p] ∧ (SqL K H p ys ∨ SqT K H p ys) ∧ ∀ l, H l = none → Q (.ref l) (upd H l (.lst ys))) ∨
  (∃ (a : Addr) (kvs : List (Key × V)), xs = [.ref a] ∧ Rd H a (.dK kvs) ∧ ∀ p, H p = none → Q (.ref p) (upd H p (.lst (kvs.map fun kv => kV kv.1)))) ∨
  (∃ d kvs, xs = [V.ref d] ∧ Rd H d (.dT kvs) ∧ ∀ p bs, H p = none → IsKeys H kvs bs → Q (.ref p) (upd H p (.lst (bs.map V.ref))))
theorem call_listA (hc : X.calm = true) : CallR X (.type "list") (rListA X.K) := CallR.or call_list_of (CallR.or (call_listD hc) (call_list_dT hc))
theorem R.key (k : Key) : R mg F H (kV k) (dOfK k) [] := by
  cases k with
  | inl i => exact .int i
  | inr s => exact .str s
theorem Rs.keys : ∀ ks : List Key, Rs mg F H (ks.map kV) (ks.map dOfK) []
  | [] => .nil
  | k :: ks => .cons (fp := []) (fps := []) (R.key k) (Rs.keys ks)
theorem Rs.keysK : ∀ l : List (Key × V), Rs mg F H (l.map fun p => kV p.1) ((l.map fun p => (DK.k p.1, p.2)).map fun kv => dOfDK kv.1) []
  | [] => .nil
  | p :: l => .cons (fp := []) (fps := []) (R.key p.1) (Rs.keysK l)
theorem Rs.keysT : ∀ {l : List (List Key × V)} {bs : List Addr}, IsKeys H l bs → Rs mg F H (bs.map V.ref) ((l.map fun p => (DK.t p.1, p.2)).map fun kv => dOfDK kv.1) []
  | _, _, .nil => .nil
  | _, _, .cons h r => .cons (fp := []) (fps := []) (.tup h (Rs.keys _)) (Rs.keysT r)
theorem map_keys {l : List (DK × V)} {m : List (DK × D)} (e : l.map (·.1) = m.map (·.1)) : (m.map fun kv => dOfDK kv.1) = l.map fun kv => dOfDK kv.1 := by
  have := congrArg (List.map dOfDK) e
  rw [List.map_map, List.map_map] at this
  exact this.symm
theorem ops_list {K : PySem.W.Frag} : OpSL mg (rListA K) fList := by
  intro F H fps vs ds d' Q g b h q
  unfold fList at h
  split at h
  · split at h
    · rename_i c
      cases h
      obtain ⟨v, rfl, b'⟩ := b.one
      obtain ⟨a, xs, fq, rfl, e1, r⟩ := b'.lst
      exact .inl ⟨a, xs, rfl, .inl (.inl e1), q.lst (r.nilfp c) g⟩
    · cases h
  · cases h
    obtain ⟨v, rfl, b'⟩ := b.one
    obtain ⟨a, xs, rfl, e1, r⟩ := b'.tup
    exact .inl ⟨a, xs, rfl, .inr (.inl (.inl e1)), q.lst r g⟩
  · cases h
    obtain ⟨v, rfl, b'⟩ := b.one
    obtain ⟨a, ob, kvs, fq, rfl, e1, o, ek, r⟩ := b'.dct
    rw [map_keys ek] at q
    rcases o with ⟨_, l, rfl, rfl⟩ | ⟨_, l, rfl, rfl⟩
    · exact .inr (.inl ⟨a, l, rfl, e1, q.lst (Rs.keysK l) g⟩)
    · exact .inr (.inr ⟨a, l, rfl, e1, fun p bs hp hk => q.lst (Rs.keysT hk) g p hp⟩)
  · cases h
def fTuple (ds : List D) : Option D := match ds with
  | [.lst _ xs] => if fzdL xs then some (.tup xs) else none
  | [.tup xs] => some (.tup xs)
  | _ => none
theorem ops_tuple {K : PySem.W.Frag} : OpSL mg (fun xs H Q => ∃ p ys, xs = [.ref p] ∧ ((SqL K H p ys ∧ ∀ l, H l = none → Q (.ref l) (upd H l (.tup ys))) ∨ (SqT K H p ys ∧ Q (.ref p) H))) fTuple := by
  intro F H fps vs ds d' Q g b h q
  unfold fTuple at h
  split at h
  · split at h
    · rename_i c
      cases h
      obtain ⟨v, rfl, b'⟩ := b.one
      obtain ⟨a, xs, fq, rfl, e1, r⟩ := b'.lst
      exact ⟨a, xs, rfl, .inl ⟨.inl e1, q.tup (r.nilfp c) g⟩⟩
    · cases h
  · cases h
    obtain ⟨v, rfl, b'⟩ := b.one
    obtain ⟨a, xs, rfl, e1, r⟩ := b'.tup
    exact ⟨a, xs, rfl, .inr ⟨.inl (.inl e1), q.flat (.tup e1 r) g⟩⟩
  · cases h
/-! ### all, any of a list of truth values -/
def blsOf : List D → Option (List Bool)
  | [] => some []
  | .bl b :: ds => (blsOf ds).map (b :: ·)
  | _ :: _ => none
theorem blsOf_rel : ∀ {ds : List D} {vs : List V} {fp : List Addr} {bs : List Bool}, Rs mg F H vs ds fp → blsOf ds = some bs → vs = bs.map V.bl
  | [], _, _, _, .nil, h => by cases h; rfl
  | d :: ds, _, _, _, .cons r rs, h => by
    cases d with
    | bl b =>
      unfold blsOf at h
      obtain ⟨bs', e1, rfl⟩ := Option.map_eq_some_iff.mp h
      cases r
      rw [blsOf_rel rs e1]
      rfl
    | _ => cases h
def fAll (ds : List D) : Option D := match ds with
  | [.lst _ xs] => (blsOf xs).map fun bs => .bl (bs.all id)
  | _ => none
def fAny (ds : List D) : Option D := match ds with
  | [.lst _ xs] => (blsOf xs).map fun bs => .bl (bs.any id)
  | _ => none
theorem ops_all {K : PySem.W.Frag} : OpSL mg (rAll K) fAll := by
  intro F H fps vs ds d' Q g b h q
  unfold fAll at h
  split at h
  · obtain ⟨bs, e, rfl⟩ := Option.map_eq_some_iff.mp h
    obtain ⟨v, rfl, b'⟩ := b.one
    obtain ⟨a, xs, fq, rfl, e1, r⟩ := b'.lst
    have ev := blsOf_rel r e
    subst ev
    exact ⟨a, bs, rfl, .inl e1, q.bl g⟩
  · cases h
theorem ops_any {K : PySem.W.Frag} : OpSL mg (rAny K) fAny := by
  intro F H fps vs ds d' Q g b h q
  unfold fAny at h
  split at h
  · obtain ⟨bs, e, rfl⟩ := Option.map_eq_some_iff.mp h
    obtain ⟨v, rfl, b'⟩ := b.one
    obtain ⟨a, xs, fq, rfl, e1, r⟩ := b'.lst
    have ev := blsOf_rel r e
    subst ev
    exact ⟨a, bs, rfl, .inl e1, q.bl g⟩
  · cases h
/-! ### int, bool, abs, min, max of two -/
def fInt (ds : List D) : Option D := match ds with
  | [.int i] => some (.int i)
  | [.bl b] => some (.int (if b then 1 else 0))
  | _ => none
theorem ops_int : OpSL mg (fun xs H Q => (∃ i, xs = [.int i] ∧ Q (.int i) H) ∨ ∃ k, xs = [.bl k] ∧ Q (.int (if k then 1 else 0)) H) fInt := by
  intro F H fps vs ds d' Q g b h q
  unfold fInt at h
  split at h
  · cases h
    obtain ⟨v, rfl, b'⟩ := b.one
    exact .inl ⟨_, by rw [b'.int], q.int g⟩
  · cases h
    obtain ⟨v, rfl, b'⟩ := b.one
    exact .inr ⟨_, by rw [b'.bl], q.int g⟩
  · cases h
def fBool (ds : List D) : Option D := match ds with
  | [.int i] => some (.bl (i != 0))
  | [.bl b] => some (.bl b)
  | _ => none
theorem ops_bool : OpSL mg (fun xs H Q => (∃ i, xs = [.int i] ∧ Q (.bl (i != 0)) H) ∨ ∃ k, xs = [.bl k] ∧ Q (.bl k) H) fBool := by
  intro F H fps vs ds d' Q g b h q
  unfold fBool at h
  split at h
  · cases h
    obtain ⟨v, rfl, b'⟩ := b.one
    exact .inl ⟨_, by rw [b'.int], q.bl g⟩
  · cases h
    obtain ⟨v, rfl, b'⟩ := b.one
    exact .inr ⟨_, by rw [b'.bl], q.bl g⟩
  · cases h
def fAbs (ds : List D) : Option D := match ds with
  | [.int i] => some (.int (if i < 0 then -i else i))
  | _ => none
theorem ops_abs : OpSL mg (fun xs H Q => ∃ i, xs = [.int i] ∧ Q (.int (if i < 0 then -i else i)) H) fAbs := by
  intro F H fps vs ds d' Q g b h q
  unfold fAbs at h
  split at h
  · cases h
    obtain ⟨v, rfl, b'⟩ := b.one
    exact ⟨_, by rw [b'.int], q.int g⟩
  · cases h
def fMax2 (ds : List D) : Option D := match ds with
  | [.int i, .int j] => some (.int (if j > i then j else i))
  | _ => none
def fMin2 (ds : List D) : Option D := match ds with
  | [.int i, .int j] => some (.int (if j < i then j else i))
  | _ => none
theorem ops_max2 : OpSL mg (fun xs H Q => ∃ i j, xs = [.int i, .int j] ∧ Q (.int (if j > i then j else i)) H) fMax2 := by
  intro F H fps vs ds d' Q g b h q
  unfold fMax2 at h
  split at h
  · cases h
    obtain ⟨v, w, rfl, b1, b2⟩ := b.two
    exact ⟨_, _, by rw [b1.int, b2.int], q.int g⟩
  · cases h
theorem ops_min2 : OpSL mg (fun xs H Q => ∃ i j, xs = [.int i, .int j] ∧ Q (.int (if j < i then j else i)) H) fMin2 := by
  intro F H fps vs ds d' Q g b h q
  unfold fMin2 at h
  split at h
  · cases h
    obtain ⟨v, w, rfl, b1, b2⟩ := b.two
    exact ⟨_, _, by rw [b1.int, b2.int], q.int g⟩
  · cases h
/-! ### isinstance -/
inductive Tg where
  | ty (n : String) | cls (c : Str)
def D.tag : D → Option Tg
  | .non => some (.ty "NoneType") | .bl _ => some (.ty "bool") | .int _ => some (.ty "int") | .str _ => some (.ty "str")
  | .tup _ => some (.ty "tuple") | .lst _ _ => some (.ty "list") | .dct _ _ _ => some (.ty "dict") | .ins _ c _ => some (.cls c)
  | .ty _ => none | .cls _ => none | .scr _ => none | .tab _ => none | .ptp _ => some (.ty "tuple")
def D.asT : D → Option Tg
  | .ty n => some (.ty n) | .cls c => some (.cls c) | _ => none
def isOne : Tg → Tg → Bool
  | .ty a, .ty b => a == b || (a == "bool" && b == "int")
  | .cls a, .cls b => a == b
  | _, _ => false
def builtinT (n : String) : Bool := ["int", "bool", "str", "tuple", "list", "dict"].contains n
def okT (cs : List Str) : Tg → Bool
  | .ty n => builtinT n
  | .cls c => cs.contains c
def clsIn (cs : List Str) : Tg → Bool
  | .ty _ => true
  | .cls c => cs.contains c
def fIsi (cs : List Str) (ds : List D) : Option D := match ds with
  | [d, .tup ts] => (match d.tag, ts.mapM D.asT with
    | some t, some us => if us.all (okT cs) && clsIn cs t then some (.bl (us.any (isOne t))) else none
    | _, _ => none)
  | [d, e] => (match d.tag, e.asT with
    | some t, some u => if okT cs u && clsIn cs t then some (.bl (isOne t u)) else none
    | _, _ => none)
  | _ => none
def TgV (mg : MG) : Tg → Value → Prop
  | .ty n, u => u = .type n
  | .cls c, u => ∃ C, mg c = some (.ref C) ∧ u = .ref C
/-- the answers of isinstance for the classes cs -/
structure IsiOk (K : PySem.W.Frag) (mg : MG) (cs : List Str) : Prop where
  one : ∀ t u tv uv, okT cs u = true → (∀ c, t = .cls c → c ∈ cs) → (∀ n, t = .ty n → n ∈ ["NoneType", "bool", "int", "str", "tuple", "list", "dict"]) → TgV mg t tv → TgV mg u uv → PySem.W.kitOne K tv uv = some (isOne t u)
  ins : ∀ c ∈ cs, ∀ C, mg c = some (.ref C) → ∀ H a dx fs, H a = some (.ins C dx fs) → TyOf K H (.ref a) (.ref C)
/-- a value's type, locked dicts too -/
def TyY (K : PySem.W.Frag) (H : Hp) (v : V) (t : Value) : Prop := TyX K H v t ∨ ∃ (a : Addr) (o : Obj) (kvs : List (List Key × V)), v = .ref a ∧ ((H a = some (.frz o (.dT kvs)) ∧ t = .type "dict") ∨ ∃ ys, H a = some (.frz o (.tup ys)) ∧ t = .type "tuple")
theorem kit_ofY {X : Cx} {pins : List (Addr × Obj)} {σ : L2.St} {H : Hp} {s : Shared} {x : V} {u t : Value} (I : Inv X pins σ H s) (rx : RelV x u) (ty : TyY X.K H x t) : ∃ P : Heap → Prop, PySem.W.KitX X.K u t P ∧ P s.heap ∧ u ≠ .builtin "__main__.__loader__#opaque" := by
  rcases ty with ty | ⟨a, ob, kvs, rfl, ⟨ea, rfl⟩ | ⟨ys, ea, rfl⟩⟩
  · exact kit_of I rx ty
  · cases (show u = Value.ref a from rx)
    obtain ⟨_, _, _, ws, _, o, es, ep, h1, h2, _⟩ := (show ObjOk X.prog X.w H s.heap a (.frz ob (.dT kvs)) from I.hok a _ ea)
    exact ⟨_, PySem.W.kitx_dict, ⟨o, h1, h2.1⟩, fun z => nomatch z⟩
  · cases (show u = Value.ref a from rx)
    obtain ⟨_, _, _, _, o, h1, h2, _⟩ := (show ObjOk X.prog X.w H s.heap a (.frz ob (.tup ys)) from I.hok a _ ea)
    exact ⟨_, PySem.W.kitx_tuple, ⟨o, h1, h2⟩, fun z => nomatch z⟩
def rIsiY (K : PySem.W.Frag) : List V → Hp → VK → Prop := fun xs H Q => ∃ (x c : V) (t u : Value) (b : Bool), xs = [x, c] ∧ ClsV c u ∧ TyY K H x t ∧ PySem.W.kitOne K t u = some b ∧ Q (.bl b) H
def rIsiTY (K : PySem.W.Frag) : List V → Hp → VK → Prop := fun xs H Q => ∃ (x : V) (tp : Addr) (ts : List V) (t : Value) (us : List Value) (b : Bool), xs = [x, .ref tp] ∧ H tp = some (.tup ts) ∧ Paired ClsV ts us ∧ TyY K H x t ∧ PySem.W.kitAny K t us = some b ∧ Q (.bl b) H
theorem call_isiY : CallR X (.builtin "isinstance") (rIsiY X.K) := by
  intro pins s σ H xs us Q I r h
  obtain ⟨x, c, t, u, b, rfl, k, ty, e, q⟩ := h
  obtain ⟨u1, u2, rfl, r1, r2⟩ := vals2 r
  cases k.eq r2
  obtain ⟨P, Z, p, hx⟩ := kit_ofY I r1 ty
  exact PySem.W.kia_one Z I.kIn p e hx fun tk => ⟨.bl b, H, I.tok tk, rfl, q⟩
theorem call_isiTY : CallR X (.builtin "isinstance") (rIsiTY X.K) := by
  intro pins s σ H xs us Q I r h
  obtain ⟨x, tp, ts, t, ws, b, rfl, hT, k, ty, e, q⟩ := h
  obtain ⟨u1, u2, rfl, r1, r2⟩ := vals2 r
  cases (show u2 = Value.ref tp from r2)
  obtain ⟨P, Z, p, hx⟩ := kit_ofY I r1 ty
  obtain ⟨_, its, rv, o, h1, h2, n, h3⟩ := (show ObjOk X.prog X.w H s.heap tp (.tup ts) from I.hok tp _ hT)
  cases ClsV.all k rv
  obtain ⟨oc, od, dt, sl⟩ := o
  simp only at h2 h3
  subst h2 h3
  exact PySem.W.kia_tup Z I.kIn p h1 e hx fun tk => ⟨.bl b, H, I.tok tk, rfl, q⟩
theorem tag_ty {K : PySem.W.Frag} {cs : List Str} (ok : IsiOk K mg cs) {v : V} {d : D} {t : Tg} (r : R mg F H v d fp) (h : d.tag = some t) (hc : ∀ c, t = .cls c → c ∈ cs) : ∃ tv, TgV mg t tv ∧ TyY K H v tv ∧ (∀ n, t = .ty n → n ∈ ["NoneType", "bool", "int", "str", "tuple", "list", "dict"]) := by
  cases r with
  | non => cases h; exact ⟨_, rfl, .inl (.base .non), fun n e => by cases e; simp⟩
  | bl b => cases h; exact ⟨_, rfl, .inl (.base (.bl b)), fun n e => by cases e; simp⟩
  | int i => cases h; exact ⟨_, rfl, .inl (.base (.int i)), fun n e => by cases e; simp⟩
  | str x => cases h; exact ⟨_, rfl, .inl (.base (.str x)), fun n e => by cases e; simp⟩
  | ty n => cases h
  | cls m => cases h
  | scr m => cases h
  | tabF => cases h
  | tabO => cases h
  | tup e r => cases h; exact ⟨_, rfl, .inl (.base (.tup e)), fun n e => by cases e; simp⟩
  | ptp f e o r => cases h; exact ⟨_, rfl, .inr ⟨_, _, [], rfl, .inr ⟨_, e, rfl⟩⟩, fun n e => by cases e; simp⟩
  | lstF f e r =>
    cases h
    rcases e with e | ⟨o, e⟩
    · exact ⟨_, rfl, .inl (.base (.lst e)), fun n e => by cases e; simp⟩
    · exact ⟨_, rfl, .inl (.base (.frz e)), fun n e => by cases e; simp⟩
  | lstO e r => cases h; exact ⟨_, rfl, .inl (.base (.lst e)), fun n e => by cases e; simp⟩
  | dctF f e o q r =>
    cases h
    rcases o with ⟨_, l, rfl, rfl⟩ | ⟨_, l, rfl, rfl⟩
    · rcases e with e | ⟨o, e⟩
      · exact ⟨_, rfl, .inl (.base (.dK e)), fun n e => by cases e; simp⟩
      · exact ⟨_, rfl, .inl (.fDict e), fun n e => by cases e; simp⟩
    · rcases e with e | ⟨o, e⟩
      · exact ⟨_, rfl, .inl (.base (.dT e)), fun n e => by cases e; simp⟩
      · exact ⟨_, rfl, .inr ⟨_, o, l, rfl, .inl ⟨e, rfl⟩⟩, fun n e => by cases e; simp⟩
  | dctO e o q r =>
    cases h
    rcases o with ⟨_, l, rfl, rfl⟩ | ⟨_, l, rfl, rfl⟩
    · exact ⟨_, rfl, .inl (.base (.dK e)), fun n e => by cases e; simp⟩
    · exact ⟨_, rfl, .inl (.base (.dT e)), fun n e => by cases e; simp⟩
  | insF f e m q r => cases h; exact ⟨_, ⟨_, m, rfl⟩, .inl (.base (ok.ins _ (hc _ rfl) _ m _ _ _ _ e)), fun n e => nomatch e⟩
  | insO e m q r => cases h; exact ⟨_, ⟨_, m, rfl⟩, .inl (.base (ok.ins _ (hc _ rfl) _ m _ _ _ _ e)), fun n e => nomatch e⟩
theorem asT_cls {v : V} {d : D} {t : Tg} (r : R mg F H v d fp) (h : d.asT = some t) : ∃ tv, TgV mg t tv ∧ ClsV v tv := by
  cases r with
  | ty n => cases h; exact ⟨_, rfl, .ty n⟩
  | cls m => cases h; exact ⟨_, ⟨_, m, rfl⟩, .own _⟩
  | _ => cases h
theorem asT_all : ∀ {vs : List V} {ds : List D} {fp : List Addr} {ts : List Tg}, Rs mg F H vs ds fp → ds.mapM D.asT = some ts → ∃ us, Paired ClsV vs us ∧ Paired (TgV mg) ts us
  | _, _, _, _, .nil, h => by
    simp at h; subst h
    exact ⟨[], .nil, .nil⟩
  | _, _, _, _, .cons (d := d) (ds := ds) r rs, h => by
    rw [List.mapM_cons] at h
    cases e1 : d.asT with
    | none => rw [e1] at h; cases h
    | some t =>
      cases e2 : ds.mapM D.asT with
      | none => rw [e1, e2] at h; cases h
      | some ts =>
        rw [e1, e2] at h
        cases h
        obtain ⟨tv, h1, h2⟩ := asT_cls r e1
        obtain ⟨us, h3, h4⟩ := asT_all rs e2
        exact ⟨tv :: us, .cons h2 h3, .cons h1 h4⟩
theorem kitAny_of {K : PySem.W.Frag} {t : Tg} {tv : Value} (h : ∀ u uv, TgV mg u uv → okT cs u = true → PySem.W.kitOne K tv uv = some (isOne t u)) : ∀ {ts : List Tg} {us : List Value}, Paired (TgV mg) ts us → ts.all (okT cs) = true → PySem.W.kitAny K tv us = some (ts.any (isOne t))
  | _, _, .nil, _ => rfl
  | t' :: ts, u :: us, .cons a r, hk => by
    rw [List.all_cons, Bool.and_eq_true] at hk
    have h1 := h t' u a hk.1
    rw [List.any_cons]
    cases e : isOne t t' with
    | true =>
      rw [e] at h1
      unfold PySem.W.kitAny
      rw [h1]
      rfl
    | false =>
      rw [e] at h1
      unfold PySem.W.kitAny
      rw [h1]
      exact kitAny_of h r hk.2
def rIsiA (K : PySem.W.Frag) : List V → Hp → VK → Prop := fun xs H Q => rIsiY K xs H Q ∨ rIsiTY K xs H Q
theorem call_isiA : CallR X (.builtin "isinstance") (rIsiA X.K) := CallR.or call_isiY call_isiTY
theorem ops_isi {K : PySem.W.Frag} {cs : List Str} (ok : IsiOk K mg cs) : OpSL mg (rIsiA K) (fIsi cs) := by
  intro F H fps vs ds d' Q g b h q
  unfold fIsi at h
  split at h
  · rename_i d ts
    split at h
    · rename_i t us e1 e2
      split at h
      · rename_i c
        cases h
        rw [Bool.and_eq_true] at c
        obtain ⟨v, w, rfl, b1, b2⟩ := b.two
        obtain ⟨_, r1, _⟩ := b1
        obtain ⟨tp, cs', rfl, et, rt⟩ := b2.tup
        have hc : ∀ c', t = .cls c' → c' ∈ cs := fun c' e => by
          subst e
          simpa [clsIn] using c.2
        obtain ⟨tv, h1, h2, h3⟩ := tag_ty ok r1 e1 hc
        obtain ⟨uv, h4, h5⟩ := asT_all rt e2
        refine .inr ⟨v, tp, cs', tv, uv, _, rfl, et, h4, h2, kitAny_of (fun u uv hu ho => ok.one t u tv uv ho hc h3 h1 hu) h5 c.1, q.bl g⟩
      · cases h
    · cases h
  · rename_i d e _
    split at h
    · rename_i t u e1 e2
      split at h
      · rename_i c
        cases h
        rw [Bool.and_eq_true] at c
        obtain ⟨v, w, rfl, b1, b2⟩ := b.two
        obtain ⟨_, r1, _⟩ := b1
        obtain ⟨_, r2, _⟩ := b2
        have hc : ∀ c', t = .cls c' → c' ∈ cs := fun c' e => by
          subst e
          simpa [clsIn] using c.2
        obtain ⟨tv, h1, h2, h3⟩ := tag_ty ok r1 e1 hc
        obtain ⟨uv, h4, h5⟩ := asT_cls r2 e2
        exact .inl ⟨v, w, tv, uv, _, rfl, h5, h2, ok.one t u tv uv c.1 hc h3 h1 h4, q.bl g⟩
      · cases h
    · cases h
  · cases h
end
end VL

set_option Elab.async false
set_option linter.all false
set_option maxRecDepth 100000
set_option maxHeartbeats 2000000
namespace VL
open PySem PySem.Spec PyProof.Rows L2

mutual
theorem reads_lt {h : Heap} : ∀ {v : Value} {d : PyData} {as : List Addr}, Reads h v d as → ∀ a ∈ as, a < h.objs.size
  | _, _, _, .none, _, m => nomatch m
  | _, _, _, .bool _, _, m => nomatch m
  | _, _, _, .int _ _, _, m => nomatch m
  | _, _, _, .str _ _, _, m => nomatch m
  | _, _, _, .list e _ _ r, a, m => by
    rcases List.mem_cons.mp m with rfl | m
    · exact Heap.lt_size e
    · exact readsAll_lt r a m
  | _, _, _, .tuple e _ _ r, a, m => readsAll_lt r a m
  | _, _, _, .dict e _ _ r r2, a, m => by
    rcases List.mem_append.mp m with m | m
    · rcases List.mem_cons.mp m with rfl | m
      · exact Heap.lt_size e
      · exact readsAll_lt r a m
    · exact readsAll_lt r2 a m
theorem readsAll_lt {h : Heap} : ∀ {vs : List Value} {ds : List PyData} {as : List Addr}, ReadsAll h vs ds as → ∀ a ∈ as, a < h.objs.size
  | _, _, _, .nil, _, m => nomatch m
  | _, _, _, .cons r rs, a, m => by
    rcases List.mem_append.mp m with m | m
    · exact reads_lt r a m
    · exact readsAll_lt rs a m
end
section
variable {mg : MG} {W : WX} {σ : L2.St} {F F' : FS} {H H' : Hp} {fp fps fq : List Addr} {ρ : Env} {X : Cx}
/-! ### sorted -/
abbrev leD : (V × PyData) → (V × PyData) → Bool := PySem.W.dataLe false Prod.snd
/-- the parts of a sort: what is known of the items -/
structure SortP (K : PySem.W.Frag) (H : Hp) (bs : List (V × PyData)) : Prop where
  dp : ∀ b ∈ bs, Dp K H b.1 b.2
  al : PySem.W.AllAlike (bs.map Prod.snd)
  so : PySem.W.Sortable (bs.map Prod.snd)
  sz : bs.length ≤ sizeLine
  de : ∀ b ∈ bs, b.2.depth ≤ 40
theorem each_vals : ∀ {bs : List (V × PyData)} {us : List Value}, Vals (bs.map Prod.fst) us → PySem.W.EachIs (fun u b => RelV b.1 u) us bs
  | [], [], .nil => .nil
  | b :: bs, u :: us, .cons r t => .cons r (each_vals t)
theorem vals_each : ∀ {bs : List (V × PyData)} {us : List Value}, PySem.W.EachIs (fun u b => RelV b.1 u) us bs → Vals (bs.map Prod.fst) us
  | _, _, .nil => .nil
  | _, _, .cons r t => .cons r (vals_each t)
theorem each_and {α β : Type} {R R' : α → β → Prop} : ∀ {as : List α} {bs : List β}, PySem.W.EachIs R as bs → (∀ b ∈ bs, ∀ a, R a b → R' a b) → PySem.W.EachIs R' as bs
  | _, _, .nil, _ => .nil
  | _, _, .cons r t, h => .cons (h _ List.mem_cons_self _ r) (each_and t fun b m => h b (List.mem_cons_of_mem _ m))
theorem each_reads {pins : List (Addr × Obj)} {s : Shared} (I : Inv X pins σ H s) {bs : List (V × PyData)} {us : List Value} (P : SortP X.K H bs) (r : Vals (bs.map Prod.fst) us) : PySem.W.EachIs (fun v b => ∃ as, Reads s.heap v b.2 as) us bs :=
  each_and (each_vals r) fun b m u ru => Dp.reads I b.2 b.1 u (P.dp b m) ru
def rSortL (K : PySem.W.Frag) : List V → Hp → VK → Prop := fun xs H Q => ∃ a bs, xs = [.ref a] ∧ SqL K H a (bs.map Prod.fst) ∧ SortP K H bs ∧ ∀ p, H p = none → Q (.ref p) (upd H p (.lst ((bs.mergeSort leD).map Prod.fst)))
theorem call_sortL (hu : X.A.units + 64 < cLine) : CallR X (.builtin "sorted") (rSortL X.K) := by
  intro pins s σ H xs us Q I r h
  obtain ⟨a, bs, rfl, hs, P, q⟩ := h
  obtain ⟨u, rfl, rx⟩ := vals1 r
  cases rx
  obtain ⟨its, rv, pl, hz⟩ := I.list hs
  refine PySem.W.sorted_data (R := fun u b => RelV b.1 u) (enc := Prod.snd) pl.isList (each_vals rv) (each_reads I P rv) P.al P.so P.sz (fun b m => by have := P.de b m; omega) fun out ho eo => ?_
  obtain ⟨e, he⟩ := PyProof.Rows.sortedAll_at s.heap its (List.toArray out)
  have hlen : ((bs.mergeSort leD).map Prod.fst).length ≤ sizeLine := by rw [List.length_map, List.length_mergeSort]; exact P.sz
  refine ⟨.ref (s.heap.objs.size + 1), upd H (s.heap.objs.size + 1) (.lst ((bs.mergeSort leD).map Prod.fst)), I.laid (t' := s.toks) (fun b u e => PyProof.Rows.sortedAll_old e) (Nat.le_succ _) ?_, rfl, q _ (I.hok.fresh (Nat.le_succ _))⟩
  exact ⟨hlen, out, e, vals_each eo, he⟩
/-- the end of sorted: the collected items in a new list, sorted -/
theorem sort_end {pins : List (Addr × Obj)} {s : Shared} {h' : Heap} {tk : Nat} {l : List Value} {bs : List (V × PyData)} {Q : VK} (hu : X.A.units + 64 < cLine) (I : Inv X pins σ H s) (hk : ∀ b o, s.heap.get? b = some o → h'.get? b = some o) (SP : SortP X.K H bs) (rv : Vals (bs.map Prod.fst) l)
    (q : ∀ p, H p = none → Q (.ref p) (upd H p (.lst ((bs.mergeSort leD).map Prod.fst)))) :
    wpAny (model X.prog X.w) X.A.in1 (call (.builtin "list.sort") [.ref h'.objs.size]) (fun _ s' => EP X pins σ Q (.ref h'.objs.size) s') X.xe { s with heap := h'.push (PyProof.Rows.seqObj "list" l.toArray 0), toks := tk } := by
  have hoL : (h'.push (PyProof.Rows.seqObj "list" l.toArray 0)).get? h'.objs.size = some (PyProof.Rows.seqObj "list" l.toArray 0) := Heap.get?_push_size _ rfl
  have I1 : Inv X pins σ H { s with heap := h', toks := tk } := I.kept hk
  have k2 : ∀ b o, h'.get? b = some o → (h'.push (PyProof.Rows.seqObj "list" l.toArray 0)).get? b = some o := fun b o e => Heap.get?_push_of_some _ e
  have er : PySem.W.EachIs (fun v b => ∃ as, Reads (h'.push (PyProof.Rows.seqObj "list" l.toArray 0)) v b.2 as ∧ h'.objs.size ∉ as) l bs := each_and (each_reads I1 SP rv) fun b _ v ⟨as, r⟩ => ⟨as, PyProof.Rows.Reads.keeps k2 r, fun m => by
    exact absurd (reads_lt r _ m) (Nat.lt_irrefl _)⟩
  have hl : l.length = bs.length := by rw [← rv.length, List.length_map]
  refine PySem.W.list_sort_data (s := { s with heap := h'.push (PyProof.Rows.seqObj "list" l.toArray 0), toks := tk }) (R := fun u b => RelV b.1 u) (enc := Prod.snd) hoL (each_vals rv) er SP.al SP.so SP.sz (fun b m => by
    have := SP.de b m
    show X.A.in1.units + 1 + b.2.depth < cLine
    have hin : X.A.in1.units = X.A.units + 1 := rfl
    omega) fun out ho eo => ?_
  obtain ⟨e, he⟩ := PyProof.Rows.sortedHeap_at (vs := l) (out := List.toArray out) hoL
  have hlen : ((bs.mergeSort leD).map Prod.fst).length ≤ sizeLine := by rw [List.length_map, List.length_mergeSort]; exact SP.sz
  refine ⟨.ref h'.objs.size, upd H h'.objs.size (.lst ((bs.mergeSort leD).map Prod.fst)), I1.laid (t' := tk) (fun b u e => ?_) (Nat.le_refl _) ⟨hlen, out, e, vals_each eo, he⟩, rfl, q _ (I1.hok.fresh (Nat.le_refl _))⟩
  have hb : b < h'.objs.size := Heap.lt_size e
  rw [PyProof.Rows.sortedHeap_old (Nat.ne_of_lt hb) (by rw [size_push']; exact Nat.lt_succ_of_lt hb)]
  exact Heap.get?_push_of_some _ e
def rSortK : List V → Hp → VK → Prop := fun xs H Q => ∃ (a : Addr) (kvs : List (Key × V)) (bs : List (V × PyData)), xs = [.ref a] ∧ Rd H a (.dK kvs) ∧ bs.map Prod.fst = kvs.map (fun kv => kV kv.1) ∧ (∀ K, SortP K H bs) ∧ ∀ p, H p = none → Q (.ref p) (upd H p (.lst ((bs.mergeSort leD).map Prod.fst)))
theorem call_sortK (hc : X.calm = true) (hu : X.A.units + 64 < cLine) : CallR X (.builtin "sorted") rSortK := by
  intro pins s σ H xs us Q I r q
  obtain ⟨a, kvs, bs, ex, hd, hks, SP, q⟩ := q
  subst ex
  obtain ⟨u, eu, rx⟩ := vals1 r
  subst eu
  cases rx
  obtain ⟨z, lo, vs, rel, dd⟩ := dk_rd I.hok hd
  obtain ⟨ep, hat⟩ := dd.dictAt
  have ek : (kvs.map fun kv => kV kv.1) = vs.map fun p => kV p.1 := by
    have e := congrArg (List.map kV) rel.keys
    rw [List.map_map, List.map_map] at e
    exact e
  have h16 : vs.length ≤ sizeLine := by rw [← rel.length]; exact z
  refine Calls.call_function_entry PyProof.Rows.kind_sorted PyProof.Rows.plain_sorted PyProof.Rows.entry_sorted (PyProof.Rows.args_sorted1 _) ?_
  unfold Builtin.«sorted»
  refine wpAny_bind (m := checkCount "sorted" 1 1 _) (wpAny_pure ?_)
  refine wpAny_bind (PySem.W.kdu_collect (A := X.A.in1) (PySem.W.kdl_dict (knd := mixKind X.prog X.w) (kvs := vs) (ep := ep) lo) (I.ok.hd hc) hat h16 fun h' tk acc hk hacc => ?_)
  have hv : Vals (vs.map fun p => kV p.1) acc.toList := keys_at (by rw [Array.length_toList]; exact hacc.1) fun j v e => hacc.2 j v (by rw [← Array.getElem?_toList]; exact e)
  rw [← ek, ← hks] at hv
  refine wpAny_bind (wpAny_newList ?_ (by rw [← hv.length, List.length_map]; exact (SP X.K).sz))
  show wpAny _ _ _ _ _ { s with heap := h'.push (PyProof.Rows.seqObj "list" acc.toList.toArray 0), toks := tk }
  refine wpAny_bind (wpAny_holding (wpAny_mono (sort_end hu I hk (SP X.K) hv q) (fun _ s' x => wpAny_pure ⟨_, rfl, x⟩) fun _ _ e => e))
def rSortT : List V → Hp → VK → Prop := fun xs H Q => ∃ (a : Addr) (kvs : List (List Key × V)), xs = [.ref a] ∧ Rd H a (.dT kvs) ∧ ∀ as, IsKeys H kvs as → ∃ bs : List (V × PyData), bs.map Prod.fst = as.map V.ref ∧ (∀ K, SortP K H bs) ∧ ∀ p, H p = none → Q (.ref p) (upd H p (.lst ((bs.mergeSort leD).map Prod.fst)))
theorem call_sortT (hc : X.calm = true) (hu : X.A.units + 64 < cLine) : CallR X (.builtin "sorted") rSortT := by
  intro pins s σ H xs us Q I r q
  obtain ⟨d, kvs, ex, hd, q⟩ := q
  subst ex
  obtain ⟨u, eu, rx⟩ := vals1 r
  subst eu
  cases rx
  obtain ⟨z, hs, ks, pr, o, es, ep, ho, hx, hdt, he, hn⟩ := (show ObjOk X.prog X.w H s.heap d (.dT kvs) from hd.ok I.hok)
  have l1 : es.size = ks.length := size_of_entries he
  have l2 : kvs.length = ks.length := Paired.length pr
  refine Calls.call_function_entry PyProof.Rows.kind_sorted PyProof.Rows.plain_sorted PyProof.Rows.entry_sorted (PyProof.Rows.args_sorted1 _) ?_
  unfold Builtin.«sorted»
  refine wpAny_bind (m := checkCount "sorted" 1 1 _) (wpAny_pure ?_)
  refine wpAny_bind (PySem.W.kdu_collect (A := X.A.in1) (kdl_raw hs hx hdt) (I.ok.hd hc) ho (by omega) fun h' tk acc' hk it => ?_)
  have ea : acc'.toList = ks.map fun x => Value.ref x.2.1 := by
    have hl : acc'.toList.length = ks.length := by rw [Array.length_toList, it.1]; exact l1
    apply List.ext_getElem?
    intro j
    rw [List.getElem?_map]
    cases hj : acc'.toList[j]? with
    | none =>
      have h1 := List.getElem?_eq_none_iff.mp hj
      rw [List.getElem?_eq_none (by omega)]
      all_goals rfl
    | some v =>
      obtain ⟨en, hen, hv⟩ := it.2 j v (by rw [← Array.getElem?_toList]; exact hj)
      have qe := entry_at he j
      rw [hen] at qe
      cases hb : ks[j]? with
      | none =>
        rw [hb] at qe
        exact nomatch (show some en = none from qe)
      | some b =>
        rw [hb] at qe
        have e2 : en = entryOfKey (tupleKind (mixKind X.prog X.w)) b := Option.some.inj qe
        rw [hv, e2]
        all_goals rfl
  have eb : acc'.toList = (ks.map fun x => x.2.1).map Value.ref := by rw [ea, List.map_map]; all_goals rfl
  have rv : Vals ((ks.map fun x => x.2.1).map V.ref) acc'.toList := by rw [eb]; exact vals_refs _
  obtain ⟨bs, hb1, SP, q⟩ := q _ (isKeys_of pr)
  rw [← hb1] at rv
  refine wpAny_bind (wpAny_newList ?_ (by rw [← rv.length, List.length_map]; exact (SP X.K).sz))
  show wpAny _ _ _ _ _ { s with heap := h'.push (PyProof.Rows.seqObj "list" acc'.toList.toArray 0), toks := tk }
  refine wpAny_bind (wpAny_holding (wpAny_mono (sort_end hu I hk (SP X.K) rv q) (fun _ s' x => wpAny_pure ⟨_, rfl, x⟩) fun _ _ e => e))
/-! sorted at the level of values -/
def alAll (ps : List PyData) : Bool := ps.all fun p => ps.all fun q => PySem.W.alike p q
def sortable (ps : List PyData) : Bool := (ps.all fun p => match p with | .tuple (_ :: _) => true | _ => false) || ps.all fun p => match p with | .none => false | .tuple _ => false | _ => true
def sortD (ds : List D) : Option (List D) := (ds.mapM D.cmp).bind fun ps => if alAll ps && sortable ps && decide (ps.length < big) then some (((ds.zip ps).mergeSort (PySem.W.dataLe false Prod.snd)).map Prod.fst) else none
def fSorted (ds : List D) : Option D := match ds with
  | [.lst _ xs] => (sortD xs).bind fun ys => if fzdL ys then some (.lst true ys) else none
  | [.dct _ _ kvs] => (sortD (kvs.map fun kv => dOfDK kv.1)).map fun ys => .lst true ys
  | _ => none
theorem sortable_ok {ps : List PyData} (h : sortable ps = true) : PySem.W.Sortable ps := by
  unfold sortable at h
  rw [Bool.or_eq_true] at h
  rcases h with h | h
  · refine .inl fun d m => ?_
    have := List.all_eq_true.mp h d m
    split at this
    · exact ⟨_, _, rfl⟩
    · cases this
  · refine .inr fun d m => ?_
    have := List.all_eq_true.mp h d m
    split at this
    · cases this
    · cases this
    · rename_i h1 h2
      exact ⟨fun z => h1 z, fun xs z => h2 xs z⟩
theorem mapM_cmp : ∀ {ds : List D} {ps : List PyData}, ds.mapM D.cmp = some ps → ds.length = ps.length ∧ ∀ p ∈ ds.zip ps, p.1.cmp = some p.2
  | [], ps, h => by simp at h; subst h; simp
  | d :: ds, ps, h => by
    rw [List.mapM_cons] at h
    cases e1 : d.cmp with
    | none => rw [e1] at h; cases h
    | some p =>
      cases e2 : ds.mapM D.cmp with
      | none => rw [e1, e2] at h; cases h
      | some qs =>
        rw [e1, e2] at h
        cases h
        obtain ⟨h1, h2⟩ := mapM_cmp e2
        exact ⟨by simp [h1], fun q m => by
          rw [List.zip_cons_cons] at m
          rcases List.mem_cons.mp m with rfl | m
          · exact e1
          · exact h2 q m⟩
/-- V, D and data together -/
theorem sort_parts {vs : List V} {ds ys : List D} (r : Rs mg F H vs ds []) (h : sortD ds = some ys) : ∃ ps : List PyData, (∀ K, SortP K H (vs.zip ps)) ∧ (vs.zip ps).map Prod.fst = vs ∧ Rs mg F H (((vs.zip ps).mergeSort leD).map Prod.fst) ys [] := by
  unfold sortD at h
  obtain ⟨ps, e1, e2⟩ := Option.bind_eq_some_iff.mp h
  split at e2
  · rename_i c
    cases e2
    simp only [Bool.and_eq_true, decide_eq_true_eq] at c
    obtain ⟨hl, hz⟩ := mapM_cmp e1
    have hlv := r.len
    have hb := big_line
    have msnd : (vs.zip ps).map Prod.snd = ps := by rw [List.map_snd_zip]; omega
    have mfst : (vs.zip ps).map Prod.fst = vs := by rw [List.map_fst_zip]; omega
    -- the triples
    have tri : ∀ {vs : List V} {ds : List D} {ps : List PyData}, Rs mg F H vs ds [] → ds.length = ps.length → (∀ p ∈ ds.zip ps, p.1.cmp = some p.2) → ∃ ts : List (V × D × PyData), ts.map (fun t => (t.1, t.2.2)) = vs.zip ps ∧ ts.map (fun t => (t.2.1, t.2.2)) = ds.zip ps ∧ ∀ t ∈ ts, R mg F H t.1 t.2.1 [] ∧ t.2.1.cmp = some t.2.2 := by
      intro vs
      induction vs with
      | nil =>
        intro ds ps r _ _
        cases r
        exact ⟨[], by simp⟩
      | cons v vs ih =>
        intro ds ps r hl hz
        cases ds with
        | nil => cases r
        | cons d ds =>
          cases ps with
          | nil => simp at hl
          | cons p ps =>
            obtain ⟨r1, r2⟩ := r.uncons rfl
            obtain ⟨ts, h1, h2, h3⟩ := ih r2 (by simpa using hl) fun q m => hz q (by rw [List.zip_cons_cons]; exact List.mem_cons_of_mem _ m)
            refine ⟨(v, d, p) :: ts, by simp [h1], by simp [h2], fun t m => ?_⟩
            rcases List.mem_cons.mp m with rfl | m
            · exact ⟨r1, hz (d, p) (by rw [List.zip_cons_cons]; exact List.mem_cons_self)⟩
            · exact h3 t m
    obtain ⟨ts, t1, t2, t3⟩ := tri r hl hz
    refine ⟨ps, fun K => ⟨fun b m => ?_, ?_, ?_, ?_, fun b m => ?_⟩, mfst, ?_⟩
    · rw [← t1] at m
      obtain ⟨t, mt, rfl⟩ := List.mem_map.mp m
      obtain ⟨r1, r2⟩ := t3 t mt
      exact r1.dp (D.cmp_ok r2).1
    · rw [msnd]
      intro d hd d' hd'
      exact List.all_eq_true.mp (List.all_eq_true.mp c.1.1 d hd) d' hd'
    · rw [msnd]; exact sortable_ok c.1.2
    · rw [List.length_zip]; omega
    · rw [← t1] at m
      obtain ⟨t, mt, rfl⟩ := List.mem_map.mp m
      exact (D.cmp_ok (t3 t mt).2).2.2
    · have s1 : ((vs.zip ps).mergeSort leD) = (ts.mergeSort (PySem.W.dataLe false fun t => t.2.2)).map fun t => (t.1, t.2.2) := by
        rw [← t1]
        exact (PySem.W.sort_maps (fun t : V × D × PyData => (t.1, t.2.2)) fun a _ b _ => rfl).symm
      have s2 : ((ds.zip ps).mergeSort (PySem.W.dataLe false Prod.snd)) = (ts.mergeSort (PySem.W.dataLe false fun t => t.2.2)).map fun t => (t.2.1, t.2.2) := by
        rw [← t2]
        exact (PySem.W.sort_maps (fun t : V × D × PyData => (t.2.1, t.2.2)) fun a _ b _ => rfl).symm
      rw [s1, s2, List.map_map, List.map_map]
      have all : ∀ t ∈ ts.mergeSort (PySem.W.dataLe false fun t => t.2.2), R mg F H t.1 t.2.1 [] := fun t m => (t3 t ((List.mergeSort_perm ts _).mem_iff.mp m)).1
      generalize ts.mergeSort (PySem.W.dataLe false fun t => t.2.2) = us at all
      induction us with
      | nil => exact .nil
      | cons u us ih => exact .cons (fp := []) (fps := []) (all u List.mem_cons_self) (ih fun t m => all t (List.mem_cons_of_mem _ m))
  · cases e2
def rSortA (K : PySem.W.Frag) : List V → Hp → VK → Prop := fun xs H Q => rSortL K xs H Q ∨ rSortK xs H Q ∨ rSortT xs H Q
theorem call_sortA (hc : X.calm = true) (hu : X.A.units + 64 < cLine) : CallR X (.builtin "sorted") (rSortA X.K) := CallR.or (call_sortL hu) (CallR.or (call_sortK hc hu) (call_sortT hc hu))
theorem sortD_fzd {xs ys : List D} (e1 : sortD xs = some ys) (c : fzdL ys = true) : fzdL xs = true := by
  unfold sortD at e1
  obtain ⟨ps, f1, f2⟩ := Option.bind_eq_some_iff.mp e1
  split at f2
  · cases f2
    have hl := (mapM_cmp f1).1
    have pm := (List.mergeSort_perm (xs.zip ps) (PySem.W.dataLe false Prod.snd)).map Prod.fst
    rw [List.map_fst_zip (by omega)] at pm
    rw [fzdL_all] at c ⊢
    rw [List.all_eq_true] at c ⊢
    intro x hx
    exact c x (pm.mem_iff.mpr hx)
  · cases f2
theorem ops_sorted {K : PySem.W.Frag} : OpSL mg (rSortA K) fSorted := by
  intro F H fps vs ds d' Q g b h q
  unfold fSorted at h
  split at h
  · obtain ⟨ys, e1, e2⟩ := Option.bind_eq_some_iff.mp h
    split at e2
    · rename_i c
      cases e2
      obtain ⟨v, rfl, b'⟩ := b.one
      obtain ⟨a, xs, fq, rfl, e3, r⟩ := b'.lst
      obtain ⟨ps, P, m1, rs⟩ := sort_parts (r.nilfp (sortD_fzd e1 c)) e1
      exact .inl ⟨a, xs.zip ps, rfl, by rw [m1]; exact .inl e3, P K, q.lst rs g⟩
    · cases e2
  · obtain ⟨ys, e1, rfl⟩ := Option.map_eq_some_iff.mp h
    obtain ⟨v, rfl, b'⟩ := b.one
    obtain ⟨a, ob, kvs, fq, rfl, e3, o, ek, r⟩ := b'.dct
    rw [map_keys ek] at e1
    rcases o with ⟨_, l, rfl, rfl⟩ | ⟨_, l, rfl, rfl⟩
    · obtain ⟨ps, P, m1, rs⟩ := sort_parts (Rs.keysK (mg := mg) (F := F) (H := H) l) e1
      exact .inr (.inl ⟨a, l, _, rfl, e3, m1, P, q.lst rs g⟩)
    · refine .inr (.inr ⟨a, l, rfl, e3, fun as hk => ?_⟩)
      obtain ⟨ps, P, m1, rs⟩ := sort_parts (Rs.keysT (mg := mg) (F := F) hk) e1
      exact ⟨_, m1, P, q.lst rs g⟩
  · cases h
end
end VL

set_option Elab.async false
set_option linter.all false
set_option maxRecDepth 100000
set_option maxHeartbeats 2000000
namespace VL
open PySem PySem.Spec PyProof.Rows L2

section
variable {mg : MG} {W : WX} {σ : L2.St} {F F' : FS} {H H' : Hp} {fp fps fq : List Addr} {ρ : Env} {X : Cx}
/-! ### tests -/
theorem vT.bind {β α : Type} {L : Rl β α} {gb : M Bool} {k : Bool → M α} {Q : β → Hp → Prop} (h : vX mg W L (gb >>= k) σ H Q) : vT mg W gb σ H fun b H1 => vX mg W L (k b) σ H1 Q := by
  refine vX.then h fun b ρ c F H' fp fps r hE hG hP => ?_
  obtain ⟨rfl, rfl⟩ := r
  exact ⟨F, ρ, fps, hE, hG, hP⟩
theorem vX.pureB {b : Bool} {Q : Bool → Hp → Prop} (h : vX mg W rB (pure b) σ H Q) : Q b H := by
  obtain ⟨F, ρ, fps, hE, hG, hP⟩ := h
  exact hP b F H [] fps ⟨rfl, rfl⟩ hE (by simpa using hG) Rch.refl
def tAndM (a b : M Bool) : M Bool := a >>= fun c => if c then b else pure false
def tOrM (a b : M Bool) : M Bool := a >>= fun c => if c then pure true else b
def tNotM (a : M Bool) : M Bool := a >>= fun c => pure (!c)
def tVal (g : M D) : M Bool := g >>= fun d => match d with
  | .bl b => pure b
  | _ => fail
def D.truth : D → Option Bool
  | .non => some false | .bl b => some b | .int i => some (i != 0)
  | .tup xs => some (!xs.isEmpty) | .lst _ xs => some (!xs.isEmpty) | .dct true false kvs => some (!kvs.isEmpty)
  | .str s => if s.length < big then some ((s.length : Int) != 0) else none
  | _ => none
def tTru (o : M Ar) : M Bool := o >>= fun a => a.get >>= fun d => lift d.truth
theorem vt_val {e : Expr} {g : M D} (he : PE X e (vE mg W g)) (hi : ∀ whole, isTrue e X.env whole = (do let v ← whole; standAt e.pos; holding [v] (truthy v)) := by intro _; rfl) : PT X e (vT mg W (tVal g)) := by
  refine pt_imp (pt_val he hi) fun σ H Q h => ?_
  refine vX.then h fun d ρ v F H' fp fps r hE hG hP => ?_
  cases d with
  | bl b =>
    cases r
    exact ⟨b, rfl, hP b F H' [] fps ⟨rfl, rfl⟩ hE hG Rch.refl⟩
  | _ => exact False.elim hP
/-- a comparison as a test -/
theorem vt_cmp {op : CmpOp} {a b : Expr} {r : R2} {f : D → D → Option D} {o1 o2 : M Ar} {pos : Pos} (hf : OpS2 mg r f) (ho : OpR X (compareOp op) r) (ha : PE X a (vO mg W o1)) (hb : PE X b (vO mg W o2)) (hm : behindInMarks op b = false := by first | exact nobehind _ (by decide) (by decide) | rfl) : PT X (.Compare a [op] [b] pos) (vT mg W (tVal (gOp2 f o1 o2))) := by
  refine pt_imp (pt_cmpR ho ha hb hm) fun σ H Q h => ?_
  refine op2 (Q := fun x H' => ∃ k, x = .bl k ∧ Q k H') hf (W := W) ?_
  have h' : vT mg W (gOp2 f o1 o2 >>= fun d => match d with
    | .bl b => pure b
    | _ => fail) σ H Q := h
  refine vX.then (L := rD mg) h' fun d ρ v F H' fp fps r hE hG hP => ?_
  cases d with
  | bl b =>
    cases r
    exact ⟨b, rfl, hP b F H' [] fps ⟨rfl, rfl⟩ hE hG Rch.refl⟩
  | _ => exact False.elim hP
theorem ve_cmp {op : CmpOp} {a b : Expr} {r : R2} {f : D → D → Option D} {o1 o2 : M Ar} {pos : Pos} (hf : OpS2 mg r f) (ho : OpR X (compareOp op) r) (ha : PE X a (vO mg W o1)) (hb : PE X b (vO mg W o2)) (hm : behindInMarks op b = false := by first | exact nobehind _ (by decide) (by decide) | rfl) : PE X (.Compare a [op] [b] pos) (vE mg W (gOp2 f o1 o2)) :=
  pe_imp (pe_cmpR ho ha hb hm) fun _ _ _ h => op2 hf h
theorem ve_op {op : Operator} {a b : Expr} {r : R2} {f : D → D → Option D} {o1 o2 : M Ar} {pos : Pos} (hf : OpS2 mg r f) (ho : OpR X (binaryOp op) r) (ha : PE X a (vO mg W o1)) (hb : PE X b (vO mg W o2)) : PE X (.BinOp a op b pos) (vE mg W (gOp2 f o1 o2)) :=
  pe_imp (pe_op ho ha hb) fun _ _ _ h => op2 hf h
theorem ve_neg {a : Expr} {o : M Ar} {pos : Pos} (ha : PE X a (vO mg W o)) : PE X (.UnaryOp .USub a pos) (vE mg W (gOp1 fNeg o)) :=
  pe_imp (pe_un un_neg ha) fun _ _ _ h => op1 ops_neg h
theorem ve_isN {a : Expr} {o : M Ar} {j : Nat} {pos pos' : Pos} (ha : PE X a (vO mg W o)) : PE X (.Compare a [.Is] [.Constant .none j pos'] pos) (vE mg W (gOp1 fIsN o)) :=
  pe_imp (pe_cmp (pc_isN ha)) fun _ _ _ h => op1 ops_isN h
theorem ve_notN {a : Expr} {o : M Ar} {j : Nat} {pos pos' : Pos} (ha : PE X a (vO mg W o)) : PE X (.Compare a [.IsNot] [.Constant .none j pos'] pos) (vE mg W (gOp1 fNotN o)) :=
  pe_imp (pe_cmp (pc_notN ha)) fun _ _ _ h => op1 ops_notN h
theorem tB_of {g : M D} {t : TE} (ht : ∀ σ H Q, vE mg W g σ H Q → t σ H Q) {Q : Bool → Hp → Prop} (h : vT mg W (tVal g) σ H Q) : tB t σ H Q := by
  refine ht σ H _ ?_
  refine vX.then h fun d ρ v F H' fp fps r hE hG hP => ?_
  cases d with
  | bl b =>
    cases r
    exact ⟨b, rfl, hP b F H' [] fps ⟨rfl, rfl⟩ hE hG Rch.refl⟩
  | _ => exact False.elim hP
theorem vt_isN {a : Expr} {o : M Ar} {j : Nat} {pos pos' : Pos} (ha : PE X a (vO mg W o)) : PT X (.Compare a [.Is] [.Constant .none j pos'] pos) (vT mg W (tVal (gOp1 fIsN o))) :=
  pt_imp (pt_cmp (pc_isN ha)) fun _ _ _ h => tB_of (fun _ _ _ => op1 ops_isN) h
theorem vt_notN {a : Expr} {o : M Ar} {j : Nat} {pos pos' : Pos} (ha : PE X a (vO mg W o)) : PT X (.Compare a [.IsNot] [.Constant .none j pos'] pos) (vT mg W (tVal (gOp1 fNotN o))) :=
  pt_imp (pt_cmp (pc_notN ha)) fun _ _ _ h => tB_of (fun _ _ _ => op1 ops_notN) h
theorem vt_and {a b : Expr} {rest : List Expr} {g1 g2 : M Bool} {pos : Pos} (ha : PT X a (vT mg W g1)) (hb : PW X (.BoolOp .And (b :: rest) pos) (vT mg W g2)) : PW X (.BoolOp .And (a :: b :: rest) pos) (vT mg W (tAndM g1 g2)) :=
  pw_imp (pw_and ha hb) fun σ H Q h => by
    obtain ⟨F, ρ, fps, hE, hG, hP⟩ := vT.bind h
    refine vX.imp ⟨F, ρ, fps, hE, hG, hP⟩ fun b H1 q => ?_
    cases b with
    | true => exact q
    | false => exact vX.pureB q
theorem vt_or {a b : Expr} {rest : List Expr} {g1 g2 : M Bool} {pos : Pos} (ha : PT X a (vT mg W g1)) (hb : PW X (.BoolOp .Or (b :: rest) pos) (vT mg W g2)) : PW X (.BoolOp .Or (a :: b :: rest) pos) (vT mg W (tOrM g1 g2)) :=
  pw_imp (pw_or ha hb) fun σ H Q h => by
    obtain ⟨F, ρ, fps, hE, hG, hP⟩ := vT.bind h
    refine vX.imp ⟨F, ρ, fps, hE, hG, hP⟩ fun b H1 q => ?_
    cases b with
    | true => exact vX.pureB q
    | false => exact q
theorem vt_not {a : Expr} {g : M Bool} {pos : Pos} (ha : PT X a (vT mg W g)) : PT X (.UnaryOp .Not a pos) (vT mg W (tNotM g)) :=
  pt_imp (pt_not ha) fun σ H Q h => vX.imp (vT.bind h) fun b H1 q => vX.pureB q
theorem vt_tru {a : Expr} {o : M Ar} (ha : PE X a (vO mg W o)) (he : ∀ whole, isTrue a X.env whole = (do let v ← whole; standAt a.pos; holding [v] (truthy v)) := by intro _; rfl) : PT X a (vT mg W (tTru o)) := by
  refine pt_imp (pt_truth ha he) fun σ H Q h => ?_
  refine vX.then h fun ar ρ v F H' fp fps ro hE hG hP => ?_
  cases e : ar.get ρ with
  | bad => rw [M.bind_bad e] at hP; exact False.elim hP
  | exc x ρ1 => exact absurd e Ar.get_noexc
  | ok d ρ1 =>
    rw [M.bind_ok e] at hP
    obtain ⟨rfl, b⟩ := Ar.get_ok ro hE e
    cases e2 : d.truth with
    | none => rw [e2] at hP; exact False.elim hP
    | some k =>
      rw [e2] at hP
      refine ⟨k, ?_, hP k F H' [] fps ⟨rfl, rfl⟩ hE hG.right (Rch.refl.sub fun a m => List.mem_append_right _ m)⟩
      have hb := big_line
      cases d with
      | non => cases e2; rw [b.non]; rfl
      | bl c => cases e2; rw [b.bl]; rfl
      | int i => cases e2; rw [b.int]; rfl
      | str s =>
        replace e2 : (if s.length < big then some ((s.length : Int) != 0) else none) = some k := e2
        split at e2
        · rename_i hs
          cases e2
          rw [b.str]
          exact ⟨Nat.le_of_lt (Nat.lt_trans hs hb), rfl⟩
        · cases e2
      | tup xs =>
        cases e2
        obtain ⟨a, ys, rfl, e1, r⟩ := b.tup
        refine .inr (.inl ⟨ys, .inl (.inl e1), ?_⟩)
        have hl := r.len
        cases ys <;> cases xs <;> first | rfl | (simp at hl)
      | lst o xs =>
        cases e2
        obtain ⟨a, ys, fq, rfl, e1, r⟩ := b.lst
        refine .inl ⟨ys, .inl e1, ?_⟩
        have hl := r.len
        cases ys <;> cases xs <;> first | rfl | (simp at hl)
      | dct o t kvs =>
        cases o with
        | false => cases t <;> cases e2
        | true =>
        cases t with
        | true => cases e2
        | false =>
          cases e2
          obtain ⟨a, ob, ks, fq, rfl, e1, o, ek, r⟩ := b.dctO
          rcases o with ⟨_, l, rfl, rfl⟩ | ⟨h, _⟩
          · refine .inr (.inr ⟨l, e1, ?_⟩)
            cases l <;> cases kvs <;> first | rfl | (simp at ek)
          · cases h
      | ins o c fs => cases e2
      | ty n => cases e2
      | cls c => cases e2
      | scr c => cases e2
      | ptp c => cases e2
      | tab c => cases e2
/-! ### and, or, not, a if c else b as values -/
def gAndV (a b : M D) : M D := a >>= fun d => match d with
  | .bl true => b
  | .bl false => pure (.bl false)
  | _ => fail
def gOrV (a b : M D) : M D := a >>= fun d => match d with
  | .bl true => pure (.bl true)
  | .bl false => b
  | _ => fail
def gNotV (a : M D) : M D := a >>= fun d => match d with
  | .bl c => pure (.bl (!c))
  | _ => fail
def gIfE (c : M Bool) (a b : M D) : M D := c >>= fun t => if t then a else b
theorem vE.of {g : M D} {ρ : Env} {Q : VK} (hE : RE mg F H ρ σ fps) (hG : Gd F H fps) (hP : Pst mg W σ (rD mg) F H fps (g ρ) Q) : vE mg W g σ H Q := ⟨F, ρ, fps, hE, hG, hP⟩
theorem vE.pureV {d : D} {v : V} {ρ : Env} {Q : VK} (hE : RE mg F H ρ σ fps) (hG : Gd F H fps) (r : R mg F H v d []) (hP : Pst mg W σ (rD mg) F H fps (.ok d ρ) Q) : Q v H := hP v F H [] fps r hE (by simpa using hG) Rch.refl
theorem ve_and {a b : Expr} {rest : List Expr} {g1 g2 : M D} {pos : Pos} (ha : PE X a (vE mg W g1)) (hb : PE X (.BoolOp .And (b :: rest) pos) (vE mg W g2)) : PE X (.BoolOp .And (a :: b :: rest) pos) (vE mg W (gAndV g1 g2)) :=
  pe_imp (pe_and ha hb) fun σ H Q h => by
    refine vX.then h fun d ρ v F H' fp fps r hE hG hP => ?_
    cases d with
    | bl c =>
      cases r
      refine ⟨c, rfl, ?_⟩
      cases c with
      | true => exact vE.of hE hG hP
      | false => exact vE.pureV hE hG (.bl false) hP
    | _ => exact False.elim hP
theorem ve_or {a b : Expr} {rest : List Expr} {g1 g2 : M D} {pos : Pos} (ha : PE X a (vE mg W g1)) (hb : PE X (.BoolOp .Or (b :: rest) pos) (vE mg W g2)) : PE X (.BoolOp .Or (a :: b :: rest) pos) (vE mg W (gOrV g1 g2)) :=
  pe_imp (pe_or ha hb) fun σ H Q h => by
    refine vX.then h fun d ρ v F H' fp fps r hE hG hP => ?_
    cases d with
    | bl c =>
      cases r
      refine ⟨c, rfl, ?_⟩
      cases c with
      | true => exact vE.pureV hE hG (.bl true) hP
      | false => exact vE.of hE hG hP
    | _ => exact False.elim hP
theorem ve_not {a : Expr} {g : M D} {pos : Pos} (ha : PE X a (vE mg W g)) : PE X (.UnaryOp .Not a pos) (vE mg W (gNotV g)) :=
  pe_imp (pe_not ha) fun σ H Q h => by
    refine vX.then h fun d ρ v F H' fp fps r hE hG hP => ?_
    cases d with
    | bl c =>
      cases r
      exact ⟨c, rfl, vE.pureV hE hG (.bl (!c)) hP⟩
    | _ => exact False.elim hP
theorem ve_ife {c a b : Expr} {gc : M Bool} {g1 g2 : M D} {pos : Pos} (hc : PT X c (vT mg W gc)) (ha : PE X a (vE mg W g1)) (hb : PE X b (vE mg W g2)) : PE X (.IfExp c a b pos) (vE mg W (gIfE gc g1 g2)) :=
  pe_imp (pe_ifExp hc ha hb) fun σ H Q h => vX.imp (vT.bind h) fun t H1 q => by
    cases t with
    | true => exact q
    | false => exact q
/-! ### a < b < c -/
def gChain (f f' : D → D → Option D) (a b c : M Ar) : M D := (a >>= fun x => b >>= fun y => pure (x, y)) >>= fun p => p.1.get >>= fun x => p.2.get >>= fun y => match f x y with
  | some (.bl true) => c >>= fun z => p.2.get >>= fun y' => z.get >>= fun z' => lift (f' y' z')
  | some (.bl false) => pure (.bl false)
  | _ => fail
theorem chain_ok {r r' : R2} {f f' : D → D → Option D} {o1 o2 o3 : M Ar} (hf : OpS2 mg r f) (hf' : OpS2 mg r' f') {Q : VK} (h : vE mg W (gChain f f' o1 o2 o3) σ H Q) : tChain r r' (vO mg W o1) (vO mg W o2) (vO mg W o3) σ H Q := by
  refine vX.seq (Q := fun x y H2 => r x y H2 fun z H3 => ∃ k, z = .bl k ∧ (if k = true then vO mg W o3 σ H3 (fun w' H4 => r' y w' H4 Q) else Q (.bl false) H3)) ?_
  refine vX.then h fun p ρ v F H' fp fps ro hE hG hP => ?_
  obtain ⟨fp1, fp2, rfl, r1, r2⟩ := ro
  cases e : p.1.get ρ with
  | bad => rw [M.bind_bad e] at hP; exact False.elim hP
  | exc x ρ1 => exact absurd e Ar.get_noexc
  | ok d ρ1 =>
    rw [M.bind_ok e] at hP
    obtain ⟨rfl, b1⟩ := Ar.get_ok r1 hE e
    cases e2 : p.2.get ρ1 with
    | bad => rw [M.bind_bad e2] at hP; exact False.elim hP
    | exc x ρ2 => exact absurd e2 Ar.get_noexc
    | ok d2 ρ2 =>
      rw [M.bind_ok e2] at hP
      obtain ⟨rfl, b2⟩ := Ar.get_ok r2 hE e2
      have m1 : ∀ a ∈ fp1 ++ fps, a ∈ (fp1 ++ fp2) ++ fps := fun a m => by
        rcases List.mem_append.mp m with m | m
        · exact List.mem_append_left _ (List.mem_append_left _ m)
        · exact List.mem_append_right _ m
      have m2 : ∀ a ∈ fp2 ++ fps, a ∈ (fp1 ++ fp2) ++ fps := fun a m => by
        rcases List.mem_append.mp m with m | m
        · exact List.mem_append_left _ (List.mem_append_right _ m)
        · exact List.mem_append_right _ m
      cases e3 : f d d2 with
      | none => rw [e3] at hP; exact False.elim hP
      | some t =>
        rw [e3] at hP
        cases t with
        | bl k =>
          refine hf F H' _ v.1 v.2 d d2 _ _ hG (b1.mono m1) (b2.mono m2) e3 fun z F3 H3 fq rz g3 c3 => ?_
          cases rz
          refine ⟨k, rfl, ?_⟩
          have kp := c3.keeps0 hG
          have hE3 := hE.move (c3.keeps0 hG.right)
          have hG3 : Gd F3 H3 ((fp1 ++ fp2) ++ fps) := by simpa using new_all (fq := []) hG g3 c3
          have hc3 : Rch F H' ((fp1 ++ fp2) ++ fps) F3 H3 ((fp1 ++ fp2) ++ fps) := by simpa using c3.more (U := (fp1 ++ fp2) ++ fps) fun _ m => nomatch m
          cases k with
          | false =>
            rw [if_neg Bool.false_ne_true]
            exact hP (.bl false) F3 H3 [] fps (.bl false) hE3 hG3.right (hc3.sub fun a m => List.mem_append_right _ m)
          | true =>
            rw [if_pos rfl]
            have r2' := r2.move (c3.keeps0 (fps := fp2) (hG.left.right))
            refine ⟨F3, _, fps, hE3, hG3.right, ?_⟩
            cases e4 : o3 ρ2 with
            | bad =>
              have : (o3 >>= fun z => p.2.get >>= fun y' => z.get >>= fun z' => lift (f' y' z')) ρ2 = .bad := M.bind_bad e4
              simp only at hP
              rw [this] at hP
              exact hP
            | exc x ρ3 =>
              have : (o3 >>= fun z => p.2.get >>= fun y' => z.get >>= fun z' => lift (f' y' z')) ρ2 = .exc x ρ3 := M.bind_exc e4
              simp only at hP
              rw [this] at hP
              intro cls dd F4 H4 fps4 x4 r4 g4 c4
              have := hG3
              exact hP cls dd F4 H4 fps4 x4 r4 g4 ((hc3.carry c4).sub fun _ m => List.mem_append_right _ m)
            | ok a4 ρ3 =>
              have : (o3 >>= fun z => p.2.get >>= fun y' => z.get >>= fun z' => lift (f' y' z')) ρ2 = (p.2.get >>= fun y' => a4.get >>= fun z' => lift (f' y' z')) ρ3 := M.bind_ok e4
              simp only at hP
              rw [this] at hP
              intro w F4 H4 fp4 fps4 r4 e4' g4 c4
              have kk := c4.keeps hG3
              have r2'' := r2'.move (kk.sub fun a m => List.mem_append_right _ m)
              have hG4 := hG3.carry c4 g4
              have hc4 := hc3.carry c4
              cases e5 : p.2.get ρ3 with
              | bad => rw [M.bind_bad e5] at hP; exact False.elim hP
              | exc x ρ4 => exact absurd e5 Ar.get_noexc
              | ok y4 ρ4 =>
                rw [M.bind_ok e5] at hP
                obtain ⟨rfl, b5⟩ := Ar.get_ok r2'' e4' e5
                cases e6 : a4.get ρ4 with
                | bad => rw [M.bind_bad e6] at hP; exact False.elim hP
                | exc x ρ5 => exact absurd e6 Ar.get_noexc
                | ok z4 ρ5 =>
                  rw [M.bind_ok e6] at hP
                  obtain ⟨rfl, b6⟩ := Ar.get_ok r4 e4' e6
                  cases e7 : f' y4 z4 with
                  | none => rw [e7] at hP; exact False.elim hP
                  | some d7 =>
                    rw [e7] at hP
                    rw [← List.append_assoc] at hG4 hc4
                    refine hf' F4 H4 ((fp1 ++ fp2 ++ fp4) ++ fps4) v.2 w y4 z4 d7 Q hG4 (b5.mono fun a m => ?_) (b6.mono fun a m => ?_) e7 fun u F5 H5 fq ru gu cu => ?_
                    · rcases List.mem_append.mp m with m | m
                      · exact List.mem_append_left _ (List.mem_append_left _ (List.mem_append_right _ m))
                      · exact List.mem_append_right _ m
                    · rcases List.mem_append.mp m with m | m
                      · exact List.mem_append_left _ (List.mem_append_right _ m)
                      · exact List.mem_append_right _ m
                    · have hE5 := e4'.move (cu.keeps0 hG4.right)
                      have hG5 := new_all hG4.right gu cu
                      refine hP u F5 H5 fq fps4 ru hE5 hG5 (hc4.trans ((cu.more (U := (fp1 ++ fp2 ++ fp4) ++ fps4) fun _ m => nomatch m).sub fun b m => ?_))
                      rcases List.mem_append.mp m with m | m
                      · exact List.mem_append_left _ m
                      · exact List.mem_append_right _ (List.mem_append_right _ m)
        | _ => exact False.elim hP
theorem ve_chain {op op' : CmpOp} {a b c : Expr} {r r' : R2} {f f' : D → D → Option D} {o1 o2 o3 : M Ar} {pos : Pos} (hf : OpS2 mg r f) (hf' : OpS2 mg r' f') (ho : OpR X (compareOp op) r) (ho' : OpR X (compareOp op') r') (ha : PE X a (vO mg W o1)) (hb : PE X b (vO mg W o2)) (hc : PE X c (vO mg W o3))
    (hm : lastMarks [op, op'] [b, c] = false := by with_unfolding_all rfl) : PE X (.Compare a [op, op'] [b, c] pos) (vE mg W (gChain f f' o1 o2 o3)) :=
  pe_imp (pe_chain ho ho' ha hb hc hm) fun _ _ _ h => chain_ok hf hf' h
theorem vt_chain {op op' : CmpOp} {a b c : Expr} {r r' : R2} {f f' : D → D → Option D} {o1 o2 o3 : M Ar} {pos : Pos} (hf : OpS2 mg r f) (hf' : OpS2 mg r' f') (ho : OpR X (compareOp op) r) (ho' : OpR X (compareOp op') r') (ha : PE X a (vO mg W o1)) (hb : PE X b (vO mg W o2)) (hc : PE X c (vO mg W o3))
    (hm : lastMarks [op, op'] [b, c] = false := by with_unfolding_all rfl) : PT X (.Compare a [op, op'] [b, c] pos) (vT mg W (tVal (gChain f f' o1 o2 o3))) :=
  pt_imp (pt_chain ho ho' ha hb hc hm) fun _ _ _ h => tB_of (fun _ _ _ => chain_ok hf hf') h
end
end VL

set_option Elab.async false
set_option linter.all false
set_option maxRecDepth 100000
set_option maxHeartbeats 2000000
namespace VL
open PySem PySem.Spec PyProof.Rows L2

/-! ### calls of own defs -/
inductive Out where
  | ret (d : D) (as : List D) | exc (e : Ex) (as : List D) | bad
/-- what a def promises that does what f says -/
def spV (mg : MG) (f : List D → Out) : Sp := fun vs H Q E => ∃ F ds fps, Rs mg F H vs ds fps ∧ Gd F H fps ∧ match f ds with
  | .ret d as => ∀ v F' H' fp fps', R mg F' H' v d fp → Rs mg F' H' vs as fps' → Gd F' H' (fp ++ fps') → Rch F H fps F' H' (fp ++ fps') → Q v H'
  | .exc e as => ∀ cls dd F' H' fps', ExR mg F' H' e cls dd → Rs mg F' H' vs as fps' → Gd F' H' fps' → Rch F H fps F' H' fps' → E cls dd H'
  | .bad => False
def lend : List Ar → Env → Option (List D × Env)
  | [], ρ => some ([], ρ)
  | .val d :: r, ρ => (lend r ρ).map fun p => (d :: p.1, p.2)
  | .slot i :: r, ρ => match ρ[i]? with
    | some (some d) => if d.fzd then (lend r ρ).map fun p => (d :: p.1, p.2) else (lend r (ρ.set i none)).map fun p => (d :: p.1, p.2)
    | _ => none
def lentB (ρ : Env) (i : Nat) : Bool := match ρ[i]? with
  | some none => true
  | _ => false
def back : List Ar → List D → Env → Env
  | .slot i :: r, d :: ds, ρ => if lentB ρ i then back r ds (ρ.set i (some d)) else back r ds ρ
  | .val _ :: r, _ :: ds, ρ => back r ds ρ
  | _, _, ρ => ρ
def gCall (f : List D → Out) (a : M (List Ar)) : M D := a >>= fun as => fun ρ => match lend as ρ with
  | none => .bad
  | some (ds, ρ1) => match f ds with
    | .ret d ds' => .ok d (back as ds' ρ1)
    | .exc e ds' => .exc e (back as ds' ρ1)
    | .bad => .bad
section
variable {mg : MG} {W : WX} {σ : L2.St} {F F' : FS} {H H' : Hp} {fp fps fq : List Addr} {X : Cx}
theorem perm_mid {α : Type} {a b c : List α} : (a ++ (b ++ c)).Perm (b ++ (a ++ c)) := by
  rw [← List.append_assoc, ← List.append_assoc]
  exact List.Perm.append_right _ List.perm_append_comm
theorem lend_ok : ∀ {as : List Ar} {vs : List V} {ds : List D} {fp fps : List Addr} {ρ ρ1 : Env}, RA mg σ F H vs as fp → RE mg F H ρ σ fps → lend as ρ = some (ds, ρ1) → ∃ fa fr, Rs mg F H vs ds fa ∧ RE mg F H ρ1 σ fr ∧ (fp ++ fps).Perm (fa ++ fr)
  | [], _, _, _, _, _, _, .nil, hE, h => by
    cases h
    exact ⟨[], _, .nil, hE, List.Perm.refl _⟩
  | .val d :: r, _, _, _, fps, ρ, ρ1, .cons (fp := fp1) (fps := fp2) (.val rv) rs, hE, h => by
    unfold lend at h
    obtain ⟨p, e1, e2⟩ := Option.map_eq_some_iff.mp h
    cases e2
    obtain ⟨fa, fr, h1, h2, h3⟩ := lend_ok rs hE e1
    exact ⟨fp1 ++ fa, fr, .cons rv h1, h2, by
      rw [List.append_assoc, List.append_assoc]
      exact List.Perm.append_left _ h3⟩
  | .slot i :: r, _, _, _, fps, ρ, ρ1, .cons (fps := fp2) (.slot e) rs, hE, h => by
    unfold lend at h
    split at h
    · rename_i d ed
      split at h
      · rename_i cf
        obtain ⟨p, e1, e2⟩ := Option.map_eq_some_iff.mp h
        cases e2
        obtain ⟨v, fq, e3, rv, _⟩ := hE.get ed
        rw [e] at e3
        cases e3
        obtain ⟨fa, fr, h1, h2, h3⟩ := lend_ok rs hE e1
        exact ⟨[] ++ fa, fr, .cons (rv.nilfp cf) h1, h2, by simpa using h3⟩
      · obtain ⟨p, e1, e2⟩ := Option.map_eq_some_iff.mp h
        cases e2
        obtain ⟨v, fq, rest, e3, rv, hE', pm⟩ := hE.take ed
        rw [e] at e3
        cases e3
        obtain ⟨fa, fr, h1, h2, h3⟩ := lend_ok rs hE' e1
        refine ⟨fq ++ fa, fr, .cons rv h1, h2, ?_⟩
        rw [List.nil_append]
        refine (List.Perm.append_left fp2 pm).trans ?_
        rw [List.append_assoc]
        exact perm_mid.trans (List.Perm.append_left fq h3)
    · cases h
theorem back_ok : ∀ {as : List Ar} {vs : List V} {ds : List D} {fp fa fr : List Addr} {ρ : Env} {F0 : FS} {H0 : Hp}, RA mg σ F0 H0 vs as fp → Rs mg F H vs ds fa → RE mg F H ρ σ fr → ∃ gone fps', RE mg F H (back as ds ρ) σ fps' ∧ (fa ++ fr).Perm (gone ++ fps')
  | [], _, _, _, _, fr, ρ, _, _, .nil, .nil, hE => ⟨[], fr, hE, List.Perm.refl _⟩
  | .val d0 :: r, v :: vs, d :: ds, _, _, fr, ρ, _, _, .cons _ rs, .cons (fp := f1) (fps := f2) rv rvs, hE => by
    obtain ⟨gone, fps', h1, h2⟩ := back_ok rs rvs hE
    refine ⟨f1 ++ gone, fps', h1, ?_⟩
    rw [List.append_assoc, List.append_assoc]
    exact List.Perm.append_left _ h2
  | .slot i :: r, v :: vs, d :: ds, _, _, fr, ρ, _, _, .cons (.slot e) rs, .cons (fp := f1) (fps := f2) rv rvs, hE => by
    unfold back
    by_cases c : lentB ρ i = true
    · rw [if_pos c]
      have hi : i < ρ.length := by
        cases q : ρ[i]? with
        | none => unfold lentB at c; rw [q] at c; cases c
        | some x => exact (List.getElem?_eq_some_iff.mp q).1
      obtain ⟨g1, fr', h1, h2⟩ := hE.put hi rv
      have es : σ.set i (some v) = σ := List.ext_getElem? fun j => by
        by_cases hj : i = j
        · subst hj; rw [List.getElem?_set_self (List.getElem?_eq_some_iff.mp e).1, e]
        · rw [List.getElem?_set_ne hj]
      rw [es] at h1
      obtain ⟨gone, fps', h3, h4⟩ := back_ok rs rvs h1
      refine ⟨g1 ++ gone, fps', h3, ?_⟩
      rw [List.append_assoc, List.append_assoc]
      have e1 : (f1 ++ (f2 ++ fr)).Perm (f2 ++ (f1 ++ fr)) := perm_mid
      have e2 : (f2 ++ (f1 ++ fr)).Perm (f2 ++ (g1 ++ fr')) := List.Perm.append_left _ h2
      exact (e1.trans e2).trans (perm_mid.trans (List.Perm.append_left _ h4))
    · rw [if_neg c]
      obtain ⟨gone, fps', h3, h4⟩ := back_ok rs rvs hE
      refine ⟨f1 ++ gone, fps', h3, ?_⟩
      rw [List.append_assoc, List.append_assoc]
      exact List.Perm.append_left _ h4
/-- the heart of a call: from the lent arguments to the caller's frame again -/
theorem call_core {as : List Ar} {vs : List V} {ρ : Env} {f : List D → Out} {Q : VK} (hP : Pst mg W σ (rD mg) F H (fp ++ fps) (match lend as ρ with
    | none => .bad
    | some (ds, ρ1) => match f ds with
      | .ret d ds' => .ok d (back as ds' ρ1)
      | .exc e ds' => .exc e (back as ds' ρ1)
      | .bad => .bad) Q) (ra : RA mg σ F H vs as fp) (hE : RE mg F H ρ σ fps) (hG : Gd F H (fp ++ fps)) : spV mg f vs H Q (WE W σ) := by
  cases e : lend as ρ with
  | none => rw [e] at hP; exact False.elim hP
  | some p =>
    obtain ⟨ds, ρ1⟩ := p
    rw [e] at hP
    obtain ⟨fa, fr, h1, h2, h3⟩ := lend_ok ra hE e
    have g1 : Gd F H (fa ++ fr) := hG.perm h3
    have g1' : Gd F H (fr ++ fa) := g1.perm List.perm_append_comm
    refine ⟨F, ds, fa, h1, g1.left, ?_⟩
    simp only at hP
    cases ef : f ds with
    | bad => rw [ef] at hP; exact hP
    | ret d ds' =>
      rw [ef] at hP
      intro v F' H' f1 f2 rv rvs g2 c2
      have hE2 := h2.move (c2.keeps g1')
      have g3 : Gd F' H' (fr ++ (f1 ++ f2)) := g1'.carry c2 g2
      obtain ⟨gone, fps', hE3, pm⟩ := back_ok ra rvs hE2
      have pm2 : (fr ++ (f1 ++ f2)).Perm (gone ++ (f1 ++ fps')) := by
        refine (List.perm_append_comm).trans ?_
        rw [List.append_assoc]
        exact (List.Perm.append_left f1 pm).trans perm_mid
      have c3 : Rch F H (fp ++ fps) F' H' (fr ++ (f1 ++ f2)) := by
        have : Rch F H (fp ++ fps) F H (fr ++ fa) := ⟨fun _ _ z _ => z, fun _ z => z, fun _ z => .inl z, fun a m => .inl (h3.mem_iff.mpr ((List.perm_append_comm).mem_iff.mp m))⟩
        exact this.carry c2
      exact hP v F' H' f1 fps' rv hE3 ((g3.perm pm2).right) (c3.sub fun a m => pm2.mem_iff.mpr (List.mem_append_right _ m))
    | exc x ds' =>
      rw [ef] at hP
      intro cls dd F' H' f2 rv rvs g2 c2
      have hE2 := h2.move (c2.keeps g1')
      have g3 : Gd F' H' (fr ++ f2) := g1'.carry c2 g2
      obtain ⟨gone, fps', hE3, pm⟩ := back_ok ra rvs hE2
      have pm2 : (fr ++ f2).Perm (gone ++ fps') := (List.perm_append_comm).trans pm
      have c3 : Rch F H (fp ++ fps) F' H' (fr ++ f2) := by
        have : Rch F H (fp ++ fps) F H (fr ++ fa) := ⟨fun _ _ z _ => z, fun _ z => z, fun _ z => .inl z, fun a m => .inl (h3.mem_iff.mpr ((List.perm_append_comm).mem_iff.mp m))⟩
        exact this.carry c2
      exact hP cls dd F' H' fps' rv hE3 ((g3.perm pm2).right) (c3.sub fun a m => pm2.mem_iff.mpr (List.mem_append_right _ m))
/-- the def x stands at f and does what g says, by at most k levels -/
def DnP (P : Program) (w : World) (K : PySem.W.Frag) (mg : Str → Option Value) (base : Heap) (x : Str) (k : Nat) (g : List D → Out) : Prop :=
  ∃ f fd ps, FnOk P w K mg base (L2.CX P w) k f fd ps (spV ⟨mg, K⟩ g) ∧ mg x = some (.ref f) ∧ PySem.W.keepIn K (.ref f) = true ∧ Binds K fd ps []
abbrev Dn (X : Cx) (x : Str) (k : Nat) (g : List D → Out) : Prop := DnP X.prog X.w X.K X.mg X.base x k g
theorem ve_call {e : Expr} {es : List Expr} {x : Str} {p pos : Pos} {k : Nat} {g : List D → Out} {a : M (List Ar)} (hd : Dn X x k g) (hr : Room k X.A) (hg : Gl X x) (tk : Takes X W) (ha : PA X (e :: es) (vA (mG X) W a)) (hdb : (x == ("__debug__" : Str)) = false := by decide)
    (he : starEach (e :: es) X.env = (false, eval e X.env) :: starEach es X.env := by rfl) (hpl : (backTo pos (starEach es X.env)).any (·.1) = false := by rfl) : PE X (.Call (.Name x p) (e :: es) [] pos) (vE (mG X) W (gCall g a)) := by
  obtain ⟨f, fd, ps, ok, hm, hk, hb⟩ := hd
  refine pe_imp (pe_callS ok hr hg hm hk hb (fun σ => passAt tk σ) ha hdb he hpl) fun σ H Q h => ?_
  refine vX.then h fun as ρ vs F H' fp fps ra hE hG hP => ?_
  exact call_core hP ra hE hG
/-! ### a new instance -/
def gMake (c : Str) (g : List D → Out) (a : M (List Ar)) : M D := a >>= fun as => fun ρ => match vals as with
  | none => .bad
  | some ds => match g (.ins true c [] :: ds) with
    | .ret .non (self :: _) => .ok self ρ
    | .exc e _ => .exc e ρ
    | _ => .bad
/-- the class c stands at C, its __init__ does what g says -/
def CnP (P : Program) (w : World) (K : PySem.W.Frag) (mg : Str → Option Value) (base : Heap) (c : Str) (k : Nat) (g : List D → Out) : Prop :=
  ∃ C f fd ps, Mk K C f ∧ FnOk P w K mg base (L2.CX P w) k f fd ps (spV ⟨mg, K⟩ g) ∧ mg c = some (.ref C) ∧ Binds K fd ps []
abbrev Cn (X : Cx) (c : Str) (k : Nat) (g : List D → Out) : Prop := CnP X.prog X.w X.K X.mg X.base c k g
theorem make_run {pins : List (Addr × Obj)} {s : Shared} {C f : Addr} {fd : FuncData} {ps : List Str} {sp : Sp} {k : Nat} {E : L2.St → XK} {Q : VK} {us : List Value} {vs : List V} (M : Mk X.K C f) (ok : FnOk X.prog X.w X.K X.mg X.base (L2.CX X.prog X.w) k f fd ps sp)
    (hr : Room (k + 1) X.A) (hb : Binds X.K fd ps []) (hx : PassesAt (L2.CX X.prog X.w) X σ (E σ)) (I : Inv X pins σ H s) (r : Vals vs us)
    (h : ∀ x dx, H x = none → H dx = none → dx ≠ x → sp (.ref x :: vs) (upd (upd H dx (.own x)) x (.ins C dx [])) (fun v H2 => v = .non ∧ Q (.ref x) H2) (E σ)) :
    wpAny (model X.prog X.w) X.A (call (.ref C) us) (EP X pins σ Q) X.xe s := by
  have J := Inv.made (C := C) I
  have fr1 : H (s.heap.objs.size + 1) = none := I.hok.fresh (Nat.le_succ _)
  have fr0 : H s.heap.objs.size = none := I.hok.fresh (Nat.le_refl _)
  have want := h _ _ fr1 fr0 (Nat.ne_of_lt (Nat.lt_succ_self _))
  have rr : Vals (V.ref (s.heap.objs.size + 1) :: vs) (Value.ref (s.heap.objs.size + 1) :: us) := .cons rfl r
  have len := (ok.len _ _ _ _ want).symm.trans rr.length
  have bound := hb _ (Value.ref (s.heap.objs.size + 1) :: us) J.kIn (by rw [List.append_nil]; exact len.symm)
  rw [List.append_nil] at bound
  have run := ok.run _ X.stack _ _ _ _ _ _ (E σ) (hr.make C us []) (J.env0.make C us []) bound rr want
  refine wpAny_call (make_map (f := f) I.kIn M.makes M.init (beq_iff_eq.mp M.fn) (codeAny_mono run fun res s' got => ?_))
  match res, got with
  | .error e, got => exact hx pins _ _ e s' J got
  | .ok (.ret u), got =>
    obtain ⟨v, H', J', rv, ev, q⟩ := J.after got
    subst ev
    exact ⟨rv, V.ref (s.heap.objs.size + 1), H', J', rfl, q⟩
  | .ok .next, got => exact got.elim
  | .ok .brk, got => exact got.elim
  | .ok .cont, got => exact got.elim
theorem upd_tmp {dx x : Addr} {a b : HO} {z : Addr} (h1 : z ≠ dx) (h2 : z ≠ x) : (upd (upd H dx a) x b) z = H z := by rw [upd_ne h2, upd_ne h1]
theorem ve_make {e : Expr} {es : List Expr} {c : Str} {p pos : Pos} {k : Nat} {g : List D → Out} {a : M (List Ar)} (hd : Cn X c k g) (hr : Room (k + 1) X.A) (hg : Gl X c) (tk : Takes X W) (ha : PA X (e :: es) (vA (mG X) W a)) (hdb : (c == ("__debug__" : Str)) = false := by decide)
    (he : starEach (e :: es) X.env = (false, eval e X.env) :: starEach es X.env := by rfl) (hpl : (backTo pos (starEach es X.env)).any (·.1) = false := by rfl) : PE X (.Call (.Name c p) (e :: es) [] pos) (vE (mG X) W (gMake c g a)) := by
  obtain ⟨C, f, fd, ps, M, ok, hm, hb⟩ := hd
  refine ⟨fun pins s σ H Q I h => ?_⟩
  refine wpAny_Call_Name_kw (ld_glob I hg hm ?_ hdb)
  have h2 : vA (mG X) W a σ H fun vs H1 => ∀ x dx, H1 x = none → H1 dx = none → dx ≠ x → spV (mG X) g (.ref x :: vs) (upd (upd H1 dx (.own x)) x (.ins C dx [])) (fun v H2 => v = .non ∧ Q (.ref x) H2) (WE W σ) := by
    refine vX.then h fun as ρ vs F H' fp fps ra hE hG hP => ?_
    intro x dx nx nd ne
    cases e1 : vals as with
    | none => rw [e1] at hP; exact False.elim hP
    | some ds =>
      rw [e1] at hP
      have r := ra.vals e1
      -- the heap with the bare instance
      have hz : ∀ z, H' z ≠ none → (upd (upd H' dx (.own x)) x (.ins C dx [])) z = H' z := fun z n => upd_tmp (fun q => n (by rw [q]; exact nd)) fun q => n (by rw [q]; exact nx)
      have kp : Keeps F F H' (upd (upd H' dx (.own x)) x (.ins C dx [])) (fp ++ fps) := ⟨fun a f n => ⟨f, hz a n⟩, fun a m => hz a (hG.own a m).trk, fun a xs q => (hz a (some_trk q)).trans q⟩
      have rs : Rs (mG X) F (upd (upd H' dx (.own x)) x (.ins C dx [])) (.ref x :: vs) (.ins true c [] :: ds) ([x] ++ fp) := .cons (.insO upd_same hm rfl .nil) (r.move (kp.sub fun _ m => List.mem_append_left _ m))
      have hE1 := hE.move (kp.sub fun _ m => List.mem_append_right _ m)
      have xin : x ∉ fp ++ fps := fun m => (hG.own x m).trk nx
      have g1 : Gd F (upd (upd H' dx (.own x)) x (.ins C dx [])) (fps ++ ([x] ++ fp)) := by
        have pm : (x :: (fp ++ fps)).Perm (fps ++ ([x] ++ fp)) := by
          refine List.Perm.trans ?_ List.perm_append_comm
          exact List.Perm.refl _
        refine Gd.perm (fps := x :: (fp ++ fps)) ⟨List.nodup_cons.mpr ⟨xin, hG.nd⟩, fun a m f => ?_, fun a f => ?_, fun a m => ?_⟩ pm
        · rcases List.mem_cons.mp m with rfl | m
          · exact hG.trk a f nx
          · exact hG.dis a m f
        · rw [hz a (hG.trk a f)]; exact hG.trk a f
        · rcases List.mem_cons.mp m with rfl | m
          · exact ⟨_, upd_same, fun _ z => nomatch z⟩
          · exact (hG.own a m).eq (kp.ow a m)
      have c1 : Rch F H' (fp ++ fps) F (upd (upd H' dx (.own x)) x (.ins C dx [])) (fps ++ ([x] ++ fp)) := ⟨fun b o q _ => (hz b (some_trk q)).trans q, fun _ z => z, fun _ z => .inl z, fun a m => by
        rcases List.mem_append.mp m with m | m
        · exact .inl (List.mem_append_right _ m)
        · rcases List.mem_append.mp m with m | m
          · rw [List.mem_singleton] at m; subst m; exact .inr nx
          · exact .inl (List.mem_append_left _ m)⟩
      refine ⟨F, _, _, rs, g1.right, ?_⟩
      cases ef : g (.ins true c [] :: ds) with
      | bad => simp only [ef] at hP; exact False.elim hP
      | exc x1 as1 =>
        simp only [ef] at hP
        intro cls dd F2 H2 f2 rx rvs g2 c2
        have hE2 := hE1.move (c2.keeps g1)
        have g3 := g1.carry c2 g2
        exact hP cls dd F2 H2 fps rx hE2 g3.left ((c1.carry c2).sub fun a m => List.mem_append_left _ m)
      | ret d as1 =>
        simp only [ef] at hP
        intro v F2 H2 f1 f2 rv rvs g2 c2
        cases d with
        | non =>
          cases as1 with
          | nil => exact False.elim hP
          | cons self as2 =>
            cases rv
            refine ⟨rfl, ?_⟩
            have hE2 := hE1.move (c2.keeps g1)
            have g3 := g1.carry c2 g2
            have c3 := c1.carry c2
            cases rvs with
            | cons rself rest =>
              rename_i fs fr
              have pm : (fps ++ ([] ++ (fs ++ fr))).Perm (fr ++ (fs ++ fps)) := by
                rw [List.nil_append, ← List.append_assoc]
                refine List.perm_append_comm.trans (List.Perm.append_left fr List.perm_append_comm)
              exact hP (.ref x) F2 H2 fs fps rself hE2 ((g3.perm pm).right) (c3.sub fun a m => pm.mem_iff.mpr (List.mem_append_right _ m))
        | _ => exact False.elim hP
  refine PySem.W.callWith_K (h₀ := X.base) I.ok.mod.kin M.kp (thn (ha.run pos pins s σ H _ I h2) fun us s1 ⟨vs, H1, I1, r, q⟩ => ⟨I1.kIn, ?_⟩) he hpl
  exact make_run (E := WE W) M ok hr hb (passAt tk σ) I1 r q
end
end VL

set_option Elab.async false
set_option linter.all false
set_option maxRecDepth 100000
set_option maxHeartbeats 2000000
namespace VL
open PySem PySem.Spec PyProof.Rows L2

/-! ### statements -/
inductive SR where
  | nx (ρ : Env) | rt (d : D) (ρ : Env) | bk (ρ : Env) | ct (ρ : Env) | exc (e : Ex) (ρ : Env) | bad
abbrev S := Env → SR
/-- the slots in us hold what they held at the entry -/
def Pn (us : List Nat) (vs : List V) (σ : L2.St) : Prop := ∀ i ∈ us, ∀ v, vs[i]? = some v → σ[i]? = some (some v)
def SPst (mg : MG) (W : WX) (us : List Nat) (vs : List V) (F : FS) (H : Hp) (fps : List Addr) (r : SR) (D : Ends) : Prop :=
  match r with
  | .nx ρ' => ∀ σ' F' H' fps', RE mg F' H' ρ' σ' fps' → Gd F' H' fps' → Pn us vs σ' → Rch F H fps F' H' fps' → D.nx σ' H'
  | .bk ρ' => ∀ σ' F' H' fps', RE mg F' H' ρ' σ' fps' → Gd F' H' fps' → Pn us vs σ' → Rch F H fps F' H' fps' → D.bk σ' H'
  | .ct ρ' => ∀ σ' F' H' fps', RE mg F' H' ρ' σ' fps' → Gd F' H' fps' → Pn us vs σ' → Rch F H fps F' H' fps' → D.ct σ' H'
  | .rt d ρ' => ∀ v σ' F' H' fp fps', R mg F' H' v d fp → RE mg F' H' ρ' σ' fps' → Gd F' H' (fp ++ fps') → Pn us vs σ' → Rch F H fps F' H' (fp ++ fps') → D.rt v H'
  | .exc e ρ' => ∀ cls dd σ' F' H' fps', ExR mg F' H' e cls dd → RE mg F' H' ρ' σ' fps' → Gd F' H' fps' → Pn us vs σ' → Rch F H fps F' H' fps' → W cls dd σ' H'
  | .bad => False
def vS (mg : MG) (W : WX) (us : List Nat) (vs : List V) (s : S) : TS := fun D σ H =>
  ∃ F ρ fps, RE mg F H ρ σ fps ∧ Gd F H fps ∧ Pn us vs σ ∧ SPst mg W us vs F H fps (s ρ) D
def sBind {α : Type} (g : M α) (k : α → S) : S := fun ρ => match g ρ with
  | .ok a ρ' => k a ρ'
  | .exc e ρ' => .exc e ρ'
  | .bad => .bad
def sSeq (a b : S) : S := fun ρ => match a ρ with
  | .nx ρ' => b ρ'
  | r => r
def sPass : S := .nx
def sBreak : S := .bk
def sCont : S := .ct
def sRet (g : M D) : S := sBind g fun d ρ => .rt d ρ
def sRetN : S := fun ρ => .rt .non ρ
def sExpr (g : M D) : S := sBind g fun _ ρ => .nx ρ
def sIf (c : M Bool) (a b : S) : S := sBind c fun t => if t then a else b
def sNever : S := fun _ => .bad
/-- a name of the frame is stored -/
def setSlot (i : Nat) (d : D) (ρ : Env) : SR := if i < ρ.length then .nx (ρ.set i (some d)) else .bad
def sSet (i : Nat) (g : M D) : S := sBind g (setSlot i)
def forget : List Nat → Env → Env
  | [], ρ => ρ
  | i :: r, ρ => forget r (ρ.set i none)
def sForget (is : List Nat) (s : S) : S := fun ρ => match s ρ with
  | .nx ρ' => .nx (forget is ρ')
  | .ct ρ' => .ct (forget is ρ')
  | r => r
section
variable {mg : MG} {W : WX} {σ : L2.St} {F F' : FS} {H H' : Hp} {fp fps fq : List Addr} {X : Cx} {us : List Nat} {vs : List V} {D : Ends}
theorem SPst.trans {F1 : FS} {H1 : Hp} {fps1 : List Addr} {r : SR} (h : SPst mg W us vs F H fps r D) (c : Rch F H fps F1 H1 fps1) : SPst mg W us vs F1 H1 fps1 r D := by
  cases r with
  | nx ρ' => exact fun σ' F' H' fps' a b p q => h σ' F' H' fps' a b p (c.trans q)
  | bk ρ' => exact fun σ' F' H' fps' a b p q => h σ' F' H' fps' a b p (c.trans q)
  | ct ρ' => exact fun σ' F' H' fps' a b p q => h σ' F' H' fps' a b p (c.trans q)
  | rt d ρ' => exact fun v σ' F' H' fp fps' a b p q z => h v σ' F' H' fp fps' a b p q (c.trans z)
  | exc e ρ' => exact fun cls dd σ' F' H' fps' a b p q z => h cls dd σ' F' H' fps' a b p q (c.trans z)
  | bad => exact h
theorem vS.bind {β α : Type} {L : Rl β α} {g : M α} {k : α → S} {T : β → Hp → Prop} (h : vS mg W us vs (sBind g k) D σ H)
    (st : ∀ (a : α) (ρ : Env) (x : β) (F : FS) (H' : Hp) (fp fps : List Addr), L.rel F H' x a fp → RE mg F H' ρ σ fps → Gd F H' (fp ++ fps) → Pn us vs σ → SPst mg W us vs F H' (fp ++ fps) (k a ρ) D → T x H') : vX mg W L g σ H T := by
  obtain ⟨F, ρ, fps, hE, hG, hp, hP⟩ := h
  refine ⟨F, ρ, fps, hE, hG, ?_⟩
  unfold sBind at hP
  cases e : g ρ with
  | bad => rw [e] at hP; exact hP
  | exc x ρ1 =>
    rw [e] at hP
    exact fun cls dd F' H' fps' a b c q => hP cls dd σ F' H' fps' a b c hp q
  | ok a ρ1 =>
    rw [e] at hP
    intro x F1 H1 fp1 fps1 r1 e1 g1 c1
    exact st a ρ1 x F1 H1 fp1 fps1 r1 e1 g1 hp (hP.trans c1)
theorem vS.of {ρ : Env} {s : S} (hE : RE mg F H ρ σ fps) (hG : Gd F H fps) (hp : Pn us vs σ) (hP : SPst mg W us vs F H fps (s ρ) D) : vS mg W us vs s D σ H := ⟨F, ρ, fps, hE, hG, hp, hP⟩
theorem rch_drop : Rch F H (fp ++ fps) F H fps := Rch.refl.sub fun a m => List.mem_append_right _ m
theorem vss_nil : PSs X [] (vS mg W us vs sPass) := pss_imp pss_nil fun D σ H ⟨F, ρ, fps, hE, hG, hp, hP⟩ => hP σ F H fps hE hG hp Rch.refl
theorem vss_cons {st : Stmt} {rest : List Stmt} {a b : S} (h1 : PS X st (vS mg W us vs a)) (h2 : PSs X rest (vS mg W us vs b)) : PSs X (st :: rest) (vS mg W us vs (sSeq a b)) := by
  refine pss_imp (pss_cons h1 h2) fun D σ H ⟨F, ρ, fps, hE, hG, hp, hP⟩ => ⟨F, ρ, fps, hE, hG, hp, ?_⟩
  unfold sSeq at hP
  cases e : a ρ with
  | nx ρ' =>
    rw [e] at hP
    exact fun σ' F' H' fps' a1 a2 a3 a4 => ⟨F', ρ', fps', a1, a2, a3, hP.trans a4⟩
  | bk ρ' => rw [e] at hP; exact hP
  | ct ρ' => rw [e] at hP; exact hP
  | rt d ρ' => rw [e] at hP; exact hP
  | exc x ρ' => rw [e] at hP; exact hP
  | bad => rw [e] at hP; exact hP
theorem vss_one {st : Stmt} {a : S} (h1 : PS X st (vS mg W us vs a)) : PSs X [st] (vS mg W us vs a) := pss_one h1
theorem vs_pass {pos : Pos} : PS X (.Pass pos) (vS mg W us vs sPass) := ps_imp ps_pass fun D σ H ⟨F, ρ, fps, hE, hG, hp, hP⟩ => hP σ F H fps hE hG hp Rch.refl
theorem vs_break {pos : Pos} : PS X (.Break pos) (vS mg W us vs sBreak) := ps_imp ps_break fun D σ H ⟨F, ρ, fps, hE, hG, hp, hP⟩ => hP σ F H fps hE hG hp Rch.refl
theorem vs_cont {pos : Pos} : PS X (.Continue pos) (vS mg W us vs sCont) := ps_imp ps_continue fun D σ H ⟨F, ρ, fps, hE, hG, hp, hP⟩ => hP σ F H fps hE hG hp Rch.refl
theorem vs_never {st : Stmt} : PS X st (vS mg W us vs sNever) := ps_imp ps_never fun D σ H ⟨F, ρ, fps, hE, hG, hp, hP⟩ => hP
theorem vs_ret {e : Expr} {g : M VL.D} {pos : Pos} (he : PE X e (vE mg W g)) : PS X (.Return (some e) pos) (vS mg W us vs (sRet g)) :=
  ps_imp (ps_ret he) fun D σ H h => vS.bind (L := rD mg) h fun d ρ x F H' fp fps r hE hG hp hP => hP x σ F H' fp fps r hE hG hp Rch.refl
theorem vs_retN {pos : Pos} : PS X (.Return none pos) (vS mg W us vs sRetN) := ps_imp ps_retN fun D σ H ⟨F, ρ, fps, hE, hG, hp, hP⟩ => hP .non σ F H [] fps .non hE (by simpa using hG) hp Rch.refl
theorem vs_expr {e : Expr} {g : M VL.D} {pos : Pos} (he : PE X e (vE mg W g)) (hs : swapsWith e none pos.line X.env = pure false := by rfl) : PS X (.Expr e pos) (vS mg W us vs (sExpr g)) :=
  ps_imp (ps_expr he hs) fun D σ H h => vS.bind (L := rD mg) h fun d ρ x F H' fp fps r hE hG hp hP => hP σ F H' fps hE hG.right hp rch_drop
theorem vs_if {c : Expr} {a b : List Stmt} {g : M Bool} {sa sb : S} {pos : Pos} (hc : PT X c (vT mg W g)) (ha : PSs X a (vS mg W us vs sa)) (hb : PSs X b (vS mg W us vs sb)) : PS X (.If c a b pos) (vS mg W us vs (sIf g sa sb)) :=
  ps_imp (ps_if hc ha hb) fun D σ H h => vS.bind (L := rB) h fun t ρ x F H' fp fps r hE hG hp hP => by
    obtain ⟨rfl, rfl⟩ := r
    cases x with
    | true => exact vS.of hE hG hp hP
    | false => exact vS.of hE hG hp hP
theorem Pn.set {i : Nat} {s : Option V} (h : Pn us vs σ) (hi : i ∉ us) : Pn us vs (σ.set i s) := fun j hj v hv => by
  have hne : i ≠ j := by
    rintro rfl
    exact hi hj
  rw [List.getElem?_set_ne hne]
  exact h j hj v hv
/-- a slot takes a value that is held -/
theorem store_slot {i : Nat} {v : V} {d : VL.D} {ρ : Env} (r : R mg F H v d fp) (hE : RE mg F H ρ σ fps) (hG : Gd F H (fp ++ fps)) (hp : Pn us vs σ) (hi : i ∉ us) (hP : SPst mg W us vs F H (fp ++ fps) (setSlot i d ρ) D) : D.nx (σ.set i (some v)) H := by
  unfold setSlot at hP
  split at hP
  · rename_i hl
    obtain ⟨gone, fps', h1, h2⟩ := hE.put hl r
    exact hP (σ.set i (some v)) F H fps' h1 (hG.perm h2).right (hp.set hi) (Rch.refl.sub fun a m => h2.mem_iff.mpr (List.mem_append_right _ m))
  · exact False.elim hP
theorem vs_set {i : Nat} {x : Str} {e : Expr} {g : M VL.D} {pos pos' : Pos} (hN : X.N.Nodup) (hi : X.N[i]? = some x) (hx : Loc X.env.scope x) (he : PE X e (vE mg W g)) (hu : i ∉ us) (hs : swapsWith e (some (.Name x pos')) pos.line X.env = pure false := by rfl) (hf : X.fn x = true ∨ X.env.scope.names.lookup x = some .local := by first | exact .inl rfl | exact .inr rfl) :
    PS X (.Assign [.Name x pos'] e pos) (vS mg W us vs (sSet i g)) :=
  ps_imp (ps_set hN hi hx he hs hf) fun D σ H h => vS.bind (L := rD mg) h fun d ρ v F H' fp fps r hE hG hp hP => store_slot r hE hG hp hu hP
theorem forget_ok : ∀ {is : List Nat} {ρ : Env} {fps : List Addr}, RE mg F H ρ σ fps → ∃ gone rest, RE mg F H (forget is ρ) σ rest ∧ fps.Perm (gone ++ rest)
  | [], _, fps, h => ⟨[], fps, h, List.Perm.refl _⟩
  | i :: r, _, fps, h => by
    obtain ⟨g1, r1, h1, h2⟩ := h.drop i
    obtain ⟨g2, r2, h3, h4⟩ := forget_ok (is := r) h1
    exact ⟨g1 ++ g2, r2, h3, by rw [List.append_assoc]; exact h2.trans (List.Perm.append_left _ h4)⟩
theorem pss_forget {st : List Stmt} {s : S} (is : List Nat) (h : PSs X st (vS mg W us vs s)) : PSs X st (vS mg W us vs (sForget is s)) := by
  refine pss_imp h fun D σ H ⟨F, ρ, fps, hE, hG, hp, hP⟩ => ⟨F, ρ, fps, hE, hG, hp, ?_⟩
  unfold sForget at hP
  cases e : s ρ with
  | nx ρ' =>
    rw [e] at hP
    intro σ' F' H' fps' a1 a2 a3 a4
    obtain ⟨gone, rest, h1, h2⟩ := forget_ok (is := is) a1
    exact hP σ' F' H' rest h1 (a2.perm h2).right a3 (a4.sub fun a m => h2.mem_iff.mpr (List.mem_append_right _ m))
  | ct ρ' =>
    rw [e] at hP
    intro σ' F' H' fps' a1 a2 a3 a4
    obtain ⟨gone, rest, h1, h2⟩ := forget_ok (is := is) a1
    exact hP σ' F' H' rest h1 (a2.perm h2).right a3 (a4.sub fun a m => h2.mem_iff.mpr (List.mem_append_right _ m))
  | bk ρ' => rw [e] at hP; exact hP
  | rt d ρ' => rw [e] at hP; exact hP
  | exc x ρ' => rw [e] at hP; exact hP
  | bad => rw [e] at hP; exact hP
end

/-! ### a def -/
/-- what is handed in is frozen, but for the slots in us -/
def maskA (us : List Nat) : Nat → List D → List D
  | _, [] => []
  | i, d :: ds => (if i ∈ us then d else d.fz) :: maskA us (i + 1) ds
/-- what the arguments are at the end -/
def finA (us : List Nat) : Nat → List D → Env → Option (List D)
  | _, [], _ => some []
  | i, d :: ds, s :: ρ => if i ∈ us then (match s with
    | some d' => (finA us (i + 1) ds ρ).map (d' :: ·)
    | none => none) else (finA us (i + 1) ds ρ).map (d :: ·)
  | _, _ :: _, [] => none
def runDef (n size : Nat) (us : List Nat) (body : S) (ds : List D) : Out :=
  if ds.length = n then
    let ds1 := maskA us 0 ds
    match body (ds1.map some ++ List.replicate (size - n) none) with
    | .nx ρ => (match finA us 0 ds1 ρ with | some as => .ret .non as | none => .bad)
    | .rt d ρ => (match finA us 0 ds1 ρ with | some as => .ret d as | none => .bad)
    | .exc e ρ => (match finA us 0 ds1 ρ with | some as => .exc e as | none => .bad)
    | _ => .bad
  else .bad
section
variable {mg : MG} {W : WX} {σ : L2.St} {F F' : FS} {H H' : Hp} {fp fps fq : List Addr} {us : List Nat}
theorem mask_ok : ∀ {ds : List D} {vs : List V} {fps : List Addr} (i : Nat), Rs mg F H vs ds fps → ∃ gone rest, Rs mg (F.add gone) H vs (maskA us i ds) rest ∧ fps.Perm (gone ++ rest)
  | [], _, _, _, .nil => ⟨[], [], .nil, List.Perm.refl _⟩
  | d :: ds, _, _, i, .cons (fp := f1) (fps := f2) r rs => by
    obtain ⟨gone, rest, h1, h2⟩ := mask_ok (i + 1) rs
    unfold maskA
    by_cases c : i ∈ us
    · rw [if_pos c]
      refine ⟨gone, f1 ++ rest, .cons (r.move (keeps_add gone)) h1, (List.Perm.append_left _ h2).trans perm_mid⟩
    · rw [if_neg c]
      refine ⟨f1 ++ gone, rest, ?_, by rw [List.append_assoc]; exact List.Perm.append_left _ h2⟩
      have k : Keeps (F.add gone) (F.add (f1 ++ gone)) H H rest := ⟨fun a f _ => ⟨f.imp_right (List.mem_append_right _), rfl⟩, fun _ _ => rfl, fun _ _ e => e⟩
      exact .cons (fp := []) (r.freeze (fun a f => .inl f) fun a m => .inr (List.mem_append_left _ m)) (h1.move k)
theorem mask_len : ∀ {ds : List D} (i : Nat), (maskA us i ds).length = ds.length
  | [], _ => rfl
  | _ :: ds, i => by simp [maskA, mask_len (ds := ds) (i + 1)]
theorem RE.none_all : ∀ n : Nat, RE mg F H (List.replicate n none) (List.replicate n none) []
  | 0 => .nil
  | n + 1 => .skip (RE.none_all n)
theorem RE.start : ∀ {ds : List D} {vs : List V} {fps : List Addr} (n : Nat), Rs mg F H vs ds fps → RE mg F H (ds.map some ++ List.replicate n none) (vs.map some ++ List.replicate n none) fps
  | _, _, _, n, .nil => RE.none_all n
  | _, _, _, n, .cons r rs => .cons r (RE.start n rs)
theorem mask_fzd : ∀ {ds : List D} (i : Nat) (j : Nat) (d : D), (maskA us i ds)[j]? = some d → i + j ∉ us → d.fzd = true
  | [], _, _, _, h, _ => by simp [maskA] at h
  | d :: ds, i, 0, e, h, n => by
    unfold maskA at h
    rw [if_neg (by simpa using n)] at h
    simp at h; subst h
    exact D.fz_fzd d
  | d :: ds, i, j + 1, e, h, n => mask_fzd (i + 1) j e (by simpa [maskA] using h) (by rwa [Nat.add_right_comm, Nat.add_assoc])
/-- the arguments' last trees -/
theorem fin_ok : ∀ {ds : List D} {vs : List V} {σ : L2.St} {ρ : Env} {as : List D} {fps : List Addr} (i : Nat), finA us i ds ρ = some as → RE mg F H ρ σ fps → vs.length = ds.length →
    (∀ j v, i + j ∈ us → vs[j]? = some v → σ[j]? = some (some v)) → (∀ j v d, i + j ∉ us → vs[j]? = some v → ds[j]? = some d → R mg F H v d []) → ∃ fa, Rs mg F H vs as fa ∧ fa.Sublist fps
  | [], [], _, _, as, fps, i, h, _, _, _, _ => by
    unfold finA at h
    cases h
    exact ⟨[], .nil, List.nil_sublist _⟩
  | d :: ds, v :: vs, _, s :: ρ, as, fps, i, h, hE, hl, hp, hz => by
    unfold finA at h
    cases hE with
    | skip hE =>
      rename_i so σ'
      by_cases c : i ∈ us
      · rw [if_pos c] at h
        cases h
      · rw [if_neg c] at h
        obtain ⟨as', e1, rfl⟩ := Option.map_eq_some_iff.mp h
        obtain ⟨fa, h1, h2⟩ := fin_ok (i + 1) e1 hE (by simpa using hl) (fun j v' m e => by simpa using hp (j + 1) v' (by rwa [← Nat.add_right_comm, ← Nat.add_assoc] at *) (by simpa using e)) fun j v' d' m e e' => hz (j + 1) v' d' (by rwa [← Nat.add_right_comm, ← Nat.add_assoc] at *) (by simpa using e) (by simpa using e')
        exact ⟨[] ++ fa, .cons (hz 0 v d (by simpa using c) rfl rfl) h1, by simpa using h2⟩
    | cons r hE =>
      rename_i v' d' σ' f1 f2
      by_cases c : i ∈ us
      · rw [if_pos c] at h
        obtain ⟨as', e1, rfl⟩ := Option.map_eq_some_iff.mp h
        have ev := hp 0 v (by simpa using c) rfl
        simp at ev; subst ev
        obtain ⟨fa, h1, h2⟩ := fin_ok (i + 1) e1 hE (by simpa using hl) (fun j v' m e => by simpa using hp (j + 1) v' (by rwa [← Nat.add_right_comm, ← Nat.add_assoc] at *) (by simpa using e)) fun j v' d' m e e' => hz (j + 1) v' d' (by rwa [← Nat.add_right_comm, ← Nat.add_assoc] at *) (by simpa using e) (by simpa using e')
        exact ⟨f1 ++ fa, .cons r h1, List.Sublist.append (List.Sublist.refl _) h2⟩
      · rw [if_neg c] at h
        obtain ⟨as', e1, rfl⟩ := Option.map_eq_some_iff.mp h
        obtain ⟨fa, h1, h2⟩ := fin_ok (i + 1) e1 hE (by simpa using hl) (fun j v' m e => by simpa using hp (j + 1) v' (by rwa [← Nat.add_right_comm, ← Nat.add_assoc] at *) (by simpa using e)) fun j v' d' m e e' => hz (j + 1) v' d' (by rwa [← Nat.add_right_comm, ← Nat.add_assoc] at *) (by simpa using e) (by simpa using e')
        exact ⟨[] ++ fa, .cons (hz 0 v d (by simpa using c) rfl rfl) h1, by simpa using h2.trans (List.sublist_append_right f1 f2)⟩
theorem start_eq {N : List Str} {vs : List V} : L2.start N vs = vs.map some ++ List.replicate (N.length - vs.length) none := rfl
theorem run_len {mg : MG} {n size : Nat} {body : S} {vs : List V} {H : Hp} {Q : VK} {E : XK} (h : spV mg (runDef n size us body) vs H Q E) : vs.length = n := by
  obtain ⟨F, ds, fps, r, g, h⟩ := h
  by_cases c : ds.length = n
  · rw [r.len]; exact c
  · have : runDef n size us body ds = .bad := if_neg c
    rw [this] at h
    exact h.elim
/-- from the call to the body -/
theorem def_core {K : PySem.W.Frag} {mg : Str → Option Value} {x : Scope} {N ps : List Str} (Sc : FnScope N ps x) {us : List Nat} {body : S} {vs : List V} {H : Hp} {Q : VK} {E : XK} (h : spV ⟨mg, K⟩ (runDef ps.length N.length us body) vs H Q E) :
    vS ⟨mg, K⟩ (fun cls d _ H => E cls d H) us vs body { nx := fun _ H' => Q .non H', rt := Q } (L2.start N vs) H := by
  have hl := run_len h
  obtain ⟨F, ds, fps, r, g, h⟩ := h
  have hds : ds.length = ps.length := by rw [← r.len]; exact hl
  obtain ⟨gone, rest, h1, h2⟩ := mask_ok (us := us) 0 r
  have g0 := g.perm h2
  have g1 : Gd (F.add gone) H rest := g0.add
  have c1 : Rch F H fps (F.add gone) H rest := Rch.add fun a m => h2.mem_iff.mpr (List.mem_append.mpr m)
  have hsl : (L2.start N vs).length = N.length := by
    rw [start_eq, List.length_append, List.length_map, List.length_replicate]
    have := congrArg List.length Sc.pre
    rw [List.length_take] at this
    omega
  have e1 : runDef ps.length N.length us body ds = (match body ((maskA us 0 ds).map some ++ List.replicate (N.length - ps.length) none) with
    | .nx ρ => (match finA us 0 (maskA us 0 ds) ρ with | some as => .ret .non as | none => .bad)
    | .rt d ρ => (match finA us 0 (maskA us 0 ds) ρ with | some as => .ret d as | none => .bad)
    | .exc e ρ => (match finA us 0 (maskA us 0 ds) ρ with | some as => .exc e as | none => .bad)
    | _ => .bad) := if_pos hds
  rw [e1] at h
  have hml : vs.length = (maskA us 0 ds).length := by rw [mask_len, r.len]
  have pn0 : Pn us vs (L2.start N vs) := fun i _ v e => by
    rw [start_eq, List.getElem?_append_left (by rw [List.length_map]; exact (List.getElem?_eq_some_iff.mp e).1), List.getElem?_map, e]
    rfl
  have hE0 := RE.start (N.length - ps.length) h1
  rw [show vs.map some ++ List.replicate (N.length - ps.length) none = L2.start N vs by rw [start_eq, hl]] at hE0
  refine ⟨F.add gone, _, rest, hE0, g1, pn0, ?_⟩
  -- the end, whatever it is
  have fin : ∀ {σ' : L2.St} {F' : FS} {H' : Hp} {ρ' : Env} {as : List D} {fps' : List Addr}, finA us 0 (maskA us 0 ds) ρ' = some as → RE ⟨mg, K⟩ F' H' ρ' σ' fps' → Pn us vs σ' → Rch (F.add gone) H rest F' H' fps' → ∃ fa, Rs ⟨mg, K⟩ F' H' vs as fa ∧ fa.Sublist fps' := by
    intro σ' F' H' ρ' as fps' e hE hp c
    refine fin_ok 0 e hE hml (fun j v m e => hp j (by simpa using m) v e) fun j v d m e1 e2 => ?_
    obtain ⟨v', fq, e3, rv, _⟩ := h1.get e2
    rw [e1] at e3; cases e3
    have rv' := rv.nilfp (mask_fzd 0 j d e2 m)
    exact rv'.move (c.keeps (fp := []) (by simpa using g1))
  cases eb : body ((maskA us 0 ds).map some ++ List.replicate (N.length - ps.length) none) with
  | bad => rw [eb] at h; exact h
  | bk ρ => rw [eb] at h; exact h.elim
  | ct ρ => rw [eb] at h; exact h.elim
  | nx ρ =>
    simp only [eb] at h
    cases ef : finA us 0 (maskA us 0 ds) ρ with
    | none => simp only [ef] at h
    | some as =>
      simp only [ef] at h
      intro σ' F' H' fps' a1 a2 a3 a4
      obtain ⟨fa, q1, q2⟩ := fin ef a1 a3 a4
      exact h .non F' H' [] fa .non q1 (by simpa using a2.sub q2) (by simpa using (c1.trans a4).sub fun a m => q2.subset m)
  | rt d ρ =>
    simp only [eb] at h
    cases ef : finA us 0 (maskA us 0 ds) ρ with
    | none => simp only [ef] at h
    | some as =>
      simp only [ef] at h
      intro v σ' F' H' fp fps' a0 a1 a2 a3 a4
      obtain ⟨fa, q1, q2⟩ := fin ef a1 a3 (a4.sub fun a m => List.mem_append_right _ m)
      exact h v F' H' fp fa a0 q1 (a2.sub (List.Sublist.append (List.Sublist.refl _) q2)) ((c1.trans a4).sub fun a m => (List.Sublist.append (List.Sublist.refl fp) q2).subset m)
  | exc x ρ =>
    simp only [eb] at h
    cases ef : finA us 0 (maskA us 0 ds) ρ with
    | none => simp only [ef] at h
    | some as =>
      simp only [ef] at h
      intro cls dd σ' F' H' fps' a0 a1 a2 a3 a4
      obtain ⟨fa, q1, q2⟩ := fin ef a1 a3 a4
      exact h cls dd F' H' fa a0 q1 (a2.sub q2) ((c1.trans a4).sub fun a m => q2.subset m)
theorem def_ok {P : Program} {w : World} {K : PySem.W.Frag} {mg : Str → Option Value} {base : Heap} {x qual : Str} {st : Stmt} {f : Addr} {fd : FuncData} {N ps : List Str} {k : Nat} (Fn : Fun K x qual st f fd) (Sc : FnScope N ps (defScope st)) (us : List Nat) (body : S)
    (hb : ∀ (cdv : Value) (A : Around) (outer : List PySem.Env) (s : Shared) (H : Hp) (E : XK) (vs : List V), Room k (cxOf (L2.CX P w) P w K mg base N qual (defScope st) f cdv A outer s H E).A →
      PSs (cxOf (L2.CX P w) P w K mg base N qual (defScope st) f cdv A outer s H E) (defBody st) (vS ⟨mg, K⟩ (fun cls d _ H => E cls d H) us vs body)) :
    FnOk P w K mg base (L2.CX P w) (k + 1) f fd ps (spV ⟨mg, K⟩ (runDef ps.length N.length us body)) := by
  refine Fn.okX Sc (fun vs H Q E h => run_len h) fun cdv A outer s H vs Q E hr h => ⟨_, hb cdv A outer s H E vs hr, def_core Sc h⟩
end
end VL

set_option Elab.async false
set_option linter.all false
set_option maxRecDepth 100000
set_option maxHeartbeats 2000000
namespace VL
open PySem PySem.Spec PyProof.Rows L2 RZ

/-! ### what is walked -/
/-- a heap in which what was frozen stands as it stood -/
structure Later (F : FS) (H H2 : Hp) : Prop where
  fz : ∀ a, F a → H2 a = H a
  tp : ∀ a xs, H a = some (.tup xs) → H2 a = some (.tup xs)
/-- J walks ds, in every later heap -/
structure Yields (mg : MG) (F : FS) (H : Hp) (J : It) (ds : List D) : Prop where
  go : ∀ H2 i, Later F H H2 → i < ds.length → J.go i H2
  yld : ∀ H2 i x H3, Later F H H2 → i < ds.length → J.yld i H2 x H3 → ∃ d, ds[i]? = some d ∧ R mg F H3 x d [] ∧ (∀ b o, H2 b = some o → H3 b = some o)
  stop : ∀ H2, Later F H H2 → J.stop ds.length H2
def IPst (mg : MG) (W : WX) (σ : L2.St) (F : FS) (H : Hp) (fps : List Addr) (r : Ev (List D)) (Rw : It → Hp → Prop) : Prop :=
  match r with
  | .ok ds ρ' => ∀ J F' H' fps', Yields mg F' H' J ds → RE mg F' H' ρ' σ fps' → Gd F' H' fps' → Rch F H fps F' H' fps' → Rw J H'
  | .exc e ρ' => ∀ cls d F' H' fps', ExR mg F' H' e cls d → RE mg F' H' ρ' σ fps' → Gd F' H' fps' → Rch F H fps F' H' fps' → W cls d σ H'
  | .bad => False
def vI (mg : MG) (W : WX) (g : M (List D)) : TI := fun σ H Rw => ∃ F ρ fps, RE mg F H ρ σ fps ∧ Gd F H fps ∧ IPst mg W σ F H fps (g ρ) Rw
theorem pi_imp {X : Cx} {tg iter : Expr} {t t' : TI} (h : PI X tg iter t) (i : ∀ σ H Rw, t' σ H Rw → t σ H Rw) : PI X tg iter t' := ⟨fun pins s σ H Rw I q => h.run pins s σ H Rw I (i σ H Rw q)⟩
section
variable {mg : MG} {W : WX} {σ : L2.St} {F F' F1 : FS} {H H' H1 H2 : Hp} {fp fps fq : List Addr} {X : Cx} {us : List Nat} {vs : List V} {P : L2.St → Prop}
theorem Later.refl : Later F H H := ⟨fun _ _ => rfl, fun _ _ e => e⟩
theorem Later.keeps (l : Later F H H2) (m : ∀ a, F a → F' a) : Keeps F F' H H2 [] := ⟨fun a f _ => ⟨m a f, l.fz a f⟩, fun a q => (nomatch q), l.tp⟩
theorem Later.step {F2 : FS} {W' : List Addr} (l : Later F H H1) (m : ∀ a, F a → F1 a) (g : Gd F1 H1 fps) (c : Rch F1 H1 fps F2 H2 W') : Later F H H2 := ⟨fun a f => by
    cases e : H1 a with
    | none => exact absurd e (g.trk a (m a f))
    | some o => rw [← l.fz a f, e]; exact c.keep a o e fun q => g.dis a q (m a f), fun a xs e => by
    have e1 := l.tp a xs e
    exact c.keep a _ e1 fun q => (g.own a q).ne e1⟩
/-- a step that begins the walk -/
theorem vI.then {β α : Type} {L : Rl β α} {g : M α} {k : α → M (List VL.D)} {T : β → Hp → Prop} {Rw : It → Hp → Prop} (h : vI mg W (g >>= k) σ H Rw)
    (st : ∀ (a : α) (ρ : Env) (x : β) (F : FS) (H' : Hp) (fp fps : List Addr), L.rel F H' x a fp → RE mg F H' ρ σ fps → Gd F H' (fp ++ fps) → IPst mg W σ F H' (fp ++ fps) (k a ρ) Rw → T x H') : vX mg W L g σ H T := by
  obtain ⟨F, ρ, fps, hE, hG, hP⟩ := h
  refine ⟨F, ρ, fps, hE, hG, ?_⟩
  cases e : g ρ with
  | bad => rw [M.bind_bad e] at hP; exact hP
  | exc x ρ1 => rw [M.bind_exc e] at hP; exact hP
  | ok a ρ1 =>
    rw [M.bind_ok e] at hP
    intro x F1 H1 fp1 fps1 r1 e1 g1 c1
    refine st a ρ1 x F1 H1 fp1 fps1 r1 e1 g1 ?_
    cases e2 : k a ρ1 with
    | bad => rw [e2] at hP; exact hP
    | exc x ρ2 =>
      rw [e2] at hP
      exact fun cls d F2 H2 fps2 x2 r2 g2 c2 => hP cls d F2 H2 fps2 x2 r2 g2 (c1.trans c2)
    | ok b ρ2 =>
      rw [e2] at hP
      exact fun J F2 H2 fps2 y r2 g2 c2 => hP J F2 H2 fps2 y r2 g2 (c1.trans c2)
def seqOf : VL.D → Option (List VL.D)
  | .lst _ xs => some (fzL xs)
  | .tup xs => some (fzL xs)
  | .ptp xs => some (fzL xs)
  | _ => none
def iSeq (g : M VL.D) : M (List VL.D) := g >>= fun d => lift (seqOf d)
theorem get_len {vs : List V} {ds : List VL.D} (r : Rs mg F H vs ds fp) (i : Nat) (h : i < ds.length) : ∃ v d, vs[i]? = some v ∧ ds[i]? = some d ∧ ∃ fq, R mg F H v d fq := by
  have hd : ds[i]? = some ds[i] := List.getElem?_eq_getElem h
  obtain ⟨v, fq, h1, h2, _⟩ := r.get hd
  exact ⟨v, _, h1, hd, fq, h2⟩
theorem fresh_nil {v : V} {d : VL.D} {vs : List V} {ds : List VL.D} {i : Nat} (r : Rs mg F H vs ds []) (h1 : vs[i]? = some v) (h2 : ds[i]? = some d) : R mg F H v d [] := by
  obtain ⟨v', fq, e, r', m⟩ := r.get h2
  rw [h1] at e; cases e
  cases fq with
  | nil => exact r'
  | cons a l => exact absurd (m a List.mem_cons_self) (by simp)
theorem yields_lst {K : PySem.W.Frag} {a : Addr} {xs : List V} {ds : List VL.D} (fa : F a) (e : Rd H a (.lst xs)) (r : Rs mg F H xs ds []) : Yields mg F H (Itl K a) ds where
  go := fun H2 i l hi => by
    obtain ⟨v, d, h1, h2, _⟩ := get_len r i hi
    exact ⟨xs, v, .inl (Rd.eq e (l.fz a fa)), h1⟩
  yld := fun H2 i x H3 l hi y => by
    obtain ⟨rfl, y⟩ := y
    obtain ⟨v, d, h1, h2, _⟩ := get_len r i hi
    have := y xs (.inl (Rd.eq e (l.fz a fa)))
    rw [h1] at this; cases this
    exact ⟨d, h2, (fresh_nil r h1 h2).move (l.keeps fun _ f => f), fun _ _ q => q⟩
  stop := fun H2 l => ⟨xs, .inl (Rd.eq e (l.fz a fa)), by rw [r.len]; exact Nat.le_refl _⟩
theorem yields_tup {K : PySem.W.Frag} {a : Addr} {xs : List V} {ds : List VL.D} (e : H a = some (.tup xs)) (r : Rs mg F H xs ds []) : Yields mg F H (Itt K a) ds where
  go := fun H2 i l hi => by
    obtain ⟨v, d, h1, h2, _⟩ := get_len r i hi
    exact ⟨xs, v, .inl (.inl (l.tp a xs e)), h1⟩
  yld := fun H2 i x H3 l hi y => by
    obtain ⟨rfl, y⟩ := y
    obtain ⟨v, d, h1, h2, _⟩ := get_len r i hi
    have := y xs (.inl (.inl (l.tp a xs e)))
    rw [h1] at this; cases this
    exact ⟨d, h2, (fresh_nil r h1 h2).move (l.keeps fun _ f => f), fun _ _ q => q⟩
  stop := fun H2 l => ⟨xs, .inl (.inl (l.tp a xs e)), by rw [r.len]; exact Nat.le_refl _⟩
theorem yields_ptp {K : PySem.W.Frag} {a : Addr} {o : Obj} {xs : List V} {ds : List VL.D} (f : F a) (e : H a = some (.frz o (.tup xs))) (r : Rs mg F H xs ds []) : Yields mg F H (Itt K a) ds where
  go := fun H2 i l hi => by
    obtain ⟨v, d, h1, h2, _⟩ := get_len r i hi
    exact ⟨xs, v, .inl (.inr ⟨o, (l.fz a f).trans e⟩), h1⟩
  yld := fun H2 i x H3 l hi y => by
    obtain ⟨rfl, y⟩ := y
    obtain ⟨v, d, h1, h2, _⟩ := get_len r i hi
    have := y xs (.inl (.inr ⟨o, (l.fz a f).trans e⟩))
    rw [h1] at this; cases this
    exact ⟨d, h2, (fresh_nil r h1 h2).move (l.keeps fun _ f => f), fun _ _ q => q⟩
  stop := fun H2 l => ⟨xs, .inl (.inr ⟨o, (l.fz a f).trans e⟩), by rw [r.len]; exact Nat.le_refl _⟩
/-- freezing a held value -/
theorem froze {v : V} {d : VL.D} {ρ : Env} (r : R mg F H v d fp) (hE : RE mg F H ρ σ fps) (hG : Gd F H (fp ++ fps)) : R mg (F.add fp) H v d.fz [] ∧ RE mg (F.add fp) H ρ σ fps ∧ Gd (F.add fp) H fps ∧ Rch F H (fp ++ fps) (F.add fp) H fps :=
  ⟨r.freeze (fun _ f => .inl f) fun _ m => .inr m, hE.move (keeps_add fp), hG.add, Rch.add fun a m => m.elim (List.mem_append_left _) (List.mem_append_right _)⟩
/-- a walk over either of two kinds -/
theorem pi_or {tg iter : Expr} {t t' : TI} (h : PI X tg iter t) (h' : PI X tg iter t') : PI X tg iter (fun σ H Rw => t σ H Rw ∨ t' σ H Rw) := ⟨fun pins s σ H Rw I q => q.elim (h.run pins s σ H Rw I) (h'.run pins s σ H Rw I)⟩
theorem vX.det {β α : Type} {L : Rl β α} {g : M α} {Q Q' : β → Hp → Prop} (h : vX mg W L g σ H fun x H' => Q x H' ∨ Q' x H') (dec : ∀ (a : α) (x : β) (F : FS) (H' : Hp) (fp : List Addr), L.rel F H' x a fp → True) : True := trivial
theorem vi_seq {tg e : Expr} {g : M VL.D} (he : PE X e (vE mg W g)) : PI X tg e (vI mg W (iSeq g)) := by
  -- lists and tuples: which one is known where the value is
  refine ⟨fun pins s σ H Rw I h => ?_⟩
  obtain ⟨F, ρ, fps, hE, hG, hP⟩ := h
  cases eg : g ρ with
  | bad =>
    have : iSeq g ρ = .bad := M.bind_bad eg
    rw [this] at hP; exact hP.elim
  | exc x ρ1 =>
    have : iSeq g ρ = .exc x ρ1 := M.bind_exc eg
    rw [this] at hP
    refine (pi_list (tg := tg) he).run pins s σ H Rw I ⟨F, ρ, fps, hE, hG, ?_⟩
    rw [eg]
    exact hP
  | ok d ρ1 =>
    have e0 : iSeq g ρ = lift (seqOf d) ρ1 := M.bind_ok eg
    rw [e0] at hP
    cases d with
    | lst o xs =>
      refine (pi_list (tg := tg) he).run pins s σ H Rw I ⟨F, ρ, fps, hE, hG, ?_⟩
      rw [eg]
      intro v F1 H1 fp1 fps1 r1 e1 g1 c1
      obtain ⟨r2, e2, g2, c2⟩ := froze r1 e1 g1
      cases r2 with
      | lstF f e r => exact ⟨_, rfl, ⟨_, .inl e⟩, hP _ _ _ fps1 (yields_lst f e r) e2 g2 (c1.trans c2)⟩
    | tup xs =>
      refine (pi_tup (tg := tg) he).run pins s σ H Rw I ⟨F, ρ, fps, hE, hG, ?_⟩
      rw [eg]
      intro v F1 H1 fp1 fps1 r1 e1 g1 c1
      obtain ⟨r2, e2, g2, c2⟩ := froze r1 e1 g1
      cases r2 with
      | tup e r => exact ⟨_, rfl, ⟨_, .inl (.inl e)⟩, hP _ _ _ fps1 (yields_tup e r) e2 g2 (c1.trans c2)⟩
    | ptp xs =>
      refine (pi_tup (tg := tg) he).run pins s σ H Rw I ⟨F, ρ, fps, hE, hG, ?_⟩
      rw [eg]
      intro v F1 H1 fp1 fps1 r1 e1 g1 c1
      obtain ⟨r2, e2, g2, c2⟩ := froze r1 e1 g1
      cases r2 with
      | ptp f e o r => exact ⟨_, rfl, ⟨_, .inl (.inr ⟨_, e⟩)⟩, hP _ _ _ fps1 (yields_ptp f e r) e2 g2 (c1.trans c2)⟩
    | _ => exact hP.elim
def upTo (lo : Int) (n : Nat) : List VL.D := (List.range n).map fun (k : Nat) => .int (lo + (k : Int))
def iRange1 (g : M VL.D) : M (List VL.D) := g >>= fun d => match d with
  | .int j => if within 4611686018427387904 j then pure (upTo 0 j.toNat) else fail
  | _ => fail
def iRange2 (g g2 : M VL.D) : M (List VL.D) := (g >>= fun d => g2 >>= fun e => pure (d, e)) >>= fun p => match p.1, p.2 with
  | .int i, .int j => if within 4611686018427387904 i && within 4611686018427387904 j then pure (upTo i (j - i).toNat) else fail
  | _, _ => fail
theorem yields_range {lo : Int} {n : Nat} : Yields mg F H (Itr lo n) (upTo lo n) where
  go := fun H2 i l hi => (show i < n by simpa [upTo] using hi)
  yld := fun H2 i x H3 l hi y => by
    obtain ⟨rfl, rfl⟩ := y
    refine ⟨.int (lo + (i : Int)), ?_, .int _, fun _ _ q => q⟩
    simp only [upTo, List.length_map, List.length_range] at hi
    simp [upTo, hi]
  stop := fun H2 l => by
    show n ≤ (upTo lo n).length
    simp [upTo]
theorem vi_range1 {tg a : Expr} {g : M VL.D} {p pos : Pos} (hg : Gl X "range") (hm : X.mg "range" = none) (ha : PE X a (vE mg W g)) (hs : starEach [a] X.env = [(false, eval a X.env)] := by rfl) (hs1 : starEach (a :: []) X.env = (false, eval a X.env) :: starEach [] X.env := by rfl) :
    PI X tg (.Call (.Name "range" p) [a] [] pos) (vI mg W (iRange1 g)) := by
  refine pi_imp (pi_range1 hg hm (pa_cons ha pa_nil hs1) hs) fun σ H Rw h => ?_
  show vX mg W (rD mg) g σ H fun x H1 => _
  refine vI.then h fun d ρ x F H' fp fps r hE hG hP => ?_
  cases d with
  | int j =>
    simp only at hP
    split at hP
    · rename_i c
      rw [within_iff] at c
      cases r
      exact ⟨j, rfl, by omega, by omega, hP _ F H' fps yields_range hE hG Rch.refl⟩
    · exact hP.elim
  | _ => exact hP.elim
theorem vi_range2 {tg a b : Expr} {g g2 : M VL.D} {p pos : Pos} (hg : Gl X "range") (hm : X.mg "range" = none) (ha : PE X a (vE mg W g)) (hb : PE X b (vE mg W g2)) (hs : starEach [a, b] X.env = [(false, eval a X.env), (false, eval b X.env)] := by rfl) (hs2 : starEach [b] X.env = [(false, eval b X.env)] := by rfl)
    (hs1 : starEach (a :: [b]) X.env = (false, eval a X.env) :: starEach [b] X.env := by rfl) (hs3 : starEach (b :: []) X.env = (false, eval b X.env) :: starEach [] X.env := by rfl) : PI X tg (.Call (.Name "range" p) [a, b] [] pos) (vI mg W (iRange2 g g2)) := by
  refine pi_imp (pi_range2 hg hm (pa_cons ha (pa_cons hb pa_nil hs3) hs1) hs hs2) fun σ H Rw h => ?_
  show vX mg W (rD mg) g σ H fun x H1 => vX mg W (rD mg) g2 σ H1 fun y H2 => ∃ i j : Int, [x, y] = [V.int i, V.int j] ∧ (-(2 ^ 62) ≤ i ∧ i < 2 ^ 62 ∧ -(2 ^ 62) ≤ j ∧ j < 2 ^ 62) ∧ Rw (Itr i (j - i).toNat) H2
  refine vX.seq (L := rD mg) (L' := rD mg) (Q := fun x y H2 => ∃ i j : Int, [x, y] = [V.int i, V.int j] ∧ (-(2 ^ 62) ≤ i ∧ i < 2 ^ 62 ∧ -(2 ^ 62) ≤ j ∧ j < 2 ^ 62) ∧ Rw (Itr i (j - i).toNat) H2) ?_
  refine vI.then h fun q ρ x F H' fp fps r hE hG hP => ?_
  obtain ⟨d, e⟩ := q
  obtain ⟨f1, f2, rfl, r1, r2⟩ := r
  cases d with
  | int i =>
    cases e with
    | int j =>
      simp only at hP
      split at hP
      · rename_i c
        simp only [Bool.and_eq_true, within_iff] at c
        obtain ⟨x1, x2⟩ := x
        cases r1
        cases r2
        exact ⟨i, j, rfl, ⟨by omega, by omega, by omega, by omega⟩, hP _ F H' fps yields_range hE hG Rch.refl⟩
      · exact hP.elim
    | _ => exact hP.elim
  | _ => exact hP.elim
/-! ### zip of two lists, of two tuples -/
def zipD : List VL.D → List VL.D → List VL.D
  | x :: xs, y :: ys => .tup [x, y] :: zipD xs ys
  | _, _ => []
def iZip (g g2 : M VL.D) : M (List VL.D) := (g >>= fun d => g2 >>= fun e => pure (d, e)) >>= fun p => match p.1, p.2 with
  | .lst _ xs, .lst _ ys => pure (zipD (fzL xs) (fzL ys))
  | .tup xs, .tup ys => pure (zipD (fzL xs) (fzL ys))
  | _, _ => fail
theorem zipD_get : ∀ (xs ys : List VL.D) (i : Nat), (zipD xs ys)[i]? = match xs[i]?, ys[i]? with
    | some x, some y => some (.tup [x, y])
    | _, _ => none
  | [], ys, i => by simp [zipD]
  | x :: xs, [], i => by
    simp only [zipD, List.getElem?_nil]
    split <;> simp_all
  | x :: xs, y :: ys, 0 => rfl
  | x :: xs, y :: ys, i + 1 => by simpa [zipD] using zipD_get xs ys i
theorem zipD_len : ∀ (xs ys : List VL.D), (zipD xs ys).length = min xs.length ys.length
  | [], ys => by simp [zipD]
  | x :: xs, [] => by simp [zipD]
  | x :: xs, y :: ys => by simp [zipD, zipD_len xs ys]
theorem zip_yld {T : Addr} {x y : V} {d e : VL.D} (l : Later F H H2) (nT : H2 T = none) (rx : R mg F H x d []) (ry : R mg F H y e []) : R mg F (upd H2 T (.tup [x, y])) (.ref T) (.tup [d, e]) [] := by
  have k := l.keeps fun a (f : F a) => f
  have k2 : Keeps F F H2 (upd H2 T (.tup [x, y])) [] → Keeps F F H (upd H2 T (.tup [x, y])) [] := fun q => ⟨fun a f n => ⟨f, by
    have h2 := l.fz a f
    have : H2 a ≠ none := by rw [h2]; exact n
    exact (q.fz a f this).2.trans h2⟩, fun a m => (nomatch m), fun a xs z => q.tp a xs (l.tp a xs z)⟩
  have k3 : Keeps F F H (upd H2 T (.tup [x, y])) [] := k2 (keeps_alloc nT F (fun _ f => f) fun a m => nomatch m)
  exact .tup upd_same (.cons (fp := []) (fps := []) (rx.move k3) (.cons (fp := []) (fps := []) (ry.move k3) .nil))
theorem upd_ext {T : Addr} {o : HO} (nT : H2 T = none) : ∀ b u, H2 b = some u → (upd H2 T o) b = some u := fun b u e => by rw [upd_ne (ne_of_none e nT)]; exact e
theorem yields_zip {K : PySem.W.Frag} {a b : Addr} {xs ys : List V} {ds es : List VL.D} (fa : F a) (e : Rd H a (.lst xs)) (r : Rs mg F H xs ds []) (fb : F b) (e2 : Rd H b (.lst ys)) (r2 : Rs mg F H ys es []) : Yields mg F H (Itz K a b) (zipD ds es) where
  go := fun H2 i l hi => by
    rw [zipD_len] at hi
    obtain ⟨v, d, h1, h2, _⟩ := get_len r i (by omega)
    obtain ⟨v', d', h1', h2', _⟩ := get_len r2 i (by omega)
    exact ⟨xs, ys, v, v', .inl (Rd.eq e (l.fz a fa)), .inl (Rd.eq e2 (l.fz b fb)), h1, h1'⟩
  yld := fun H2 i x H3 l hi y => by
    rw [zipD_len] at hi
    obtain ⟨T, x1, y1, rfl, nT, rfl, q1, q2⟩ := y
    obtain ⟨v, d, h1, h2, _⟩ := get_len r i (by omega)
    obtain ⟨v', d', h1', h2', _⟩ := get_len r2 i (by omega)
    have z1 := q1 xs (.inl (Rd.eq e (l.fz a fa)))
    have z2 := q2 ys (.inl (Rd.eq e2 (l.fz b fb)))
    rw [h1] at z1; cases z1
    rw [h1'] at z2; cases z2
    exact ⟨.tup [d, d'], by rw [zipD_get, h2, h2'], zip_yld l nT (fresh_nil r h1 h2) (fresh_nil r2 h1' h2'), upd_ext nT⟩
  stop := fun H2 l => ⟨xs, ys, .inl (Rd.eq e (l.fz a fa)), .inl (Rd.eq e2 (l.fz b fb)), by
    have l1 := r.len
    have l2 := r2.len
    rw [zipD_len]
    omega⟩
theorem yields_zipT {K : PySem.W.Frag} {a b : Addr} {xs ys : List V} {ds es : List VL.D} (e : H a = some (.tup xs)) (r : Rs mg F H xs ds []) (e2 : H b = some (.tup ys)) (r2 : Rs mg F H ys es []) : Yields mg F H (ItzT K a b) (zipD ds es) where
  go := fun H2 i l hi => by
    rw [zipD_len] at hi
    obtain ⟨v, d, h1, h2, _⟩ := get_len r i (by omega)
    obtain ⟨v', d', h1', h2', _⟩ := get_len r2 i (by omega)
    exact ⟨xs, ys, v, v', .inl (.inl (l.tp a xs e)), .inl (.inl (l.tp b ys e2)), h1, h1'⟩
  yld := fun H2 i x H3 l hi y => by
    rw [zipD_len] at hi
    obtain ⟨T, x1, y1, rfl, nT, rfl, q1, q2⟩ := y
    obtain ⟨v, d, h1, h2, _⟩ := get_len r i (by omega)
    obtain ⟨v', d', h1', h2', _⟩ := get_len r2 i (by omega)
    have z1 := q1 xs (.inl (.inl (l.tp a xs e)))
    have z2 := q2 ys (.inl (.inl (l.tp b ys e2)))
    rw [h1] at z1; cases z1
    rw [h1'] at z2; cases z2
    exact ⟨.tup [d, d'], by rw [zipD_get, h2, h2'], zip_yld l nT (fresh_nil r h1 h2) (fresh_nil r2 h1' h2'), upd_ext nT⟩
  stop := fun H2 l => ⟨xs, ys, .inl (.inl (l.tp a xs e)), .inl (.inl (l.tp b ys e2)), by
    have l1 := r.len
    have l2 := r2.len
    rw [zipD_len]
    omega⟩
theorem vi_zip {e1 e2 : Expr} {elts : List Expr} {kk : Nat} {tpos : Pos} {g g2 : M VL.D} {p pos : Pos} (hg : Gl X "zip") (hm : X.mg "zip" = none) (ha : PE X e1 (vE mg W g)) (hb : PE X e2 (vE mg W g2))
    (hs : starEach (e1 :: [e2]) X.env = (false, eval e1 X.env) :: starEach [e2] X.env := by rfl) (hs2 : starEach (e2 :: []) X.env = (false, eval e2 X.env) :: starEach [] X.env := by rfl) (hpl : (backTo pos (starEach [e2] X.env)).any (·.1) = false := by rfl) :
    PI X (.Tuple elts kk tpos) (.Call (.Name "zip" p) [e1, e2] [] pos) (vI mg W (iZip g g2)) := by
  refine pi_imp (pi_zipA hg hm (pa_cons ha (pa_cons hb pa_nil hs2) hs) hs hpl) fun σ H Rw h => ?_
  show vX mg W (rD mg) g σ H fun x H1 => vX mg W (rD mg) g2 σ H1 fun y H2 => ∃ a b xs ys, [x, y] = [V.ref a, V.ref b] ∧ ((SqL X.K H2 a xs ∧ SqL X.K H2 b ys ∧ Rw (Itz X.K a b) H2) ∨ (SqT X.K H2 a xs ∧ SqT X.K H2 b ys ∧ Rw (ItzT X.K a b) H2))
  refine vX.seq (L := rD mg) (L' := rD mg) (Q := fun x y H2 => ∃ a b xs ys, [x, y] = [V.ref a, V.ref b] ∧ ((SqL X.K H2 a xs ∧ SqL X.K H2 b ys ∧ Rw (Itz X.K a b) H2) ∨ (SqT X.K H2 a xs ∧ SqT X.K H2 b ys ∧ Rw (ItzT X.K a b) H2))) ?_
  refine vI.then h fun q ρ x F H' fp fps r hE hG hP => ?_
  obtain ⟨d, e⟩ := q
  obtain ⟨x1, x2⟩ := x
  obtain ⟨f1, f2, rfl, r1, r2⟩ := r
  have r1' : R mg (F.add (f1 ++ f2)) H' x1 d.fz [] := R.freeze (fun _ f => .inl f) r1 fun _ m => .inr (List.mem_append_left _ m)
  have r2' : R mg (F.add (f1 ++ f2)) H' x2 e.fz [] := R.freeze (fun _ f => .inl f) r2 fun _ m => .inr (List.mem_append_right _ m)
  have hE' := hE.move (keeps_add (fp := fps) (f1 ++ f2))
  have c' : Rch F H' (f1 ++ f2 ++ fps) (F.add (f1 ++ f2)) H' fps := Rch.add fun a m => m.elim (List.mem_append_left _) (List.mem_append_right _)
  cases d with
  | lst o xs =>
    cases e with
    | lst o2 ys =>
      cases r1' with
      | lstF fa ea ra =>
        cases r2' with
        | lstF fb eb rb => exact ⟨_, _, _, _, rfl, .inl ⟨.inl ea, .inl eb, hP _ _ _ fps (yields_zip fa ea ra fb eb rb) hE' hG.add c'⟩⟩
    | _ => exact hP.elim
  | tup xs =>
    cases e with
    | tup ys =>
      cases r1' with
      | tup ea ra =>
        cases r2' with
        | tup eb rb => exact ⟨_, _, _, _, rfl, .inr ⟨.inl (.inl ea), .inl (.inl eb), hP _ _ _ fps (yields_zipT ea ra eb rb) hE' hG.add c'⟩⟩
    | _ => exact hP.elim
  | _ => exact hP.elim
/-! ### targets -/
def vGp (mg : MG) (P : L2.St → Prop) (t : VL.D → S) : TG := fun v σ H Q => ∃ F ρ fps d fp, R mg F H v d fp ∧ RE mg F H ρ σ fps ∧ Gd F H (fp ++ fps) ∧ P σ ∧
  match t d ρ with
  | .nx ρ' => ∀ σ' F' H' fps', RE mg F' H' ρ' σ' fps' → Gd F' H' fps' → P σ' → Rch F H (fp ++ fps) F' H' fps' → Q σ' H'
  | _ => False
def vGsp (mg : MG) (P : L2.St → Prop) (t : List VL.D → S) : TGs := fun ws σ H Q => ∃ F ρ fps ds fp, Rs mg F H ws ds fp ∧ RE mg F H ρ σ fps ∧ Gd F H (fp ++ fps) ∧ P σ ∧
  match t ds ρ with
  | .nx ρ' => ∀ σ' F' H' fps', RE mg F' H' ρ' σ' fps' → Gd F' H' fps' → P σ' → Rch F H (fp ++ fps) F' H' fps' → Q σ' H'
  | _ => False
abbrev vG (mg : MG) (us : List Nat) (vs : List V) (t : VL.D → S) : TG := vGp mg (Pn us vs) t
/-- slot i may be stored -/
def May (P : L2.St → Prop) (i : Nat) : Prop := ∀ v σ, P σ → P (σ.set i (some v))
theorem may_pn {us : List Nat} {vs : List V} {i : Nat} (hu : i ∉ us) : May (Pn us vs) i := fun v σ h => h.set hu
theorem pg_imp {X : Cx} {tg : Expr} {t t' : TG} (h : PG X tg t) (i : ∀ v σ H Q, t' v σ H Q → t v σ H Q) : PG X tg t' := ⟨fun pins s σ H v u Q I r q => h.run pins s σ H v u Q I r (i v σ H Q q)⟩
theorem pgs_imp {X : Cx} {tg : List Expr} {t t' : TGs} (h : PGs X tg t) (i : ∀ v σ H Q, t' v σ H Q → t v σ H Q) : PGs X tg t' := ⟨fun pins s σ H v u Q I r q => h.run pins s σ H v u Q I r (i v σ H Q q)⟩
theorem vg_name {i : Nat} {x : Str} {pos : Pos} (hN : X.N.Nodup) (hi : X.N[i]? = some x) (hx : Loc X.env.scope x) (hu : May P i) (hf : X.fn x = true ∨ X.env.scope.names.lookup x = some .local := by first | exact .inl rfl | exact .inr rfl) : PG X (.Name x pos) (vGp mg P (setSlot i)) :=
  pg_imp (pg_name hN hi hx hf) fun v σ H Q ⟨F, ρ, fps, d, fp, r, hE, hG, hp, hP⟩ => by
    unfold setSlot at hP
    split at hP
    · rename_i ρ' e
      split at e
      · rename_i hl
        cases e
        obtain ⟨gone, fps', h1, h2⟩ := hE.put hl r
        exact hP (σ.set i (some v)) F H fps' h1 (hG.perm h2).right (hu v σ hp) (Rch.refl.sub fun a m => h2.mem_iff.mpr (List.mem_append_right _ m))
      · cases e
    · exact hP.elim
def tNil0 : List VL.D → S := fun ds => match ds with
  | [] => sPass
  | _ => sNever
def tCons0 (t : VL.D → S) (ts : List VL.D → S) : List VL.D → S := fun ds => match ds with
  | d :: r => sSeq (t d) (ts r)
  | [] => sNever
theorem vgs_nil : PGs X [] (vGsp mg P tNil0) := pgs_imp pgs_nil fun ws σ H Q ⟨F, ρ, fps, ds, fp, r, hE, hG, hp, hP⟩ => by
  cases r with
  | nil => exact ⟨rfl, hP σ F H fps hE (by simpa using hG) hp (by simpa using Rch.refl)⟩
  | cons _ _ => exact hP.elim
theorem vgs_cons {e : Expr} {es : List Expr} {t : VL.D → S} {ts : List VL.D → S} (h1 : PG X e (vGp mg P t)) (h2 : PGs X es (vGsp mg P ts)) (hs : (assignEach (e :: es) X.env).map (·.2) = assign e X.env :: (assignEach es X.env).map (·.2) := by rfl) : PGs X (e :: es) (vGsp mg P (tCons0 t ts)) :=
  pgs_imp (pgs_cons h1 h2 hs) fun ws σ H Q ⟨F, ρ, fps, ds, fp, r, hE, hG, hp, hP⟩ => by
    cases r with
    | nil => exact hP.elim
    | @cons v ws' d ds' f1 f2 rv rvs =>
      refine ⟨v, ws', rfl, F, ρ, fps, d, f1, rv, hE, ?_, hp, ?_⟩
      · exact hG.sub (List.Sublist.append (List.sublist_append_left f1 f2) (List.Sublist.refl _))
      · have hP' : (match sSeq (t d) (ts ds') ρ with
          | .nx ρ' => ∀ σ' F' H' fps', RE mg F' H' ρ' σ' fps' → Gd F' H' fps' → P σ' → Rch F H (f1 ++ f2 ++ fps) F' H' fps' → Q σ' H'
          | _ => False) := hP
        unfold sSeq at hP'
        cases e : t d ρ with
        | nx ρ1 =>
          simp only [e] at hP'
          intro σ1 F1 H1 fps1 a1 a2 a3 a4
          have gp : (f1 ++ f2 ++ fps).Perm (f2 ++ (f1 ++ fps)) := by
            rw [List.append_assoc]
            exact perm_mid
          have g2 := hG.perm gp
          have g3 : Gd F1 H1 (f2 ++ fps1) := g2.carry a4 a2
          refine ⟨F1, ρ1, fps1, ds', f2, rvs.move (a4.keeps g2), a1, g3, a3, ?_⟩
          cases e2 : ts ds' ρ1 with
          | nx ρ2 =>
            simp only [e2] at hP'
            intro σ2 F2 H2 fps2 b1 b2 b3 b4
            refine hP' σ2 F2 H2 fps2 b1 b2 b3 (Rch.trans ?_ b4)
            have : Rch F H (f1 ++ f2 ++ fps) F H (f2 ++ (f1 ++ fps)) := Rch.refl.sub fun a m => gp.mem_iff.mpr m
            exact this.carry a4
          | _ => simp only [e2] at hP'
        | _ => simp only [e] at hP'
/-- (a, b, ..) = a tuple or a list of n items -/
def tTupN (n : Nat) (ts : List VL.D → S) : VL.D → S := fun d => match d with
  | .tup ds => if ds.length = n then ts ds else sNever
  | .lst _ ds => if ds.length = n then ts ds else sNever
  | _ => sNever
theorem vg_tup {es : List Expr} {k : Nat} {n : Nat} {ts : List VL.D → S} {pos : Pos} (hc : X.calm = true) (h : PGs X es (vGsp mg P ts)) (hn : (assignEach es X.env).length = n := by rfl) (hst : (assignEach es X.env).findIdx? (·.1) = none := by rfl) : PG X (.Tuple es k pos) (vGp mg P (tTupN n ts)) := by
  refine ⟨fun pins s σ H v u Q I r hw => ?_⟩
  obtain ⟨F, ρ, fps, d, fp, rd, hE, hG, hp, hP⟩ := hw
  cases rd with
  | tup e rs =>
    rename_i a xs ds
    refine (pg_tup hc h hn hst).run pins s σ H _ u Q I r ?_
    by_cases c : ds.length = n
    · have : tTupN n ts (.tup ds) = ts ds := if_pos c
      rw [this] at hP
      exact ⟨a, xs, rfl, .inl (.inl e), rs.len.trans c, F, ρ, fps, ds, [], rs, hE, hG, hp, hP⟩
    · have : tTupN n ts (.tup ds) = sNever := if_neg c
      rw [this] at hP
      exact hP.elim
  | lstF f e rs =>
    rename_i a xs ds
    refine (pg_lst hc h hn hst).run pins s σ H _ u Q I r ?_
    by_cases c : ds.length = n
    · have : tTupN n ts (.lst false ds) = ts ds := if_pos c
      rw [this] at hP
      exact ⟨a, xs, rfl, .inl e, rs.len.trans c, F, ρ, fps, ds, [], rs, hE, hG, hp, hP⟩
    · have : tTupN n ts (.lst false ds) = sNever := if_neg c
      rw [this] at hP
      exact hP.elim
  | lstO e rs =>
    rename_i a xs ds f1
    refine (pg_lst hc h hn hst).run pins s σ H _ u Q I r ?_
    by_cases c : ds.length = n
    · have : tTupN n ts (.lst true ds) = ts ds := if_pos c
      rw [this] at hP
      refine ⟨a, xs, rfl, .inl (.inl e), rs.len.trans c, F, ρ, fps, ds, f1, rs, hE, hG.sub (List.sublist_cons_self _ _), hp, ?_⟩
      cases e2 : ts ds ρ with
      | nx ρ1 =>
        simp only [e2] at hP ⊢
        exact fun σ' F' H' fps' b1 b2 b3 b4 => hP σ' F' H' fps' b1 b2 b3 ((Rch.refl.sub fun a m => List.mem_cons_of_mem _ m).trans b4)
      | _ => simp only [e2] at hP
    · have : tTupN n ts (.lst true ds) = sNever := if_neg c
      rw [this] at hP
      exact hP.elim
  | _ => exact hP.elim
/-- target = value -/
def sAsg (t : VL.D → S) (g : M VL.D) : S := sBind g t
theorem vs_asg {tg e : Expr} {t : VL.D → S} {g : M VL.D} {pos : Pos} (ht : ∀ d ρ, match t d ρ with | .nx _ => True | .bad => True | _ => False) (he : PE X e (vE mg W g)) (hg : PG X tg (vG mg us vs t)) (hs : swapsWithSole [tg] e pos.line X.env = pure false := by rfl) (hw : swappedStores [tg] e X.env = pure none := by rfl) (h1 : (assignEach [tg] X.env).map (·.2) = [assign tg X.env] := by rfl) : PS X (.Assign [tg] e pos) (vS mg W us vs (sAsg t g)) :=
  ps_imp (ps_asg he hg hs hw (h1 := h1)) fun D σ H h => vS.bind (L := rD mg) h fun d ρ x F H' fp fps r hE hG hp hP => ⟨F, ρ, fps, d, fp, r, hE, hG, hp, by
    have := ht d ρ
    cases e : t d ρ with
    | nx ρ' => rw [e] at hP; exact hP
    | bad => rw [e] at hP; exact hP
    | _ => rw [e] at this; exact this.elim⟩
end
end VL

set_option Elab.async false
set_option linter.all false
set_option maxRecDepth 100000
set_option maxHeartbeats 2000000
namespace VL
open PySem PySem.Spec PyProof.Rows L2

/-! ### loops -/
def loopS (t : VL.D → S) (body : S) (fg : List Nat) : List VL.D → S
  | [] => fun ρ => .nx (forget fg ρ)
  | d :: ds => fun ρ => match t d ρ with
    | .nx ρ1 => (match body ρ1 with
      | .nx ρ2 => loopS t body fg ds (forget fg ρ2)
      | .ct ρ2 => loopS t body fg ds (forget fg ρ2)
      | .bk ρ2 => .nx (forget fg ρ2)
      | .rt d ρ2 => .rt d ρ2
      | .exc e ρ2 => .exc e ρ2
      | .bad => .bad)
    | _ => .bad
def sFor (it : M (List VL.D)) (t : VL.D → S) (body : S) (fg : List Nat) : S := sBind it (loopS t body fg)
section
variable {mg : MG} {W : WX} {σ : L2.St} {F F' F1 : FS} {H H' H1 H2 : Hp} {fp fps fq : List Addr} {X : Cx} {us : List Nat} {vs : List V}
/-- what a loop keeps: (F1, H1) is where the walk began, ds what is still to come -/
def LoopW (mg : MG) (W : WX) (us : List Nat) (vs : List V) (F1 : FS) (H1 : Hp) (D : Ends) (lp : List VL.D → S) (all : List VL.D) : Nat → Nat → L2.St → Hp → Prop := fun i m σ H =>
  m = all.length - i ∧ i ≤ all.length ∧ ∃ F ρ fps, RE mg F H ρ σ fps ∧ Gd F H fps ∧ Pn us vs σ ∧ Later F1 H1 H ∧ (∀ a, F1 a → F a) ∧ SPst mg W us vs F H fps (lp (all.drop i) ρ) D
theorem SPst.forget {fg : List Nat} {ρ : Env} {D : Ends} (h : SPst mg W us vs F H fps (.nx (forget fg ρ)) D) (hE : RE mg F' H' ρ σ fq) (hG : Gd F' H' fq) (hp : Pn us vs σ) (c : Rch F H fps F' H' fq) : D.nx σ H' := by
  obtain ⟨gone, rest, h1, h2⟩ := forget_ok (is := fg) hE
  exact h σ F' H' rest h1 (hG.perm h2).right hp (c.sub fun a m => h2.mem_iff.mpr (List.mem_append_right _ m))
theorem loop_go {J : It} {t : VL.D → S} {body : S} {fg : List Nat} {g : TG} {tb : TS} {D : Ends} {ds : List VL.D} {ρ : Env} (hg : ∀ v σ H Q, vG mg us vs t v σ H Q → g v σ H Q) (hb : ∀ D σ H, vS mg W us vs body D σ H → tb D σ H)
    (y : Yields mg F H J ds) (hE : RE mg F H ρ σ fps) (hG : Gd F H fps) (hp : Pn us vs σ) (hP : SPst mg W us vs F H fps (loopS t body fg ds ρ) D) :
    ∃ Wv : Nat → Nat → L2.St → Hp → Prop, (∃ m, Wv 0 m σ H) ∧ ∀ i m σ H, Wv i m σ H →
      (J.stop i H ∧ D.nx σ H) ∨ (J.go i H ∧ ∃ N : L2.St → Hp → Prop, (∀ σ' H', N σ' H' → ∃ m', m' < m ∧ Wv (i + 1) m' σ' H') ∧ ∀ x H', J.yld i H x H' → g x σ H' fun σ2 H2 => tb { D with nx := N, ct := N, bk := D.nx } σ2 H2) := by
  refine ⟨LoopW mg W us vs F H D (loopS t body fg) ds, ⟨_, rfl, Nat.zero_le _, F, ρ, fps, hE, hG, hp, Later.refl, fun _ f => f, hP⟩, ?_⟩
  rintro i m σ1 H1 ⟨rfl, hi, F1, ρ1, fps1, hE1, hG1, hp1, lt, mo, hP1⟩
  by_cases hlt : i < ds.length
  · refine .inr ⟨y.go H1 i lt hlt, fun σ' H' => LoopW mg W us vs F H D (loopS t body fg) ds (i + 1) (ds.length - (i + 1)) σ' H', fun σ' H' q => ⟨ds.length - (i + 1), by omega, q⟩, fun x H2 hy => ?_⟩
    obtain ⟨d, hd, rd, ext⟩ := y.yld H1 i x H2 lt hlt hy
    have ed : ds.drop i = d :: ds.drop (i + 1) := by
      rw [List.drop_eq_getElem_cons hlt]
      rw [List.getElem?_eq_getElem hlt] at hd
      cases hd
      rfl
    rw [ed] at hP1
    -- the heap may have got the walk's own tuple
    have k12 : Keeps F1 F1 H1 H2 fps1 := ⟨fun a f n => ⟨f, by
      cases e : H1 a with
      | none => exact absurd e n
      | some o => exact ext a o e⟩, fun a q => by
      obtain ⟨o, e, _⟩ := hG1.own a q
      rw [e]; exact ext a o e, fun a xs e => ext a _ e⟩
    have hE2 := hE1.move k12
    have hG2 : Gd F1 H2 fps1 := ⟨hG1.nd, hG1.dis, fun a f => by
      cases e : H1 a with
      | none => exact absurd e (hG1.trk a f)
      | some o => rw [ext a o e]; exact fun z => (nomatch z), fun a q => (hG1.own a q).eq (k12.ow a q)⟩
    have c12 : Rch F1 H1 fps1 F1 H2 fps1 := ⟨fun b o e _ => ext b o e, fun _ f => f, fun _ f => .inl f, fun _ q => .inl q⟩
    have lt2 : Later F H H2 := lt.step mo hG1 c12
    have rd2 : R mg F1 H2 x d [] := by
      refine rd.move ⟨fun a f _ => ⟨mo a f, rfl⟩, fun a q => (nomatch q), fun a xs e => e⟩
    have hP2 := hP1.trans c12
    refine hg x σ1 H2 _ ⟨F1, ρ1, fps1, d, [], rd2, hE2, by simpa using hG2, hp1, ?_⟩
    have e0 : loopS t body fg (d :: ds.drop (i + 1)) ρ1 = (match t d ρ1 with
      | .nx ρ1 => (match body ρ1 with
        | .nx ρ2 => loopS t body fg (ds.drop (i + 1)) (forget fg ρ2)
        | .ct ρ2 => loopS t body fg (ds.drop (i + 1)) (forget fg ρ2)
        | .bk ρ2 => .nx (forget fg ρ2)
        | .rt d ρ2 => .rt d ρ2
        | .exc e ρ2 => .exc e ρ2
        | .bad => .bad)
      | _ => .bad) := rfl
    rw [e0] at hP2
    cases et : t d ρ1 with
    | nx ρ2 =>
      simp only [et] at hP2
      intro σ3 F3 H3 fps3 hE3 hG3 hp3 c3
      have c3' : Rch F1 H2 fps1 F3 H3 fps3 := by simpa using c3
      have hP3 := hP2.trans c3'
      refine hb _ σ3 H3 ⟨F3, ρ2, fps3, hE3, hG3, hp3, ?_⟩
      have again : ∀ {ρ4 : Env} {σ4 : L2.St} {F4 : FS} {H4 : Hp} {fps4 : List Addr}, SPst mg W us vs F3 H3 fps3 (loopS t body fg (ds.drop (i + 1)) (forget fg ρ4)) D → RE mg F4 H4 ρ4 σ4 fps4 → Gd F4 H4 fps4 → Pn us vs σ4 → Rch F3 H3 fps3 F4 H4 fps4 → LoopW mg W us vs F H D (loopS t body fg) ds (i + 1) (ds.length - (i + 1)) σ4 H4 := by
        intro ρ4 σ4 F4 H4 fps4 q a1 a2 a3 a4
        obtain ⟨gone, rest, b1, b2⟩ := forget_ok (is := fg) a1
        have a4' := a4.sub (W3 := rest) fun a z => b2.mem_iff.mpr (List.mem_append_right _ z)
        have lt3 : Later F H H3 := lt2.step mo hG2 c3'
        have mo3 : ∀ a, F a → F3 a := fun a f => c3'.mono a (mo a f)
        exact ⟨rfl, hlt, F4, _, rest, b1, (a2.perm b2).right, a3, lt3.step mo3 hG3 a4, fun a f => a4.mono a (mo3 a f), q.trans a4'⟩
      cases eb : body ρ2 with
      | nx ρ4 => simp only [eb] at hP3; exact fun σ4 F4 H4 fps4 a1 a2 a3 a4 => again hP3 a1 a2 a3 a4
      | ct ρ4 => simp only [eb] at hP3; exact fun σ4 F4 H4 fps4 a1 a2 a3 a4 => again hP3 a1 a2 a3 a4
      | bk ρ4 => simp only [eb] at hP3; exact fun σ4 F4 H4 fps4 a1 a2 a3 a4 => SPst.forget hP3 a1 a2 a3 a4
      | rt d4 ρ4 => simp only [eb] at hP3; exact hP3
      | exc x4 ρ4 => simp only [eb] at hP3; exact hP3
      | bad => simp only [eb] at hP3; exact hP3
    | _ => simp only [et] at hP2; exact hP2.elim
  · have e : i = ds.length := by omega
    subst e
    rw [List.drop_length] at hP1
    exact .inl ⟨y.stop H1 lt, SPst.forget (fg := fg) hP1 hE1 hG1 hp1 Rch.refl⟩
theorem vs_for {tg iter : Expr} {body : List Stmt} {it : M (List VL.D)} {t : VL.D → S} {b : S} {pos : Pos} (fg : List Nat) (hp : PassesOwn (model X.prog X.w) X.A X.env X.xe) (hc : X.calm = true) (hi : PI X tg iter (vI mg W it)) (hg : PG X tg (vG mg us vs t)) (hb : PSs X body (vS mg W us vs b))
    (hs : ∀ x, foldedSetIterable iter X.env x = pure x := by intro _; rfl) : PS X (.For tg iter body [] pos) (vS mg W us vs (sFor it t b fg)) := by
  refine ps_imp (ps_for hp hc hi hg hb hs) fun D σ H h => ?_
  obtain ⟨F, ρ, fps, hE, hG, hpn, hP⟩ := h
  refine ⟨F, ρ, fps, hE, hG, ?_⟩
  unfold sFor sBind at hP
  cases e : it ρ with
  | bad => rw [e] at hP; exact hP
  | exc x ρ1 =>
    rw [e] at hP
    exact fun cls dd F' H' fps' a b c q => hP cls dd σ F' H' fps' a b c hpn q
  | ok ds ρ1 =>
    rw [e] at hP
    intro J F' H' fps' y a1 a2 a3
    exact loop_go (fun _ _ _ _ q => q) (fun _ _ _ q => q) y a1 a2 hpn (hP.trans a3)
/-! ### while -/
def whileS (c : M Bool) (body : S) (fg : List Nat) : Nat → S
  | 0 => sNever
  | n + 1 => sBind c fun t => if t then (fun ρ => match body ρ with
      | .nx ρ2 => whileS c body fg n (forget fg ρ2)
      | .ct ρ2 => whileS c body fg n (forget fg ρ2)
      | .bk ρ2 => .nx (forget fg ρ2)
      | .rt d ρ2 => .rt d ρ2
      | .exc e ρ2 => .exc e ρ2
      | .bad => .bad) else fun ρ => .nx (forget fg ρ)
theorem vs_while {c : Expr} {body : List Stmt} {gc : M Bool} {b : S} {pos : Pos} (fg : List Nat) (n : Nat) (hp : PassesOwn (model X.prog X.w) X.A X.env X.xe) (hc : PT X c (vT mg W gc)) (hb : PSs X body (vS mg W us vs b)) : PS X (.While c body [] pos) (vS mg W us vs (whileS gc b fg n)) := by
  refine ps_imp (ps_while hp hc hb) fun D σ H h => ?_
  refine ⟨fun m σ H => vS mg W us vs (whileS gc b fg m) D σ H, ⟨n, h⟩, fun m σ H h => ?_⟩
  cases m with
  | zero =>
    obtain ⟨F, ρ, fps, hE, hG, hpn, hP⟩ := h
    exact hP.elim
  | succ m =>
    refine vS.bind (L := rB) h fun t ρ x F H' fp fps r hE hG hpn hP => ?_
    obtain ⟨rfl, rfl⟩ := r
    cases x with
    | false => exact SPst.forget (fg := fg) hP hE hG hpn Rch.refl
    | true =>
      rw [if_pos rfl] at hP ⊢
      simp only [List.nil_append] at hP hG
      refine ⟨fun σ' H' => ∃ m', m' < m + 1 ∧ vS mg W us vs (whileS gc b fg m') D σ' H', fun _ _ q => q, F, ρ, fps, hE, hG, hpn, ?_⟩
      have again : ∀ {ρ4 : Env}, SPst mg W us vs F H' fps (whileS gc b fg m (forget fg ρ4)) D → ∀ σ4 F4 H4 fps4, RE mg F4 H4 ρ4 σ4 fps4 → Gd F4 H4 fps4 → Pn us vs σ4 → Rch F H' fps F4 H4 fps4 → ∃ m', m' < m + 1 ∧ vS mg W us vs (whileS gc b fg m') D σ4 H4 := by
        intro ρ4 q σ4 F4 H4 fps4 a1 a2 a3 a4
        obtain ⟨gone, rest, b1, b2⟩ := forget_ok (is := fg) a1
        exact ⟨m, Nat.lt_succ_self m, F4, _, rest, b1, (a2.perm b2).right, a3, q.trans (a4.sub fun a z => b2.mem_iff.mpr (List.mem_append_right _ z))⟩
      cases eb : b ρ with
      | nx ρ4 => simp only [eb] at hP; exact again hP
      | ct ρ4 => simp only [eb] at hP; exact again hP
      | bk ρ4 => simp only [eb] at hP; exact fun σ4 F4 H4 fps4 a1 a2 a3 a4 => SPst.forget hP a1 a2 a3 a4
      | rt d4 ρ4 => simp only [eb] at hP; exact hP
      | exc x4 ρ4 => simp only [eb] at hP; exact hP
      | bad => simp only [eb] at hP; exact hP
end
end VL

set_option Elab.async false
set_option linter.all false
set_option maxRecDepth 100000
set_option maxHeartbeats 2000000
namespace VL
open PySem PySem.Spec PyProof.Rows L2

/-! ### what is written -/
def OpM (mg : MG) (r : V → List V → Hp → VK → Prop) (f : D → List D → Option (D × D)) : Prop :=
  ∀ F H fp fa v vs d ds res d' Q, R mg F H v d fp → Rs mg F H vs ds fa → Gd F H (fp ++ fa) → f d ds = some (res, d') →
    (∀ y F' H' f1 f2, R mg F' H' y res f1 → R mg F' H' v d' f2 → Gd F' H' (f1 ++ f2) → Rch F H (fp ++ fa) F' H' (f1 ++ f2) → Q y H') → r v vs H Q
/-- value kept from being written again -/
def gFz (g : M D) : M D := g >>= fun d => pure d.fz
section
variable {mg : MG} {W : WX} {σ : L2.St} {F F' : FS} {H H' : Hp} {fp fps fq fa : List Addr} {X : Cx} {us : List Nat} {vs : List V}
theorem vE_fz {g : M VL.D} {Q : VK} (h : vE mg W (gFz g) σ H Q) : vE mg W g σ H Q := by
  refine vX.then (L' := rD mg) (k := fun d : VL.D => pure d.fz) h fun d ρ v F H' fp fps r hE hG hP => ?_
  exact hP v (F.add fp) H' [] fps (r.freeze (fun _ f => .inl f) fun _ m => .inr m) (hE.move (keeps_add fp)) (by simpa using hG.add) (by simpa using Rch.add fun a m => m.elim (List.mem_append_left _) (List.mem_append_right _))
theorem ve_fz {e : Expr} {g : M VL.D} (h : PE X e (vE mg W g)) : PE X e (vE mg W (gFz g)) := pe_imp h fun _ _ _ => vE_fz
theorem set_same {i : Nat} {v : V} (e : σ[i]? = some (some v)) : σ.set i (some v) = σ := List.ext_getElem? fun j => by
  by_cases hj : i = j
  · subst hj; rw [List.getElem?_set_self (List.getElem?_eq_some_iff.mp e).1, e]
  · rw [List.getElem?_set_ne hj]
/-- the heart of a store into what slot i holds -/
theorem mut_core {r : V → List V → Hp → VK → Prop} {f : VL.D → List VL.D → Option (VL.D × VL.D)} {i : Nat} {d res d' : VL.D} {ds : List VL.D} {ws : List V} {ρ : Env} {Q : VK} (hf : OpM mg r f) (ra : Rs mg F H ws ds fa) (hE : RE mg F H ρ σ fps) (hG : Gd F H (fa ++ fps))
    (hi : ρ[i]? = some (some d)) (hr : f d ds = some (res, d'))
    (K : ∀ y F' H' f1 fps', R mg F' H' y res f1 → RE mg F' H' (ρ.set i (some d')) σ fps' → Gd F' H' (f1 ++ fps') → Rch F H (fa ++ fps) F' H' (f1 ++ fps') → Q y H') : ∀ v, σ[i]? = some (some v) → r v ws H Q := by
  intro v ev
  obtain ⟨v', fq, rest, e1, rv, hE', pm⟩ := hE.take hi
  rw [ev] at e1; cases e1
  have p1 : (fa ++ fps).Perm (rest ++ (fq ++ fa)) := by
    refine (List.Perm.append_left fa pm).trans ?_
    refine List.perm_append_comm.trans ?_
    rw [List.append_assoc]
    exact perm_mid
  have g1 := hG.perm p1
  refine hf F H fq fa v ws d ds res d' Q rv ra g1.right hr fun y F' H' f1 f2 ry rv' g2 c2 => ?_
  have hE2 := hE'.move (c2.keeps g1)
  have g3 := g1.carry c2 g2
  have hil : i < (ρ.set i none).length := by simpa using (List.getElem?_eq_some_iff.mp hi).1
  obtain ⟨gone, fps', hE3, p2⟩ := hE2.put hil rv'
  rw [List.set_set, set_same ev] at hE3
  have p3 : (rest ++ (f1 ++ f2)).Perm (gone ++ (f1 ++ fps')) := by
    refine perm_mid.trans ?_
    refine (List.Perm.append_left f1 (List.perm_append_comm.trans p2)).trans perm_mid
  have c3 : Rch F H (fa ++ fps) F' H' (rest ++ (f1 ++ f2)) := by
    have : Rch F H (fa ++ fps) F H (rest ++ (fq ++ fa)) := ⟨fun _ _ z _ => z, fun _ z => z, fun _ z => .inl z, fun a m => .inl (p1.mem_iff.mpr m)⟩
    exact this.carry c2
  exact K y F' H' f1 fps' ry hE3 ((g3.perm p3).right) (c3.sub fun a m => p3.mem_iff.mpr (List.mem_append_right _ m))

/-! ### methods of what a slot holds -/
def isT (T : String) : VL.D → Bool
  | .lst _ _ => T == "list"
  | .dct true _ _ => T == "dict"
  | _ => false
theorem isT_ok {K : PySem.W.Frag} {T : String} {v : V} {d : VL.D} (h : isT T d = true) (r : R mg F H v d fp) : tyV K T v H := by
  cases d with
  | lst o xs =>
    have e : T = "list" := by simpa [isT] using h
    cases r with
    | lstF _ e1 _ => exact .inl ⟨e, _, .inl e1⟩
    | lstO e1 _ => exact .inl ⟨e, _, .inl (.inl e1)⟩
  | dct o t kvs =>
    cases o with
    | false => cases h
    | true =>
      have e : T = "dict" := by simpa [isT] using h
      cases r with
      | dctO e1 o _ _ =>
        refine .inr (.inr (.inl ⟨e, ?_⟩))
        rcases o with ⟨_, l, rfl, _⟩ | ⟨_, l, rfl, _⟩
        · exact .inl ⟨l, e1⟩
        · exact .inr ⟨l, e1⟩
  | _ => cases h
def gMut (T : String) (i : Nat) (f : VL.D → List VL.D → Option (VL.D × VL.D)) (a : M (List Ar)) : M VL.D := fun ρ0 => match ρ0[i]? with
  | some (some d0) => if isT T d0 then (a >>= fun as => fun ρ => match ρ[i]? with
    | some (some d) => (match vals as with
      | some ds => (match f d ds with
        | some (res, d') => .ok res (ρ.set i (some d'))
        | none => .bad)
      | none => .bad)
    | _ => .bad) ρ0 else .bad
  | _ => .bad
theorem ve_mut {e : Expr} {es : List Expr} {name : Str} {ap cp : Pos} {T id : String} {r : V → List V → Hp → VK → Prop} {i : Nat} {f : VL.D → List VL.D → Option (VL.D × VL.D)} {x : Str} {xp : Pos} {a : M (List Ar)} (hf : OpM mg r f) (pa : PlainAttrs T) (sl : Slot T name id) (ty : typeOf (Value.builtin id) = pure (Value.type "method_descriptor")) (mt : MtR X id r)
    (hx : PE X (.Name x xp) (tVar i)) (ha : PA X (e :: es) (vA mg W a)) (h1 : attributeBase (.Name x xp) name X.env (eval (.Name x xp) X.env) = eval (.Name x xp) X.env := by rfl)
    (h2 : (((backTo cp (starEach (e :: es) X.env)).all fun x => !x.1) && ((backToKw cp (keywordEach [] X.env)).all fun x => x.1.isSome) && decide (((e :: es).length + ([] : List Keyword).length + if ([] : List Keyword).isEmpty = true then 0 else 1) < 30)) = true := by rfl)
    (h3 : (ap.endLine == cp.line) = true := by rfl) (h4 : starEach (e :: es) X.env = (false, eval e X.env) :: starEach es X.env := by rfl) (h5 : ((backTo cp (starEach es X.env)).any fun x => x.1) = false := by rfl) :
    PE X (.Call (.Attribute (.Name x xp) name ap) (e :: es) [] cp) (vE mg W (gMut T i f a)) := by
  refine pe_imp (pe_bm (apos := ap) pa sl ty mt hx ha h1 h2 h3 h4 h5) fun σ H Q h => ?_
  obtain ⟨F, ρ, fps, hE, hG, hP⟩ := h
  unfold gMut at hP
  split at hP
  · rename_i d0 e0
    split at hP
    · rename_i ct
      obtain ⟨v, fq, ev, rv, _⟩ := hE.get e0
      refine ⟨v, ev, isT_ok ct rv, ?_⟩
      refine vX.then (L' := rD mg) ⟨F, ρ, fps, hE, hG, hP⟩ fun as ρ1 ws F1 H1 fp1 fps1 ra hE1 hG1 hP1 => ?_
      split at hP1
      · rename_i d e1
        split at hP1
        · rename_i ds e2
          split at hP1
          · rename_i res d' e3
            exact mut_core hf (ra.vals e2) hE1 hG1 e1 e3 (fun y F' H' f1 fps' ry hE' hG' c => hP1 y F' H' f1 fps' ry hE' hG' c) v ev
          · exact hP1.elim
        · exact hP1.elim
      · exact hP1.elim
    · exact hP.elim
  · exact hP.elim
def gMut0 (T : String) (i : Nat) (f : VL.D → List VL.D → Option (VL.D × VL.D)) : M VL.D := fun ρ => match ρ[i]? with
  | some (some d) => if isT T d then (match f d [] with
      | some (res, d') => .ok res (ρ.set i (some d'))
      | none => .bad) else .bad
  | _ => .bad
theorem ve_mut0 {name : Str} {ap cp : Pos} {T id : String} {r : V → List V → Hp → VK → Prop} {i : Nat} {f : VL.D → List VL.D → Option (VL.D × VL.D)} {x : Str} {xp : Pos} (hf : OpM mg r f) (pa : PlainAttrs T) (sl : Slot T name id) (ty : typeOf (Value.builtin id) = pure (Value.type "method_descriptor")) (mt : MtR X id r)
    (hx : PE X (.Name x xp) (tVar i)) (h1 : attributeBase (.Name x xp) name X.env (eval (.Name x xp) X.env) = eval (.Name x xp) X.env := by rfl) (h3 : (ap.endLine == cp.line) = true := by rfl) :
    PE X (.Call (.Attribute (.Name x xp) name ap) [] [] cp) (vE mg W (gMut0 T i f)) := by
  refine pe_imp (pe_bm0 (apos := ap) pa sl ty mt hx h1 h3) fun σ H Q h => ?_
  obtain ⟨F, ρ, fps, hE, hG, hP⟩ := h
  unfold gMut0 at hP
  split at hP
  · rename_i d0 e0
    split at hP
    · rename_i ct
      obtain ⟨v, fq, ev, rv, _⟩ := hE.get e0
      refine ⟨v, ev, isT_ok ct rv, ?_⟩
      split at hP
      · rename_i res d' e3
        exact mut_core hf .nil hE (by simpa using hG) e0 e3 (fun y F' H' f1 fps' ry hE' hG' c => hP y F' H' f1 fps' ry hE' hG' (by simpa using c)) v ev
      · exact hP.elim
    · exact hP.elim
  · exact hP.elim
/-- one owned object is written: its new items take up what was there and what comes in -/
theorem own_upd {p : Addr} {o : HO} {W2 : List Addr} (e : Ow H p) (g : Gd F H (p :: fp)) (ho : ∀ xs, o ≠ .tup xs) (hW : ∀ a ∈ W2, a ∈ p :: fp) : Keeps F F H (upd H p o) fp ∧ (W2.Nodup → Gd F (upd H p o) W2) ∧ Rch F H (p :: fp) F (upd H p o) W2 := by
  have hp : p ∉ fp := (List.nodup_cons.mp g.nd).1
  have hF : ¬ F p := g.dis p List.mem_cons_self
  refine ⟨⟨fun a f _ => ⟨f, upd_ne fun z => hF (z ▸ f)⟩, fun a m => upd_ne fun z => hp (z ▸ m), fun a xs q => ?_⟩, fun nd => ⟨nd, fun a m => g.dis a (hW a m), fun a f => ?_, fun a m => ?_⟩, ⟨fun b u q n => ?_, fun _ f => f, fun _ f => .inl f, fun a m => .inl (hW a m)⟩⟩
  · by_cases z : a = p
    · subst z; exact absurd q e.ne
    · rw [upd_ne z]; exact q
  · rw [upd_ne (show a ≠ p from fun z => hF (z ▸ f))]; exact g.trk a f
  · by_cases z : a = p
    · subst z; exact ⟨o, upd_same, ho⟩
    · exact (g.own a (hW a m)).eq (upd_ne z)
  · rw [upd_ne (show b ≠ p from fun z => n (z ▸ List.mem_cons_self))]; exact q
end
end VL

set_option Elab.async false
set_option linter.all false
set_option maxRecDepth 100000
set_option maxHeartbeats 2000000
namespace VL
open PySem PySem.Spec PyProof.Rows L2
section
variable {mg : MG} {W : WX} {σ : L2.St} {F F' : FS} {H H' : Hp} {fp fps fq fa : List Addr} {X : Cx} {us : List Nat} {vs : List V}
/-- a list is written: y goes out of it with f1, the rest is f2 -/
theorem lst_upd {p : Addr} {ws : List V} {ws' : List V} {xs' : List VL.D} {f1 f2 : List Addr} {y : V} {res : VL.D} {Q : VK} (e : H p = some (.lst ws)) (g : Gd F H (p :: fp)) (r1 : R mg F H y res f1) (r2 : Rs mg F H ws' xs' f2) (hs : ∀ a ∈ f1 ++ f2, a ∈ fp) (nd : (f1 ++ f2).Nodup)
    (K : ∀ y F' H' f1 f2, R mg F' H' y res f1 → R mg F' H' (.ref p) (.lst true xs') f2 → Gd F' H' (f1 ++ f2) → Rch F H (p :: fp) F' H' (f1 ++ f2) → Q y H') : Q y (upd H p (.lst ws')) := by
  have pin : p ∉ fp := (List.nodup_cons.mp g.nd).1
  have pm : (p :: (f1 ++ f2)).Perm (f1 ++ (p :: f2)) := (List.perm_middle).symm
  obtain ⟨k, gd, rc⟩ := own_upd (p := p) (o := .lst ws') (fp := fp) (W2 := f1 ++ (p :: f2)) (⟨_, e, fun _ z => nomatch z⟩ : Ow H p) g (fun _ z => nomatch z) fun a m => by
    rcases List.mem_cons.mp (pm.mem_iff.mpr m) with rfl | m
    · exact List.mem_cons_self
    · exact List.mem_cons_of_mem _ (hs a m)
  have nd' : (f1 ++ (p :: f2)).Nodup := pm.nodup_iff.mp (List.nodup_cons.mpr ⟨fun m => pin (hs p m), nd⟩)
  exact K y F _ f1 (p :: f2) (r1.move (k.sub fun a m => hs a (List.mem_append_left _ m))) (.lstO upd_same (r2.move (k.sub fun a m => hs a (List.mem_append_right _ m)))) (gd nd') rc
def fAppend (d : VL.D) (ds : List VL.D) : Option (VL.D × VL.D) := match d, ds with
  | .lst true xs, [v] => if xs.length < big then some (.non, .lst true (xs ++ [v])) else none
  | _, _ => none
theorem opm_append : OpM mg rAppend fAppend := by
  intro F H fp fa v vs d ds res d' Q r rs g h K
  unfold fAppend at h
  split at h
  · rename_i xs x
    split at h
    · rename_i hl
      cases h
      cases r with
      | lstO e r =>
        rename_i a ws f0
        cases rs with
        | cons ry rn =>
          cases rn
          rename_i y fv
          refine ⟨a, ws, y, rfl, rfl, e, by rw [r.len]; exact Nat.lt_trans hl big_line, ?_⟩
          exact lst_upd (res := .non) (f1 := []) e g .non (r.app (.cons ry .nil)) (fun _ m => by simpa using m) (by simpa using (List.nodup_cons.mp g.nd).2) K
    · cases h
  · cases h
def fExtend (d : VL.D) (ds : List VL.D) : Option (VL.D × VL.D) := match d, ds with
  | .lst true xs, [.lst true ys] => if xs.length + ys.length < big then some (.non, .lst true (xs ++ ys)) else none
  | _, _ => none
theorem opm_extend : OpM mg rExtend fExtend := by
  intro F H fp fa v vs d ds res d' Q r rs g h K
  unfold fExtend at h
  split at h
  · rename_i xs ys
    split at h
    · rename_i hl
      cases h
      cases r with
      | lstO e r =>
        rename_i a ws f0
        cases rs with
        | cons ry rn =>
          cases rn
          cases ry with
          | lstO e2 r2 =>
            rename_i b zs fb
            refine ⟨a, b, ws, zs, rfl, rfl, e, e2, by rw [r.len, r2.len]; exact Nat.le_of_lt (Nat.lt_trans hl big_line), ?_⟩
            have nd := (List.nodup_cons.mp g.nd).2
            refine lst_upd (res := .non) (f1 := []) e g .non (r.app r2) (fun z m => ?_) ?_ K
            · rcases List.mem_append.mp (by simpa using m) with m | m
              · exact List.mem_append_left _ m
              · exact List.mem_append_right _ (List.mem_append_left _ (List.mem_cons_of_mem _ m))
            · refine List.Nodup.sublist ?_ nd
              rw [List.nil_append, List.append_nil]
              exact List.Sublist.append (List.Sublist.refl _) (List.sublist_cons_self _ _)
    · cases h
  · cases h
def fPop (d : VL.D) (ds : List VL.D) : Option (VL.D × VL.D) := match d, ds with
  | .lst true xs, [] => match xs.getLast? with
    | some x => some (x, .lst true xs.dropLast)
    | none => none
  | _, _ => none
theorem Rs.split : ∀ {xs ys : List VL.D} {vs : List V} {fp : List Addr}, Rs mg F H vs (xs ++ ys) fp → ∃ v1 v2 f1 f2, vs = v1 ++ v2 ∧ fp = f1 ++ f2 ∧ Rs mg F H v1 xs f1 ∧ Rs mg F H v2 ys f2
  | [], ys, vs, fp, h => ⟨[], vs, [], fp, rfl, rfl, .nil, h⟩
  | x :: xs, ys, _, _, .cons (v := v) (fp := f) r rs => by
    obtain ⟨v1, v2, f1, f2, rfl, rfl, h1, h2⟩ := rs.split
    exact ⟨v :: v1, v2, f ++ f1, f2, rfl, (List.append_assoc ..).symm, .cons r h1, h2⟩
theorem opm_pop : OpM mg rPop fPop := by
  intro F H fp fa v vs d ds res d' Q r rs g h K
  unfold fPop at h
  split at h
  · rename_i xs
    split at h
    · rename_i x hx
      cases h
      have ex : xs = xs.dropLast ++ [res] := by
        obtain ⟨ys, hys⟩ := List.getLast?_eq_some_iff.mp hx
        rw [hys]; simp
      cases r with
      | lstO e r =>
        rename_i a ws f0
        cases rs
        rw [ex] at r
        obtain ⟨v1, v2, f1, f2, rfl, rfl, r1, r2⟩ := r.split
        cases r2 with
        | cons ry rn =>
          cases rn
          rename_i y f3
          refine ⟨a, _, y, rfl, rfl, e, by simp, ?_⟩
          have nd := (List.nodup_cons.mp g.nd).2
          simp only [List.append_nil, List.append_eq] at g nd K ⊢
          rw [List.dropLast_concat]
          exact lst_upd e g ry r1 (fun z m => List.perm_append_comm.mem_iff.mp m) (List.perm_append_comm.nodup_iff.mp nd) K
    · cases h
  · cases h
def fPopAt (d : VL.D) (ds : List VL.D) : Option (VL.D × VL.D) := match d, ds with
  | .lst true xs, [.int i] => if within 9223372036854775808 i then (match seqIndex? i xs.length with
    | some k => match xs[k]? with
      | some x => some (x, .lst true (xs.eraseIdx k))
      | none => none
    | none => none) else none
  | _, _ => none
theorem Rs.pick : ∀ {xs : List VL.D} {vs : List V} {fp : List Addr} {k : Nat} {x : VL.D}, Rs mg F H vs xs fp → xs[k]? = some x → ∃ y f1 f2, vs[k]? = some y ∧ R mg F H y x f1 ∧ Rs mg F H (vs.eraseIdx k) (xs.eraseIdx k) f2 ∧ fp.Perm (f1 ++ f2)
  | _, _, _, 0, x, .cons (v := v) r rs, h => by
    simp at h; subst h
    exact ⟨v, _, _, rfl, r, rs, List.Perm.refl _⟩
  | _, _, _, k + 1, x, .cons (fp := f0) r rs, h => by
    obtain ⟨y, f1, f2, h1, h2, h3, h4⟩ := rs.pick (k := k) (by simpa using h)
    exact ⟨y, f1, f0 ++ f2, by simpa using h1, h2, .cons r h3, (List.Perm.append_left f0 h4).trans perm_mid⟩
  | _, _, _, 0, x, .nil, h => by simp at h
  | _, _, _, k + 1, x, .nil, h => by simp at h
theorem opm_popAt : OpM mg rPopAt fPopAt := by
  intro F H fp fa v vs d ds res d' Q r rs g h K
  unfold fPopAt at h
  split at h
  · rename_i xs i
    split at h
    · rename_i hb
      rw [within_iff] at hb
      split at h
      · rename_i k hk
        split at h
        · rename_i x hx
          cases h
          cases r with
          | lstO e r =>
            rename_i a ws f0
            cases rs with
            | cons ri rn =>
              cases rn
              cases ri
              obtain ⟨y, f1, f2, h1, h2, h3, h4⟩ := r.pick hx
              refine ⟨a, ws, i, k, y, rfl, rfl, e, by omega, by omega, by rw [r.len]; exact hk, h1, ?_⟩
              have nd := (List.nodup_cons.mp g.nd).2
              simp only [List.append_nil, List.append_eq] at g nd K ⊢
              exact lst_upd e g h2 h3 (fun z m => h4.mem_iff.mpr m) (h4.nodup_iff.mp nd) K
        · cases h
      · cases h
    · cases h
  · cases h
def fReverse (d : VL.D) (ds : List VL.D) : Option (VL.D × VL.D) := match d, ds with
  | .lst true xs, [] => some (.non, .lst true xs.reverse)
  | _, _ => none
theorem Rs.rev : ∀ {xs : List VL.D} {vs : List V} {fp : List Addr}, Rs mg F H vs xs fp → ∃ f, Rs mg F H vs.reverse xs.reverse f ∧ fp.Perm f
  | _, _, _, .nil => ⟨[], .nil, List.Perm.refl _⟩
  | _, _, _, .cons (fp := f0) r rs => by
    obtain ⟨f, h1, h2⟩ := rs.rev
    refine ⟨f ++ (f0 ++ []), ?_, ?_⟩
    · simp only [List.reverse_cons]
      exact h1.app (.cons r .nil)
    · rw [List.append_nil]
      exact (List.Perm.append_left _ h2).trans List.perm_append_comm
theorem opm_reverse : OpM mg rReverse fReverse := by
  intro F H fp fa v vs d ds res d' Q r rs g h K
  unfold fReverse at h
  split at h
  · rename_i xs
    cases h
    cases r with
    | lstO e r =>
      rename_i a ws f0
      cases rs
      obtain ⟨f, h1, h2⟩ := r.rev
      refine ⟨a, ws, rfl, rfl, e, ?_⟩
      have nd := (List.nodup_cons.mp g.nd).2
      simp only [List.append_nil, List.append_eq] at g nd K ⊢
      exact lst_upd (res := .non) (f1 := []) e g .non h1 (fun z m => h2.mem_iff.mpr (by simpa using m)) (by simpa using h2.nodup_iff.mp nd) K
  · cases h
def fClear (d : VL.D) (ds : List VL.D) : Option (VL.D × VL.D) := match d, ds with
  | .lst true xs, [] => some (.non, .lst true [])
  | _, _ => none
theorem opm_clear : OpM mg rClear fClear := by
  intro F H fp fa v vs d ds res d' Q r rs g h K
  unfold fClear at h
  split at h
  · rename_i xs
    cases h
    cases r with
    | lstO e r =>
      rename_i a ws f0
      cases rs
      refine ⟨a, ws, rfl, rfl, e, ?_⟩
      exact lst_upd (res := .non) (f1 := []) e g .non .nil (fun z m => nomatch m) List.nodup_nil K
  · cases h
abbrev rInsert : V → List V → Hp → VK → Prop := fun x vs H Q => ∃ l xs i y, x = V.ref l ∧ vs = [V.int i, y] ∧ H l = some (HO.lst xs) ∧ xs.length < sizeLine ∧ 0 ≤ i ∧ i < 2 ^ 63 ∧ Q V.non (upd H l (HO.lst (xs.take i.toNat ++ [y] ++ xs.drop i.toNat)))
def fInsert (d : VL.D) (ds : List VL.D) : Option (VL.D × VL.D) := match d, ds with
  | .lst true xs, [.int i, v] => if xs.length < big && (decide (0 ≤ i) && within 9223372036854775808 i) then some (.non, .lst true (xs.take i.toNat ++ [v] ++ xs.drop i.toNat)) else none
  | _, _ => none
theorem opm_insert : OpM mg rInsert fInsert := by
  intro F H fp fa v vs d ds res d' Q r rs g h K
  unfold fInsert at h
  split at h
  · rename_i xs i x
    split at h
    · rename_i hb
      simp only [Bool.and_eq_true, decide_eq_true_eq, within_iff] at hb
      cases h
      cases r with
      | lstO e r =>
        rename_i a ws f0
        cases rs with
        | cons ri rn =>
          cases ri
          cases rn with
          | cons ry rn =>
            cases rn
            rename_i y fv
            refine ⟨a, ws, i, y, rfl, rfl, e, by rw [r.len]; exact Nat.lt_trans hb.1 big_line, hb.2.1, by omega, ?_⟩
            have ex : xs = xs.take i.toNat ++ xs.drop i.toNat := (List.take_append_drop _ _).symm
            have hl := r.len
            rw [ex] at r
            obtain ⟨v1, v2, f1, f2, rfl, rfl, r1, r2⟩ := r.split
            have e1 : (v1 ++ v2).take i.toNat = v1 := by
              have q := r1.len
              have q2 := r2.len
              rw [List.length_append] at hl
              rw [List.length_take] at q
              rw [List.length_drop] at q2
              by_cases c : i.toNat ≤ xs.length
              · rw [List.take_append_of_le_length (by omega), List.take_of_length_le (by omega)]
              · have : v2 = [] := List.eq_nil_of_length_eq_zero (by omega)
                subst this
                rw [List.append_nil, List.take_of_length_le (by omega)]
            have e2 : (v1 ++ v2).drop i.toNat = v2 := by
              have := List.take_append_drop i.toNat (v1 ++ v2)
              rw [e1] at this
              exact List.append_cancel_left this
            rw [e1, e2]
            have nd := (List.nodup_cons.mp g.nd).2
            have pm : ((f1 ++ f2) ++ ([] ++ (fv ++ []))).Perm ([] ++ (f1 ++ (fv ++ []) ++ f2)) := by
              simp only [List.nil_append, List.append_nil, List.append_assoc]
              exact List.Perm.append_left _ List.perm_append_comm
            exact lst_upd (res := .non) (f1 := []) e g .non ((r1.app (.cons ry .nil)).app r2) (fun z m => pm.mem_iff.mpr m) (pm.nodup_iff.mp nd) K
    · cases h
  · cases h
end
end VL

set_option Elab.async false
set_option linter.all false
set_option maxRecDepth 100000
set_option maxHeartbeats 2000000
namespace VL
open PySem PySem.Spec PyProof.Rows L2
section
variable {mg : MG} {W : WX} {σ : L2.St} {F F' : FS} {H H' : Hp} {fp fps fq fa : List Addr} {X : Cx} {us : List Nat} {vs : List V}
theorem Rs.setAt : ∀ {xs : List VL.D} {ws : List V} {f fv : List Addr} {j : Nat} {y : V} {v : VL.D}, Rs mg F H ws xs f → R mg F H y v fv → j < xs.length → ∃ gone f2, Rs mg F H (ws.set j y) (xs.set j v) f2 ∧ (f ++ fv).Perm (gone ++ f2)
  | _, _, _, fv, 0, y, v, .cons (fp := f1) (fps := f2) r rs, ry, _ => ⟨f1, fv ++ f2, .cons ry rs, by rw [List.append_assoc]; exact List.Perm.append_left _ List.perm_append_comm⟩
  | _, _, _, fv, j + 1, y, v, .cons (fp := f1) (fps := f2) r rs, ry, h => by
    obtain ⟨gone, f3, h1, h2⟩ := rs.setAt (j := j) ry (by simpa using h)
    exact ⟨gone, f1 ++ f3, .cons r h1, by rw [List.append_assoc]; exact (List.Perm.append_left _ h2).trans perm_mid⟩
  | _, _, _, _, _, _, _, .nil, _, h => by simp at h
def fPutL (d : VL.D) (ds : List VL.D) : Option (VL.D × VL.D) := match d, ds with
  | .lst true xs, [.int k, v] => match ixN xs.length k with
    | some j => some (.non, .lst true (xs.set j v))
    | none => none
  | _, _ => none
def rPutL : V → List V → Hp → VK → Prop := fun x vs H Q => ∃ k v, vs = [k, v] ∧ rSetL x k v H fun H' => Q .non H'
theorem opm_putL : OpM mg rPutL fPutL := by
  intro F H fp fa v vs d ds res d' Q r rs g h K
  unfold fPutL at h
  split at h
  · rename_i xs k x
    split at h
    · rename_i j hj
      cases h
      cases r with
      | lstO e r =>
        rename_i a ws f0
        cases rs with
        | cons ri rn =>
          cases ri
          cases rn with
          | cons ry rn =>
            cases rn
            rename_i y fv
            obtain ⟨gone, f2, h1, h2⟩ := r.setAt ry (ixN_seq hj).2.1
            refine ⟨.int k, y, rfl, a, ws, k, j, rfl, rfl, e, by rw [r.len]; exact hj, ?_⟩
            have nd := (List.nodup_cons.mp g.nd).2
            simp only [List.append_nil, List.nil_append, List.append_eq] at g nd K ⊢
            exact lst_upd (res := .non) (f1 := []) e g .non h1 (fun z m => h2.mem_iff.mpr (List.mem_append_right _ (by simpa using m))) (by simpa using (List.nodup_append.mp (h2.nodup_iff.mp nd)).2.1) K
    · cases h
  · cases h
/-! ### dicts -/
theorem kput_fst {α β : Type} {l : List (DK × α)} {m : List (DK × β)} {k : DK} {y : α} {v : β} (e : l.map (·.1) = m.map (·.1)) : (kput l k y).map (·.1) = (kput m k v).map (·.1) := by
  have ea : (l.any fun kv => decide (kv.1 = k)) = (m.any fun kv => decide (kv.1 = k)) := by
    have h1 : (l.any fun kv => decide (kv.1 = k)) = (l.map (·.1)).any fun z => decide (z = k) := by rw [List.any_map]; rfl
    have h2 : (m.any fun kv => decide (kv.1 = k)) = (m.map (·.1)).any fun z => decide (z = k) := by rw [List.any_map]; rfl
    rw [h1, h2, e]
  unfold kput
  rw [ea]
  split
  · have f1 : (l.map fun kv => if kv.1 = k then (kv.1, y) else kv).map (·.1) = l.map (·.1) := by
      rw [List.map_map]
      apply List.map_congr_left
      intro z _
      simp only [Function.comp]
      split <;> rfl
    have f2 : (m.map fun kv => if kv.1 = k then (kv.1, v) else kv).map (·.1) = m.map (·.1) := by
      rw [List.map_map]
      apply List.map_congr_left
      intro z _
      simp only [Function.comp]
      split <;> rfl
    rw [f1, f2, e]
  · simp [e]
/-- in place: the new value is frozen -/
theorem kset_rel : ∀ {l : List (DK × V)} {m : List (DK × VL.D)} {f : List Addr} {k : DK} {y : V} {v : VL.D}, l.map (·.1) = m.map (·.1) → Rs mg F H (l.map (·.2)) (m.map (·.2)) f → R mg F H y v [] →
    ∃ gone f2, Rs mg F H ((l.map fun kv => if kv.1 = k then (kv.1, y) else kv).map (·.2)) ((m.map fun kv => if kv.1 = k then (kv.1, v) else kv).map (·.2)) f2 ∧ f.Perm (gone ++ f2)
  | [], [], _, k, y, v, _, .nil, _ => ⟨[], [], .nil, List.Perm.refl _⟩
  | p :: l, q :: m, _, k, y, v, e, .cons (fp := f1) (fps := f2) r rs, ry => by
    simp only [List.map_cons, List.cons.injEq] at e
    obtain ⟨gone, f3, h1, h2⟩ := kset_rel (k := k) (v := v) e.2 rs ry
    by_cases c : q.1 = k
    · have c' : p.1 = k := e.1.trans c
      refine ⟨f1 ++ gone, [] ++ f3, ?_, by rw [List.nil_append, List.append_assoc]; exact List.Perm.append_left _ h2⟩
      simp only [List.map_cons, c, c', if_true]
      exact .cons ry h1
    · have c' : ¬ p.1 = k := fun z => c (e.1.symm.trans z)
      refine ⟨gone, f1 ++ f3, ?_, (List.Perm.append_left _ h2).trans perm_mid⟩
      simp only [List.map_cons, c, c', if_false]
      exact .cons r h1
  | [], _ :: _, _, _, _, _, e, _, _ => by cases e
  | _ :: _, [], _, _, _, _, e, _, _ => by cases e
def khas (kvs : List (DK × VL.D)) (k : DK) : Bool := kvs.any fun kv => decide (kv.1 = k)
theorem kput_rel {l : List (DK × V)} {m : List (DK × VL.D)} {f fv : List Addr} {k : DK} {y : V} {v : VL.D} (e : l.map (·.1) = m.map (·.1)) (r : Rs mg F H (l.map (·.2)) (m.map (·.2)) f) (ry : R mg F H y v fv) (c : (v.fzd || !khas m k) = true) :
    ∃ gone f2, Rs mg F H ((kput l k y).map (·.2)) ((kput m k v).map (·.2)) f2 ∧ (f ++ fv).Perm (gone ++ f2) := by
  have ea : (l.any fun kv => decide (kv.1 = k)) = (m.any fun kv => decide (kv.1 = k)) := by
    have h1 : (l.any fun kv => decide (kv.1 = k)) = (l.map (·.1)).any fun z => decide (z = k) := by rw [List.any_map]; rfl
    have h2 : (m.any fun kv => decide (kv.1 = k)) = (m.map (·.1)).any fun z => decide (z = k) := by rw [List.any_map]; rfl
    rw [h1, h2, e]
  unfold kput
  rw [ea]
  split
  · rename_i ca
    have cf : v.fzd = true := by
      unfold khas at c
      rw [ca] at c
      simpa using c
    have ry0 := ry.nilfp cf
    have hfv : fv = [] := ry.fzd.mp cf
    subst hfv
    obtain ⟨gone, f2, h1, h2⟩ := kset_rel (k := k) e r ry0
    exact ⟨gone, f2, h1, by simpa using h2⟩
  · refine ⟨[], f ++ (fv ++ []), ?_, by simp⟩
    simp only [List.map_append, List.map_cons, List.map_nil]
    exact r.app (.cons ry .nil)
theorem putK_map {κ : Type} [DecidableEq κ] (f : κ → DK) (hf : ∀ a b, f a = f b → a = b) (l : List (κ × V)) (k : κ) (y : V) : kput (l.map fun p => (f p.1, p.2)) (f k) y = (putK l k y).map fun p => (f p.1, p.2) := by
  have ea : ((l.map fun p => (f p.1, p.2)).any fun kv => decide (kv.1 = f k)) = l.any fun kv => decide (kv.1 = k) := by
    rw [List.any_map]
    congr 1
    funext z
    simp only [Function.comp]
    by_cases c : z.1 = k
    · simp [c]
    · have : ¬ f z.1 = f k := fun q => c (hf _ _ q)
      simp [c, this]
  unfold kput putK
  rw [ea]
  split
  · rw [List.map_map, List.map_map]
    apply List.map_congr_left
    intro z _
    simp only [Function.comp]
    by_cases c : z.1 = k
    · simp [c]
    · have : ¬ f z.1 = f k := fun q => c (hf _ _ q)
      simp [c, this]
  · simp
theorem dput_of {a : Addr} {t : Bool} {ob : HO} {kvs : List (DK × V)} {y w : V} {k : VL.D} {dk : DK} (e : H a = some ob) (o : DHO t ob kvs) (rk : R mg F H y k fp) (hk : dkey k = some dk) (ht : dk.isK = !t) (hl : kvs.length < big) : ∃ ob', DHO t ob' (kput kvs dk w) ∧ DPut H a y w (upd H a ob') := by
  rcases o with ⟨rfl, l, rfl, rfl⟩ | ⟨rfl, l, rfl, rfl⟩
  · cases dk with
    | t ks => simp [DK.isK] at ht
    | k k0 =>
      refine ⟨.dK (putK l k0 w), .inl ⟨rfl, _, rfl, putK_map DK.k DK.k_inj l k0 w⟩, .inl ⟨l, k0, e, ?_, ?_, rfl⟩⟩
      · cases rk <;> first | (unfold dkey at hk; simp only [Option.some.injEq, DK.k.injEq] at hk; subst hk; rfl) | (unfold dkey at hk; simp at hk)
      · rw [List.length_map] at hl; exact Nat.lt_trans hl big_line
  · cases dk with
    | k k0 => simp [DK.isK] at ht
    | t ks =>
      cases rk with
      | tup et rt =>
        unfold dkey at hk
        obtain ⟨ks', e1, e2⟩ := Option.map_eq_some_iff.mp hk
        cases e2
        have ev := keysOf_kV rt e1
        subst ev
        refine ⟨.dT (putK l ks w), .inr ⟨rfl, _, rfl, putK_map DK.t DK.t_inj l ks w⟩, .inr ⟨l, ks, _, e, rfl, et, ?_, rfl⟩⟩
        rw [List.length_map] at hl; exact Nat.lt_trans hl big_line
      | _ => unfold dkey at hk; simp at hk
def fPutD (d : VL.D) (ds : List VL.D) : Option (VL.D × VL.D) := match d, ds with
  | .dct true t kvs, [k, v] => match dkey k with
    | some dk => if (dk.isK == !t) && decide (kvs.length < big) && (v.fzd || !khas kvs dk) then some (.non, .dct true t (kput kvs dk v)) else none
    | none => none
  | _, _ => none
def rPutD : V → List V → Hp → VK → Prop := fun x vs H Q => ∃ k v a H', vs = [k, v] ∧ x = .ref a ∧ DPut H a k v H' ∧ Q .non H'
theorem opm_putD : OpM mg rPutD fPutD := by
  intro F H fp fa v vs d ds res d' Q r rs g h K
  unfold fPutD at h
  split at h
  · rename_i t kvs k x
    split at h
    · rename_i dk hk
      split at h
      · rename_i hb
        simp only [Bool.and_eq_true, decide_eq_true_eq, beq_iff_eq] at hb
        obtain ⟨⟨hb1, hb2⟩, hb3⟩ := hb
        cases h
        cases r with
        | dctO e o q r =>
          rename_i a ob l f0
          cases rs with
          | cons rk rn =>
            cases rn with
            | cons ry rn =>
              cases rn
              rename_i yk fk y fv
              obtain ⟨ob', o', dp⟩ := dput_of (w := y) e o rk hk hb1 (by
                have := congrArg List.length q
                rw [List.length_map, List.length_map] at this
                rw [this]; exact hb2)
              refine ⟨yk, y, a, _, rfl, rfl, dp, ?_⟩
              obtain ⟨gone, f2, h1, h2⟩ := kput_rel q r ry hb3
              have nd := (List.nodup_cons.mp g.nd).2
              simp only [List.append_nil, List.append_eq] at g nd K
              have pin : a ∉ f0 ++ (fk ++ fv) := (List.nodup_cons.mp g.nd).1
              have mem : ∀ z ∈ f2, z ∈ f0 ++ (fk ++ fv) := fun z m => by
                rcases List.mem_append.mp (h2.mem_iff.mpr (List.mem_append_right gone m)) with m | m
                · exact List.mem_append_left _ m
                · exact List.mem_append_right _ (List.mem_append_right _ m)
              have nd2 : f2.Nodup := by
                have : (f0 ++ fv).Nodup := nd.sublist (List.Sublist.append (List.Sublist.refl _) (List.sublist_append_right _ _))
                exact (List.nodup_append.mp (h2.nodup_iff.mp this)).2.1
              obtain ⟨kp, gd, rc⟩ := own_upd (p := a) (o := ob') (W2 := a :: f2) (⟨_, e, o.ne⟩ : Ow H a) g o'.ne fun z m => by
                rcases List.mem_cons.mp m with rfl | m
                · exact List.mem_cons_self
                · exact List.mem_cons_of_mem _ (mem z m)
              exact K .non F _ [] (a :: f2) .non (.dctO upd_same o' (kput_fst q) (h1.move (kp.sub mem))) (gd (List.nodup_cons.mpr ⟨fun m => pin (mem a m), nd2⟩)) rc
      · cases h
    · cases h
  · cases h
/-! ### x[k] = v -/
def isLstO : VL.D → Bool
  | .lst _ _ => true
  | _ => false
def fPut (l : Bool) : VL.D → List VL.D → Option (VL.D × VL.D) := if l then fPutL else fPutD
def putEnd (i : Nat) (f : VL.D → List VL.D → Option (VL.D × VL.D)) (ds : List VL.D) : S := fun ρ => match ρ[i]? with
  | some (some d) => (match f d ds with
    | some (_, d') => .nx (ρ.set i (some d'))
    | none => .bad)
  | _ => .bad
def sPut (i : Nat) (gv gk : M VL.D) : S := fun ρ0 => match ρ0[i]? with
  | some (some d0) => sBind (gv >>= fun v => gk >>= fun k => pure (v, k)) (fun p => putEnd i (fPut (isLstO d0)) [p.2, p.1]) ρ0
  | _ => .bad
theorem put_end {r : V → List V → Hp → VK → Prop} {f : VL.D → List VL.D → Option (VL.D × VL.D)} {i : Nat} {ds : List VL.D} {ws : List V} {ρ : Env} {D : Ends} (hf : OpM mg r f) (hu : i ∉ us) (ra : Rs mg F H ws ds fa) (hE : RE mg F H ρ σ fps) (hG : Gd F H (fa ++ fps)) (hp : Pn us vs σ)
    (hP : SPst mg W us vs F H (fa ++ fps) (putEnd i f ds ρ) D) : ∀ v, σ[i]? = some (some v) → r v ws H fun _ H' => D.nx σ H' := by
  unfold putEnd at hP
  split at hP
  · rename_i d e
    split at hP
    · rename_i res d' e2
      exact mut_core hf ra hE hG e e2 fun y F' H' f1 fps' ry hE' hG' c => hP σ F' H' fps' hE' hG'.right hp (c.sub fun a m => List.mem_append_right _ m)
    · exact hP.elim
  · exact hP.elim
theorem put_end' {r : V → List V → Hp → VK → Prop} {f : VL.D → List VL.D → Option (VL.D × VL.D)} {i : Nat} {ds : List VL.D} {ws : List V} {ρ : Env} {D : Ends} (hf : OpM mg r f) (ra : Rs mg F H ws ds fa) (hE : RE mg F H ρ σ fps) (hG : Gd F H (fa ++ fps)) (hp : Pn us vs σ)
    (hP : SPst mg W us vs F H (fa ++ fps) (putEnd i f ds ρ) D) : ∀ v, σ[i]? = some (some v) → r v ws H fun _ H' => D.nx σ H' := by
  unfold putEnd at hP
  split at hP
  · rename_i d e
    split at hP
    · rename_i res d' e2
      exact mut_core hf ra hE hG e e2 fun y F' H' f1 fps' ry hE' hG' c => hP σ F' H' fps' hE' hG'.right hp (c.sub fun a m => List.mem_append_right _ m)
    · exact hP.elim
  · exact hP.elim
theorem vs_put {i : Nat} {x : Str} {xp p pos : Pos} {k e : Expr} {gv gk : M VL.D} (hu : X.A.units + 1 < cLine) (hx : PE X (.Name x xp) (tVar i)) (hv : PE X e (vE mg W gv)) (hk : PE X k (vE mg W gk))
    (h1 : swapsWithSole [.Subscript (.Name x xp) k p] e pos.line X.env = pure false := by rfl) (h2 : swappedStores [.Subscript (.Name x xp) k p] e X.env = pure none := by rfl) (h3 : (assignEach [.Subscript (.Name x xp) k p] X.env).map (fun x => x.2) = [assign (.Subscript (.Name x xp) k p) X.env] := by rfl)
    (h4 : ∀ (v : Value), assign (.Subscript (.Name x xp) k p) X.env v = (do
                let ov ← holding [v] (eval (.Name x xp) X.env)
                let iv ← holding [v, ov] (eval k X.env)
                standAt p
                holding [v, ov, iv] (setItem ov iv v)
                release [v, ov, iv] []) := by intro _; rfl)
    (h5 : swapsWith e (some (.Subscript (.Name x xp) k p)) pos.line X.env = pure false := by rfl) : PS X (.Assign [.Subscript (.Name x xp) k p] e pos) (vS mg W us vs (sPut i gv gk)) := by
  refine ⟨fun pins s σ H D I h => ?_⟩
  obtain ⟨F, ρ, fps, hE, hG, hp, hP⟩ := h
  unfold sPut at hP
  split at hP
  · rename_i d0 e0
    obtain ⟨o, fq, eo, _, _⟩ := hE.get e0
    have hS : vS mg W us vs (sBind (gv >>= fun v => gk >>= fun k => pure (v, k)) fun p => putEnd i (fPut (isLstO d0)) [p.2, p.1]) D σ H := ⟨F, ρ, fps, hE, hG, hp, hP⟩
    cases c : isLstO d0 with
    | true =>
      refine (ps_asg hv (pg_sub hx hk set_list h4) h1 h2 h3).run pins s σ H D I ?_
      have := vX.seq (L := rD mg) (L' := rD mg) (Q := fun v k H2 => rSetL o k v H2 fun H3 => D.nx σ H3) (vS.bind (L := (rD mg).prod (rD mg)) hS fun p ρ x F H' fp fps r hE hG hp hP => by
        obtain ⟨f1, f2, rfl, r1, r2⟩ := r
        have pm : (f1 ++ f2 ++ fps).Perm ((f2 ++ (f1 ++ [])) ++ fps) := by rw [List.append_nil]; exact List.Perm.append_right _ List.perm_append_comm
        rw [c] at hP
        obtain ⟨k', v', hkv, q⟩ := put_end' (ws := [x.2, x.1]) (opm_putL) (.cons r2 (.cons r1 .nil)) hE (hG.perm pm) hp (hP.trans (Rch.refl.sub fun a m => pm.mem_iff.mpr m)) o eo
        cases hkv
        exact q)
      exact vX.imp this fun v H1 q => ⟨o, eo, q⟩
    | false =>
      refine (ps_dput hu hx hk hv h5).run pins s σ H D I ?_
      have := vX.seq (L := rD mg) (L' := rD mg) (Q := fun v k H2 => ∃ a H4, o = .ref a ∧ DPut H2 a k v H4 ∧ D.nx σ H4) (vS.bind (L := (rD mg).prod (rD mg)) hS fun p ρ x F H' fp fps r hE hG hp hP => by
        obtain ⟨f1, f2, rfl, r1, r2⟩ := r
        have pm : (f1 ++ f2 ++ fps).Perm ((f2 ++ (f1 ++ [])) ++ fps) := by rw [List.append_nil]; exact List.Perm.append_right _ List.perm_append_comm
        rw [c] at hP
        obtain ⟨k', v', a, H4, hkv, ea, q1, q2⟩ := put_end' (ws := [x.2, x.1]) (opm_putD) (.cons r2 (.cons r1 .nil)) hE (hG.perm pm) hp (hP.trans (Rch.refl.sub fun a m => pm.mem_iff.mpr m)) o eo
        cases hkv
        exact ⟨a, H4, ea, q1, q2⟩)
      exact vX.imp this fun v H1 q => ⟨o, eo, q⟩
  · exact hP.elim
end
end VL

set_option Elab.async false
set_option linter.all false
set_option maxRecDepth 100000
set_option maxHeartbeats 2000000
namespace VL
open PySem PySem.Spec PyProof.Rows L2
/-! ### list comprehensions -/
/-- a turn's target, test and element -/
def lcGo (t : VL.D → S) (c : M Bool) (e : M VL.D) (own : List Nat) : List VL.D → M (List VL.D)
  | [] => fun ρ => .ok [] ρ
  | d :: r => fun ρ => match t d ρ with
    | .nx ρ1 => (match c ρ1 with
      | .ok true ρ2 => (match e ρ2 with
        | .ok y ρ3 => (match lcGo t c e own r (forget own ρ3) with
          | .ok ys ρ4 => .ok (y :: ys) ρ4
          | _ => .bad)
        | _ => .bad)
      | .ok false ρ2 => lcGo t c e own r (forget own ρ2)
      | _ => .bad)
    | _ => .bad
def tYesM : M Bool := fun ρ => .ok true ρ
def gLc (it : M (List VL.D)) (t : VL.D → S) (c : M Bool) (e : M VL.D) (own : List Nat) : M VL.D := fun ρ0 => match it ρ0 with
  | .ok ds ρ => if ds.length < big then (match lcGo t c e own ds (forget own ρ) with
      | .ok ys ρ1 => .ok (.lst true ys) ρ1
      | _ => .bad) else .bad
  | .exc x ρ => .exc x ρ
  | .bad => .bad
section
variable {mg : MG} {W : WX} {σ σ' : L2.St} {F F' F1 : FS} {H H' H1 H2 : Hp} {fp fps fq fa : List Addr} {X : Cx} {us : List Nat} {vs : List V} {own : List Nat}
/-- the block's frame, its own slots being free -/
def Wp (own : List Nat) (w0 : L2.St) (σ : L2.St) : Prop := wipe σ own = w0
theorem wipe_set {s : Option V} {i : Nat} : ∀ {own : List Nat}, i ∈ own → wipe (σ.set i s) own = wipe σ own
  | [], h => by cases h
  | j :: r, h => by
    unfold wipe
    by_cases c : i ∈ r
    · rw [wipe_set c]
    · have e : i = j := by
        rcases List.mem_cons.mp h with h | h
        · exact h
        · exact absurd h c
      subst e
      have : wipe (σ.set i s) r = (wipe σ r).set i s := by
        clear h
        induction r with
        | nil => rfl
        | cons k r ih =>
          have hk : i ≠ k := fun z => c (z ▸ List.mem_cons_self)
          unfold wipe
          rw [ih fun z => c (List.mem_cons_of_mem _ z), List.set_comm _ _ hk]
      rw [this, List.set_set]
theorem may_wp {i : Nat} {w0 : L2.St} (h : i ∈ own) : May (Wp own w0) i := fun v σ e => (wipe_set h).trans e
theorem wipe_get {i : Nat} : ∀ {own : List Nat}, i ∉ own → (wipe σ own)[i]? = σ[i]?
  | [], _ => rfl
  | j :: r, h => by
    unfold wipe
    rw [List.getElem?_set_ne (show j ≠ i from fun z => h (z ▸ List.mem_cons_self))]
    exact wipe_get fun z => h (List.mem_cons_of_mem _ z)
theorem forget_len : ∀ {is : List Nat} {ρ : Env}, (forget is ρ).length = ρ.length
  | [], _ => rfl
  | i :: r, ρ => by
    show (forget r (ρ.set i none)).length = _
    rw [forget_len]; simp
theorem forget_get {i : Nat} {d : VL.D} : ∀ {is : List Nat} {ρ : Env}, (forget is ρ)[i]? = some (some d) → i ∉ is ∧ ρ[i]? = some (some d)
  | [], _, h => ⟨by simp, h⟩
  | j :: r, ρ, h => by
    obtain ⟨h1, h2⟩ := forget_get (is := r) h
    by_cases c : j = i
    · subst c
      by_cases hl : j < ρ.length
      · rw [List.getElem?_set_self hl] at h2; cases h2
      · rw [List.getElem?_eq_none (by simpa using hl)] at h2; cases h2
    · rw [List.getElem?_set_ne c] at h2
      exact ⟨by simp only [List.mem_cons, not_or]; exact ⟨fun e => c e.symm, h1⟩, h2⟩
theorem wipe_sub : ∀ {a own : List Nat}, (∀ i ∈ a, i ∈ own) → wipe (wipe σ own) a = wipe σ own
  | [], _, _ => rfl
  | i :: a, own, h => by
    show (wipe (wipe σ own) a).set i none = _
    rw [wipe_sub fun j m => h j (List.mem_cons_of_mem _ m)]
    have hi := h i List.mem_cons_self
    clear h
    refine List.ext_getElem? fun j => ?_
    by_cases c : i = j
    · subst c
      by_cases hl : i < (wipe σ own).length
      · rw [List.getElem?_set_self hl]
        cases e : (wipe σ own)[i]? with
        | none => rw [List.getElem?_eq_none_iff] at e; omega
        | some o =>
          cases o with
          | none => rfl
          | some x => exact absurd hi (wipe_some e).2
      · rw [List.getElem?_eq_none (by simpa using hl), List.getElem?_eq_none (by simpa using hl)]
    · rw [List.getElem?_set_ne c]
theorem wipe_idem : wipe (wipe σ own) own = wipe σ own := wipe_sub fun _ m => m
/-- the same environment over another frame -/
theorem RE.swap : ∀ {ρ : Env} {σ σ' : L2.St} {fps : List Addr}, RE mg F H ρ σ fps → σ'.length = σ.length → (∀ (i : Nat) d, ρ[i]? = some (some d) → σ'[i]? = σ[i]?) → RE mg F H ρ σ' fps
  | _, _, σ', _, .nil, hl, _ => by
    cases σ' with
    | nil => exact .nil
    | cons _ _ => cases hl
  | _, _, σ', _, .skip r, hl, h => by
    cases σ' with
    | nil => cases hl
    | cons s σ' => exact .skip (r.swap (by simpa using hl) fun i d e => by simpa using h (i + 1) d (by simpa using e))
  | _, _, σ', _, .cons r rs, hl, h => by
    cases σ' with
    | nil => cases hl
    | cons s σ' =>
      have := h 0 _ rfl
      simp at this; subst this
      exact .cons r (rs.swap (by simpa using hl) fun i d e => by simpa using h (i + 1) d (by simpa using e))
theorem re_wipe {ρ : Env} (h : RE mg F H ρ σ fps) : ∃ gone rest, RE mg F H (forget own ρ) (wipe σ own) rest ∧ fps.Perm (gone ++ rest) := by
  obtain ⟨gone, rest, h1, h2⟩ := forget_ok (is := own) h
  exact ⟨gone, rest, h1.swap (wipe_length σ own) fun i d e => wipe_get (forget_get e).1, h2⟩
theorem re_unwipe {ρ : Env} (h : RE mg F H (forget own ρ) (wipe σ own) fps) : RE mg F H (forget own ρ) σ fps :=
  h.swap (wipe_length σ own).symm fun i d e => (wipe_get (forget_get e).1).symm
theorem re_rewipe {ρ : Env} (h : RE mg F H ρ σ fps) (e : wipe σ own = wipe σ' own) : ∃ gone rest, RE mg F H (forget own ρ) (wipe σ' own) rest ∧ fps.Perm (gone ++ rest) := by
  rw [← e]; exact re_wipe h
/-- a comprehension's target -/
def vC (mg : MG) (own : List Nat) (t : VL.D → S) : TG := fun v σ H Q => vGp mg (Wp own (wipe σ own)) t v σ H fun σ2 H2 => wipe σ2 own = wipe σ own → Q σ2 H2
theorem pg_vC {X : Cx} {tg : Expr} {t : VL.D → S} (h : ∀ w0, PG X tg (vGp mg (Wp own w0) t)) : PG X tg (fun v σ H Q => ∃ w0, vGp mg (Wp own w0) t v σ H Q) := ⟨fun pins s σ H v u Q I r ⟨w0, q⟩ => (h w0).run pins s σ H v u Q I r q⟩
def W0 : WX := fun _ _ _ _ => False
/-- what a turn keeps: the walk began at (F1, H1), the new list is at D -/
structure LcW (mg : MG) (σ : L2.St) (own : List Nat) (F1 : FS) (H1 : Hp) (D : Addr) (F0 : FS) (H0 : Hp) (fps0 : List Addr) (n : Nat) (go : List VL.D → M (List VL.D)) (fin : List VL.D → Env → Prop) (rest : List VL.D) (H : Hp) : Prop where
  ex : ∃ F ρ fps acc ds fa, RE mg F H (forget own ρ) (wipe σ own) fps ∧ H D = some (.lst acc) ∧ Rs mg F H acc ds fa ∧ Gd F H ((D :: fa) ++ fps) ∧ Later F1 H1 H ∧ (∀ a, F1 a → F a) ∧ Rch F0 H0 fps0 F H ((D :: fa) ++ fps) ∧ acc.length + rest.length ≤ n ∧
    (match go rest (forget own ρ) with | .ok ys ρ' => fin (ds ++ ys) ρ' | _ => False)
theorem lcGo_own {t : VL.D → S} {c : M Bool} {e : M VL.D} : ∀ {ds : List VL.D} {ρ ρ' : Env} {ys : List VL.D}, lcGo t c e own ds (forget own ρ) = .ok ys ρ' → ∃ ρ2, ρ' = forget own ρ2
  | [], ρ, _, _, h => by
    unfold lcGo at h
    injection h with _ h2
    exact ⟨ρ, h2.symm⟩
  | d :: r, ρ, ρ', ys, h => by
    unfold lcGo at h
    split at h
    · rename_i ρ1 e1
      split at h
      · rename_i ρ2 e2
        split at h
        · rename_i y ρ3 e3
          split at h
          · rename_i ys' ρ4 e4
            injection h with _ h2
            subst h2
            exact lcGo_own e4
          · cases h
        · cases h
      · exact lcGo_own h
      · cases h
    · cases h
theorem rch_wider {W1 : List Addr} (c : Rch F H fps F' H' fq) (h : ∀ a ∈ fps, a ∈ W1) (k : List Addr) (hk : ∀ a ∈ k, a ∈ W1) : Rch F H W1 F' H' (k ++ fq) := ⟨fun b o e n => c.keep b o e fun m => n (h b m), c.mono, fun a f => (c.new a f).imp_right (Or.imp_left (h a)), fun a m => (List.mem_append.mp m).elim (fun z => .inl (hk a z)) fun z => (c.fpn a z).imp_left (h a)⟩
theorem lc_ok {it : M (List VL.D)} {t : VL.D → S} {c : M Bool} {e : M VL.D} {tt : TT} {te : TE} {Q : VK} (htt : ∀ σ H Q, vT mg W0 c σ H Q → tt σ H Q) (hte : ∀ σ H Q, vE mg W0 e σ H Q → te σ H Q)
    (h : vE mg W (gLc it t c e own) σ H Q) : tLc (vI mg W it) (fun v σ H Q => ∃ w0, vGp mg (Wp own w0) t v σ H Q) tt te own σ H Q := by
  obtain ⟨F, ρ, fps, hE, hG, hP⟩ := h
  refine ⟨F, ρ, fps, hE, hG, ?_⟩
  unfold gLc at hP
  cases ei : it ρ with
  | bad => rw [ei] at hP; exact hP
  | exc x ρ1 => rw [ei] at hP; exact hP
  | ok ds ρ1 =>
    simp only [ei] at hP
    intro J F1 H1 fps1 y hE1 hG1 c1 D nD
    split at hP
    rotate_left
    · exact hP.elim
    rename_i hb
    -- the start
    obtain ⟨gone, fps2, hE2, pm2⟩ := re_wipe (own := own) hE1
    have hG2 := (hG1.perm pm2).right
    have c2 : Rch F H fps F1 H1 fps2 := c1.sub fun a m => pm2.mem_iff.mpr (List.mem_append_right _ m)
    let fin : List VL.D → Env → Prop := fun ys ρ' => Pst mg W σ (rD mg) F H fps (.ok (.lst true ys) ρ') Q
    refine ⟨fun i m H' => m = ds.length - i ∧ i ≤ ds.length ∧ LcW mg σ own F1 H1 D F H fps big (lcGo t c e own) fin (ds.drop i) H', ⟨ds.length, by simp, Nat.zero_le _, ?_⟩, ?_⟩
    · refine ⟨F1, ρ1, fps2, [], [], [], hE2.move (keeps_alloc nD F1 (fun _ f => f) hE2.own), upd_same, .nil, ⟨List.nodup_cons.mpr ⟨fun m => (hG2.own D (by simpa using m)).trk nD, by simpa using hG2.nd⟩, fun a m f => ?_, fun a f => trk_alloc hG2 a (.inl f), fun a m => ?_⟩, ⟨fun a f => ?_, fun a xs q => ?_⟩, fun _ f => f, ?_, by simpa using Nat.le_of_lt hb, ?_⟩
      · rcases List.mem_cons.mp m with rfl | m
        · exact hG2.trk a f nD
        · exact hG2.dis a (by simpa using m) f
      · rcases List.mem_cons.mp m with rfl | m
        · exact ⟨_, upd_same, fun _ z => nomatch z⟩
        · exact (hG2.own a (by simpa using m)).eq (upd_ne fun z => (hG2.own a (by simpa using m)).trk (by rw [z]; exact nD))
      · exact upd_ne fun z => hG2.trk a f (by rw [z]; exact nD)
      · rw [upd_ne (ne_of_none q nD)]; exact q
      · refine c2.trans (Rch.alloc nD F1 (fun _ f => f) (fun _ f => .inl f) fun a m => ?_)
        rcases List.mem_cons.mp m with rfl | m
        · exact .inr rfl
        · exact .inl (by simpa using m)
      · cases eg : lcGo t c e own ds (forget own ρ1) with
        | ok ys ρ' =>
          simp only [eg] at hP
          simp only [List.drop_zero, List.nil_append]
          rw [eg]
          exact hP
        | _ => simp only [eg] at hP; exact hP.elim
    · rintro i m H3 ⟨rfl, hi, F3, ρ3, fps3, acc, ac, fa, hE3, hD3, ra3, hG3, lt3, mo3, c3, hn3, hf3⟩
      by_cases hlt : i < ds.length
      · have ed : ds.drop i = ds[i] :: ds.drop (i + 1) := List.drop_eq_getElem_cons hlt
        rw [ed] at hf3 hn3
        refine .inr ⟨y.go H3 i lt3 hlt, fun H' => LcW mg σ own F1 H1 D F H fps big (lcGo t c e own) fin (ds.drop (i + 1)) H', fun H' q => ⟨ds.length - (i + 1), by omega, rfl, hlt, q⟩, fun x H4 hy => ?_⟩
        obtain ⟨d, hd, rd, ext⟩ := y.yld H3 i x H4 lt3 hlt hy
        rw [List.getElem?_eq_getElem hlt] at hd
        cases hd
        have k34 : Keeps F3 F3 H3 H4 ((D :: fa) ++ fps3) := ⟨fun a f n => ⟨f, by
          cases q : H3 a with
          | none => exact absurd q n
          | some o => exact ext a o q⟩, fun a q => by
          obtain ⟨o, q2, _⟩ := hG3.own a q
          rw [q2]; exact ext a o q2, fun a xs q => ext a _ q⟩
        have hE4 := hE3.move (k34.sub fun a m => List.mem_append_right _ m)
        have ra4 := ra3.move (k34.sub fun a m => List.mem_append_left _ (List.mem_cons_of_mem _ m))
        have hD4 := ext D _ hD3
        have hG4 : Gd F3 H4 ((D :: fa) ++ fps3) := ⟨hG3.nd, hG3.dis, fun a f => by
          cases q : H3 a with
          | none => exact absurd q (hG3.trk a f)
          | some o => rw [ext a o q]; exact fun z => (nomatch z), fun a q => (hG3.own a q).eq (k34.ow a q)⟩
        have c34 : Rch F3 H3 ((D :: fa) ++ fps3) F3 H4 ((D :: fa) ++ fps3) := ⟨fun b o q _ => ext b o q, fun _ f => f, fun _ f => .inl f, fun _ q => .inl q⟩
        have lt4 : Later F1 H1 H4 := lt3.step mo3 hG3 c34
        have c4 := c3.trans c34
        have rd4 : R mg F3 H4 x ds[i] [] := rd.move ⟨fun a f _ => ⟨mo3 a f, rfl⟩, fun a q => (nomatch q), fun a xs q => q⟩
        unfold lcGo at hf3
        cases et : t ds[i] (forget own ρ3) with
        | nx ρ5 =>
          simp only [et] at hf3
          refine ⟨wipe σ own, F3, forget own ρ3, fps3, ds[i], [], rd4, hE4, by simpa using hG4.right, by
            show wipe (wipe σ own) own = wipe σ own
            exact wipe_idem, ?_⟩
          rw [et]
          intro σ5 F5 H5 fps5 hE5 hG5 hw5 c5
          have hw5 : wipe σ5 own = wipe σ own := hw5
          refine ⟨hw5, ?_⟩
          have c5' : Rch F3 H4 fps3 F5 H5 fps5 := by simpa using c5
          have g5 := hG4.carry c5' hG5
          have kD5 := c5'.keeps hG4
          have ra5 := ra4.move (kD5.sub fun a m => List.mem_cons_of_mem _ m)
          have hD5 : H5 D = some (.lst acc) := (kD5.ow D List.mem_cons_self).trans hD4
          have cc5 := c4.carry c5'
          have lt5 : Later F1 H1 H5 := lt4.step mo3 hG4.right c5'
          have mo5 : ∀ a, F1 a → F5 a := fun a f => c5'.mono a (mo3 a f)
          refine htt _ _ _ ⟨F5, ρ5, fps5, hE5, g5.right, ?_⟩
          cases ec : c ρ5 with
          | bad => simp only [ec] at hf3
          | exc x1 ρ6 => simp only [ec] at hf3
          | ok b ρ6 =>
            simp only [ec] at hf3
            intro b' F6 H6 fb fps6 rb hE6 hG6 c6
            obtain ⟨rb1, rfl⟩ := rb
            subst rb1
            have hG6 : Gd F6 H6 fps6 := by simpa using hG6
            have c6 : Rch F5 H5 fps5 F6 H6 fps6 := by simpa using c6
            have g6 := g5.carry c6 hG6
            have kD6 := c6.keeps g5
            have ra6 := ra5.move (kD6.sub fun a m => List.mem_cons_of_mem _ m)
            have hD6 : H6 D = some (.lst acc) := (kD6.ow D List.mem_cons_self).trans hD5
            have cc6 := cc5.carry c6
            have lt6 : Later F1 H1 H6 := lt5.step mo5 g5.right c6
            have mo6 : ∀ a, F1 a → F6 a := fun a f => c6.mono a (mo5 a f)
            cases b' with
            | false =>
              simp only [Bool.false_eq_true, if_false] at hf3 ⊢
              obtain ⟨gone7, fps7, hE7, pm7⟩ := re_rewipe hE6 hw5
              have pmw : ((D :: fa) ++ fps6).Perm (gone7 ++ ((D :: fa) ++ fps7)) := (List.Perm.append_left _ pm7).trans perm_mid
              exact ⟨F6, ρ6, fps7, acc, ac, fa, hE7, hD6, ra6, (g6.perm pmw).right, lt6, mo6, cc6.sub fun a m => pmw.mem_iff.mpr (List.mem_append_right _ m), by simp only [List.length_cons] at hn3; omega, hf3⟩
            | true =>
              simp only [if_true] at hf3 ⊢
              refine hte _ _ _ ⟨F6, ρ6, fps6, hE6, g6.right, ?_⟩
              cases ee : e ρ6 with
              | bad => simp only [ee] at hf3
              | exc x1 ρ7 => simp only [ee] at hf3
              | ok yd ρ7 =>
                simp only [ee] at hf3
                intro yv F7 H7 fy fps7 ry hE7 hG7 c7
                have g7 := g6.carry c7 hG7
                have kD7 := c7.keeps g6
                have ra7 := ra6.move (kD7.sub fun a m => List.mem_cons_of_mem _ m)
                have hD7 : H7 D = some (.lst acc) := (kD7.ow D List.mem_cons_self).trans hD6
                have cc7 := cc6.carry c7
                have lt7 : Later F1 H1 H7 := lt6.step mo6 g6.right c7
                have mo7 : ∀ a, F1 a → F7 a := fun a f => c7.mono a (mo6 a f)
                obtain ⟨gone8, fps8, hE8, pm8⟩ := re_rewipe hE7 hw5
                simp only [List.length_cons] at hn3
                refine ⟨acc, hD7, by have := big_line; omega, ?_⟩
                -- the item joins the list
                have pmw : ((D :: fa) ++ (fy ++ fps7)).Perm (gone8 ++ ((D :: (fa ++ (fy ++ []))) ++ fps8)) := by
                  have q1 : (fa ++ (fy ++ fps7)).Perm (fa ++ (fy ++ (gone8 ++ fps8))) := List.Perm.append_left _ (List.Perm.append_left _ pm8)
                  have q2 : (fa ++ (fy ++ (gone8 ++ fps8))).Perm (gone8 ++ (fa ++ (fy ++ fps8))) := (List.Perm.append_left _ perm_mid).trans perm_mid
                  have q3 : (D :: (gone8 ++ (fa ++ (fy ++ fps8)))).Perm (gone8 ++ (D :: (fa ++ (fy ++ fps8)))) := (List.perm_middle).symm
                  simpa using ((q1.trans q2).cons D).trans q3
                have g8 := (g7.perm pmw).right
                have c8 := cc7.sub fun a (m : a ∈ (D :: (fa ++ (fy ++ []))) ++ fps8) => pmw.mem_iff.mpr (List.mem_append_right _ m)
                obtain ⟨kp, gd, rc⟩ := own_upd (p := D) (o := .lst (acc ++ [yv])) (fp := (fa ++ (fy ++ [])) ++ fps8) (W2 := (D :: (fa ++ (fy ++ []))) ++ fps8) (g8.own D (List.mem_cons_self)) (by simpa using g8) (fun _ z => nomatch z) (fun a m => by simpa using m)
                have gd := gd g8.nd
                have ry7 : Rs mg F7 H7 (acc ++ [yv]) (ac ++ [yd]) (fa ++ (fy ++ [])) := ra7.app (.cons ry .nil)
                have nF : ¬ F1 D := fun f => (hG1.trk D f) nD
                have lt8 : Later F1 H1 (upd H7 D (.lst (acc ++ [yv]))) := ⟨fun a f => (upd_ne (show a ≠ D from fun z => nF (z ▸ f))).trans (lt7.fz a f), fun a xs q => by
                  rw [upd_ne (ne_of_none q nD)]; exact lt7.tp a xs q⟩
                refine ⟨F7, ρ7, fps8, acc ++ [yv], ac ++ [yd], fa ++ (fy ++ []), hE8.move (kp.sub fun a m => List.mem_append_right _ m), upd_same, ry7.move (kp.sub fun a m => List.mem_append_left _ m), gd, lt8, mo7, c8.trans (by simpa using rc), by rw [List.length_append, List.length_singleton]; omega, ?_⟩
                cases eg : lcGo t c e own (ds.drop (i + 1)) (forget own ρ7) with
                | ok ys ρ8 =>
                  simp only [eg] at hf3
                  simpa using hf3
                | _ => simp only [eg] at hf3
        | _ => simp only [et] at hf3
      · have ee : i = ds.length := by omega
        subst ee
        rw [List.drop_length] at hf3
        refine .inl ⟨y.stop H3 lt3, ?_⟩
        unfold lcGo at hf3
        simp only [List.append_nil] at hf3
        have hf3 : Pst mg W σ (rD mg) F H fps (.ok (.lst true ac) (forget own ρ3)) Q := hf3
        exact hf3 (.ref D) F3 H3 (D :: fa) fps3 (.lstO hD3 ra3) (re_unwipe hE3) hG3 c3
end
end VL

set_option Elab.async false
set_option linter.all false
set_option maxRecDepth 100000
set_option maxHeartbeats 2000000
namespace VL
open PySem PySem.Spec PyProof.Rows L2
section
variable {mg : MG} {W : WX} {σ σ' : L2.St} {F F' F1 : FS} {H H' H1 H2 : Hp} {fp fps fq fa : List Addr} {X : Cx} {us : List Nat} {vs : List V} {own : List Nat}
theorem pts_imp {X : Cx} {ifs : List Expr} {t t' : TT} (h : PTs X ifs t) (i : ∀ σ H Q, t' σ H Q → t σ H Q) : PTs X ifs t' := ⟨fun pins s σ H Q I q => h.run pins s σ H Q I (i σ H Q q)⟩
theorem vts_nil : PTs X [] (vT mg W tYesM) := pts_imp pts_nil fun σ H Q ⟨F, ρ, fps, hE, hG, hP⟩ => hP true F H [] fps ⟨rfl, rfl⟩ hE (by simpa using hG) Rch.refl
theorem vts_one {c : Expr} {g : M Bool} (h : PT X c (vT mg W g)) : PTs X [c] (vT mg W g) := pts_one h
/-- everything that a comprehension's block asks of its parts -/
structure Blk (X : Cx) (scope : Scope) (Pp : Cx → Prop) : Prop where
  ok : ∀ (s : Shared) (H : Hp) (C : Addr) (cl : List (Str × Addr)) (fp : List Addr), Pp (X.blk s H scope (compEnvC scope cl C X.env) fp)
theorem ve_lc {elt tg iter : Expr} {ifs : List Expr} {scope : Scope} {own : List (Str × Nat)} {pos : Pos} {it : M (List VL.D)} {t : VL.D → S} {c : M Bool} {e : M VL.D} (hc : X.calm = true) (hN : X.N.Nodup) (hi : PI X tg iter (vI mg W it)) (ok : BlkOk X.N X.env.scope scope own)
    (hg : Blk X scope fun B => ∀ w0, PG B tg (vGp mg (Wp (own.map (·.2)) w0) t)) (ht : Blk X scope fun B => PTs B ifs (vT mg W0 c)) (he : Blk X scope fun B => PE B elt (vE mg W0 e)) (hs : ∀ x, foldedSetIterable iter X.env x = pure x := by intro _; rfl) :
    PE X (.ListComp elt [⟨tg, iter, ifs, 0⟩] scope pos) (vE mg W (gLc it t c e (own.map (·.2)))) :=
  pe_imp (pe_lc hc hN hi ok (fun s H C cl fp => pg_vC (hg.ok s H C cl fp)) (fun s H C cl fp => ht.ok s H C cl fp) (fun s H C cl fp => he.ok s H C cl fp) hs) fun σ H Q h => lc_ok (fun _ _ _ z => z) (fun _ _ _ z => z) h
theorem vs_setLc {i : Nat} {y : Str} {py : Pos} {elt tg iter : Expr} {ifs : List Expr} {scope : Scope} {own : List (Str × Nat)} {pos spos : Pos} {it : M (List VL.D)} {t : VL.D → S} {c : M Bool} {e : M VL.D} (hc : X.calm = true) (hN : X.N.Nodup) (hy : X.N[i]? = some y) (hyl : X.env.scope.names.lookup y = some .local) (hu : i ∉ us)
    (hsw : swapsWith (.ListComp elt [⟨tg, iter, ifs, 0⟩] scope pos) (some (.Name y py)) spos.line X.env = pure true) (hi : PI X tg iter (vI mg W it)) (ok : BlkOk X.N X.env.scope scope own)
    (hg : Blk X scope fun B => ∀ w0, PG B tg (vGp mg (Wp (own.map (·.2)) w0) t)) (ht : Blk X scope fun B => PTs B ifs (vT mg W0 c)) (he : Blk X scope fun B => PE B elt (vE mg W0 e)) (hs : ∀ x, foldedSetIterable iter X.env x = pure x := by intro _; rfl) :
    PS X (.Assign [.Name y py] (.ListComp elt [⟨tg, iter, ifs, 0⟩] scope pos) spos) (vS mg W us vs (sSet i (gLc it t c e (own.map (·.2))))) :=
  ps_imp (ps_setLc (i := i) hc hN hy hyl hsw hi ok (fun s H C cl fp => pg_vC (hg.ok s H C cl fp)) (fun s H C cl fp => ht.ok s H C cl fp) (fun s H C cl fp => he.ok s H C cl fp) hs) fun D σ H h =>
    lc_ok (Q := fun x H1 => D.nx (σ.set i (some x)) H1) (fun _ _ _ z => z) (fun _ _ _ z => z) (vS.bind (L := rD mg) h fun d ρ v F H' fp fps r hE hG hp hP => store_slot r hE hG hp hu hP)
/-! ### dict comprehensions by ints and texts -/
def dcGo (t : VL.D → S) (c : M Bool) (ek ev : M VL.D) (own : List Nat) : List VL.D → List (DK × VL.D) → M (List (DK × VL.D))
  | [], acc => fun ρ => .ok acc ρ
  | d :: r, acc => fun ρ => match t d ρ with
    | .nx ρ1 => (match c ρ1 with
      | .ok true ρ2 => (match ek ρ2 with
        | .ok k ρ3 => (match ev ρ3 with
          | .ok v ρ4 => (match dkey k with
            | some dk => if dk.isK && (v.fzd || !khas acc dk) then dcGo t c ek ev own r (kput acc dk v) (forget own ρ4) else .bad
            | none => .bad)
          | _ => .bad)
        | _ => .bad)
      | .ok false ρ2 => dcGo t c ek ev own r acc (forget own ρ2)
      | _ => .bad)
    | _ => .bad
def gDc (it : M (List VL.D)) (t : VL.D → S) (c : M Bool) (ek ev : M VL.D) (own : List Nat) : M VL.D := fun ρ0 => match it ρ0 with
  | .ok ds ρ => if ds.length < big then (match dcGo t c ek ev own ds [] (forget own ρ) with
      | .ok ys ρ1 => .ok (.dct true false ys) ρ1
      | _ => .bad) else .bad
  | .exc x ρ => .exc x ρ
  | .bad => .bad
structure DcW (mg : MG) (σ : L2.St) (own : List Nat) (F1 : FS) (H1 : Hp) (D : Addr) (F0 : FS) (H0 : Hp) (fps0 : List Addr) (n : Nat) (go : List VL.D → List (DK × VL.D) → M (List (DK × VL.D))) (fin : List (DK × VL.D) → Env → Prop) (rest : List VL.D) (H : Hp) : Prop where
  ex : ∃ F ρ fps kvs ds fa, RE mg F H (forget own ρ) (wipe σ own) fps ∧ H D = some (.dK kvs) ∧ (kvs.map fun p => DK.k p.1) = ds.map (·.1) ∧ Rs mg F H (kvs.map (·.2)) (ds.map (·.2)) fa ∧ Gd F H ((D :: fa) ++ fps) ∧ Later F1 H1 H ∧ (∀ a, F1 a → F a) ∧ Rch F0 H0 fps0 F H ((D :: fa) ++ fps) ∧ ds.length + rest.length ≤ n ∧
    (match go rest ds (forget own ρ) with | .ok ys ρ' => fin ys ρ' | _ => False)
theorem kput_len {α : Type} (l : List (DK × α)) (k : DK) (v : α) : (kput l k v).length ≤ l.length + 1 := by
  unfold kput
  split
  · simp
  · simp
theorem dc_ok {it : M (List VL.D)} {t : VL.D → S} {c : M Bool} {ek ev : M VL.D} {tt : TT} {tk tv : TE} {Q : VK} (htt : ∀ σ H Q, vT mg W0 c σ H Q → tt σ H Q) (htk : ∀ σ H Q, vE mg W0 ek σ H Q → tk σ H Q) (htv : ∀ σ H Q, vE mg W0 ev σ H Q → tv σ H Q)
    (h : vE mg W (gDc it t c ek ev own) σ H Q) : tDc (vI mg W it) (fun v σ H Q => ∃ w0, vGp mg (Wp own w0) t v σ H Q) tt tk tv own σ H Q := by
  obtain ⟨F, ρ, fps, hE, hG, hP⟩ := h
  refine ⟨F, ρ, fps, hE, hG, ?_⟩
  unfold gDc at hP
  cases ei : it ρ with
  | bad => rw [ei] at hP; exact hP
  | exc x ρ1 => rw [ei] at hP; exact hP
  | ok ds ρ1 =>
    simp only [ei] at hP
    intro J F1 H1 fps1 y hE1 hG1 c1 D nD
    split at hP
    rotate_left
    · exact hP.elim
    rename_i hb
    obtain ⟨gone, fps2, hE2, pm2⟩ := re_wipe (own := own) hE1
    have hG2 := (hG1.perm pm2).right
    have c2 : Rch F H fps F1 H1 fps2 := c1.sub fun a m => pm2.mem_iff.mpr (List.mem_append_right _ m)
    let fin : List (DK × VL.D) → Env → Prop := fun ys ρ' => Pst mg W σ (rD mg) F H fps (.ok (.dct true false ys) ρ') Q
    refine ⟨fun i m H' => m = ds.length - i ∧ i ≤ ds.length ∧ DcW mg σ own F1 H1 D F H fps big (dcGo t c ek ev own) fin (ds.drop i) H', ⟨ds.length, by simp, Nat.zero_le _, ?_⟩, ?_⟩
    · refine ⟨F1, ρ1, fps2, [], [], [], hE2.move (keeps_alloc nD F1 (fun _ f => f) hE2.own), upd_same, rfl, .nil, ⟨List.nodup_cons.mpr ⟨fun m => (hG2.own D (by simpa using m)).trk nD, by simpa using hG2.nd⟩, fun a m f => ?_, fun a f => trk_alloc hG2 a (.inl f), fun a m => ?_⟩, ⟨fun a f => ?_, fun a xs q => ?_⟩, fun _ f => f, ?_, by simpa using Nat.le_of_lt hb, ?_⟩
      · rcases List.mem_cons.mp m with rfl | m
        · exact hG2.trk a f nD
        · exact hG2.dis a (by simpa using m) f
      · rcases List.mem_cons.mp m with rfl | m
        · exact ⟨_, upd_same, fun _ z => nomatch z⟩
        · exact (hG2.own a (by simpa using m)).eq (upd_ne fun z => (hG2.own a (by simpa using m)).trk (by rw [z]; exact nD))
      · exact upd_ne fun z => hG2.trk a f (by rw [z]; exact nD)
      · rw [upd_ne (ne_of_none q nD)]; exact q
      · refine c2.trans (Rch.alloc nD F1 (fun _ f => f) (fun _ f => .inl f) fun a m => ?_)
        rcases List.mem_cons.mp m with rfl | m
        · exact .inr rfl
        · exact .inl (by simpa using m)
      · cases eg : dcGo t c ek ev own ds [] (forget own ρ1) with
        | ok ys ρ' =>
          simp only [eg] at hP
          simp only [List.drop_zero]
          rw [eg]
          exact hP
        | _ => simp only [eg] at hP; exact hP.elim
    · rintro i m H3 ⟨rfl, hi, F3, ρ3, fps3, kvs, ac, fa, hE3, hD3, hk3, ra3, hG3, lt3, mo3, c3, hn3, hf3⟩
      by_cases hlt : i < ds.length
      · have ed : ds.drop i = ds[i] :: ds.drop (i + 1) := List.drop_eq_getElem_cons hlt
        rw [ed] at hf3 hn3
        simp only [List.length_cons] at hn3
        refine .inr ⟨y.go H3 i lt3 hlt, fun H' => DcW mg σ own F1 H1 D F H fps big (dcGo t c ek ev own) fin (ds.drop (i + 1)) H', fun H' q => ⟨ds.length - (i + 1), by omega, rfl, hlt, q⟩, fun x H4 hy => ?_⟩
        obtain ⟨d, hd, rd, ext⟩ := y.yld H3 i x H4 lt3 hlt hy
        rw [List.getElem?_eq_getElem hlt] at hd
        cases hd
        have k34 : Keeps F3 F3 H3 H4 ((D :: fa) ++ fps3) := ⟨fun a f n => ⟨f, by
          cases q : H3 a with
          | none => exact absurd q n
          | some o => exact ext a o q⟩, fun a q => by
          obtain ⟨o, q2, _⟩ := hG3.own a q
          rw [q2]; exact ext a o q2, fun a xs q => ext a _ q⟩
        have hE4 := hE3.move (k34.sub fun a m => List.mem_append_right _ m)
        have ra4 := ra3.move (k34.sub fun a m => List.mem_append_left _ (List.mem_cons_of_mem _ m))
        have hD4 := ext D _ hD3
        have hG4 : Gd F3 H4 ((D :: fa) ++ fps3) := ⟨hG3.nd, hG3.dis, fun a f => by
          cases q : H3 a with
          | none => exact absurd q (hG3.trk a f)
          | some o => rw [ext a o q]; exact fun z => (nomatch z), fun a q => (hG3.own a q).eq (k34.ow a q)⟩
        have c34 : Rch F3 H3 ((D :: fa) ++ fps3) F3 H4 ((D :: fa) ++ fps3) := ⟨fun b o q _ => ext b o q, fun _ f => f, fun _ f => .inl f, fun _ q => .inl q⟩
        have lt4 : Later F1 H1 H4 := lt3.step mo3 hG3 c34
        have c4 := c3.trans c34
        have rd4 : R mg F3 H4 x ds[i] [] := rd.move ⟨fun a f _ => ⟨mo3 a f, rfl⟩, fun a q => (nomatch q), fun a xs q => q⟩
        unfold dcGo at hf3
        cases et : t ds[i] (forget own ρ3) with
        | nx ρ5 =>
          simp only [et] at hf3
          refine ⟨wipe σ own, F3, forget own ρ3, fps3, ds[i], [], rd4, hE4, by simpa using hG4.right, by
            show wipe (wipe σ own) own = wipe σ own
            exact wipe_idem, ?_⟩
          rw [et]
          intro σ5 F5 H5 fps5 hE5 hG5 hw5 c5
          have hw5 : wipe σ5 own = wipe σ own := hw5
          refine ⟨hw5, ?_⟩
          have c5' : Rch F3 H4 fps3 F5 H5 fps5 := by simpa using c5
          have g5 := hG4.carry c5' hG5
          have kD5 := c5'.keeps hG4
          have ra5 := ra4.move (kD5.sub fun a m => List.mem_cons_of_mem _ m)
          have hD5 : H5 D = some (.dK kvs) := (kD5.ow D List.mem_cons_self).trans hD4
          have cc5 := c4.carry c5'
          have lt5 : Later F1 H1 H5 := lt4.step mo3 hG4.right c5'
          have mo5 : ∀ a, F1 a → F5 a := fun a f => c5'.mono a (mo3 a f)
          refine htt _ _ _ ⟨F5, ρ5, fps5, hE5, g5.right, ?_⟩
          cases ec : c ρ5 with
          | bad => simp only [ec] at hf3
          | exc x1 ρ6 => simp only [ec] at hf3
          | ok b ρ6 =>
            simp only [ec] at hf3
            intro b' F6 H6 fb fps6 rb hE6 hG6 c6
            obtain ⟨rb1, rfl⟩ := rb
            subst rb1
            have hG6 : Gd F6 H6 fps6 := by simpa using hG6
            have c6 : Rch F5 H5 fps5 F6 H6 fps6 := by simpa using c6
            have g6 := g5.carry c6 hG6
            have kD6 := c6.keeps g5
            have ra6 := ra5.move (kD6.sub fun a m => List.mem_cons_of_mem _ m)
            have hD6 : H6 D = some (.dK kvs) := (kD6.ow D List.mem_cons_self).trans hD5
            have cc6 := cc5.carry c6
            have lt6 : Later F1 H1 H6 := lt5.step mo5 g5.right c6
            have mo6 : ∀ a, F1 a → F6 a := fun a f => c6.mono a (mo5 a f)
            cases b' with
            | false =>
              simp only [Bool.false_eq_true, if_false] at hf3 ⊢
              obtain ⟨gone7, fps7, hE7, pm7⟩ := re_rewipe hE6 hw5
              have pmw : ((D :: fa) ++ fps6).Perm (gone7 ++ ((D :: fa) ++ fps7)) := (List.Perm.append_left _ pm7).trans perm_mid
              exact ⟨F6, ρ6, fps7, kvs, ac, fa, hE7, hD6, hk3, ra6, (g6.perm pmw).right, lt6, mo6, cc6.sub fun a m => pmw.mem_iff.mpr (List.mem_append_right _ m), by omega, hf3⟩
            | true =>
              simp only [if_true] at hf3 ⊢
              cases ek1 : ek ρ6 with
              | bad => simp only [ek1] at hf3
              | exc x1 ρ7 => simp only [ek1] at hf3
              | ok kd ρ7 =>
                simp only [ek1] at hf3
                refine htk _ _ _ ⟨F6, ρ6, fps6, hE6, g6.right, ?_⟩
                rw [ek1]
                intro kv F7 H7 fk fps7 rk hE7 hG7 c7
                have g7 := g6.carry c7 hG7
                have kD7 := c7.keeps g6
                have ra7 := ra6.move (kD7.sub fun a m => List.mem_cons_of_mem _ m)
                have hD7 : H7 D = some (.dK kvs) := (kD7.ow D List.mem_cons_self).trans hD6
                have cc7 := cc6.carry c7
                have lt7 : Later F1 H1 H7 := lt6.step mo6 g6.right c7
                have mo7 : ∀ a, F1 a → F7 a := fun a f => c7.mono a (mo6 a f)
                cases ev1 : ev ρ7 with
                | bad => simp only [ev1] at hf3
                | exc x1 ρ8 => simp only [ev1] at hf3
                | ok vd ρ8 =>
                  simp only [ev1] at hf3
                  cases hdk : dkey kd with
                  | none => simp only [hdk] at hf3
                  | some dk =>
                  simp only [hdk] at hf3
                  by_cases hck : (dk.isK && (vd.fzd || !khas ac dk)) = true
                  rotate_left
                  · simp only [if_neg hck] at hf3
                  simp only [if_pos hck] at hf3
                  rw [Bool.and_eq_true] at hck
                  have pm7 : ((D :: fa) ++ (fk ++ fps7)).Perm (((D :: fa) ++ fk) ++ fps7) := by rw [List.append_assoc]
                  have g7' := g7.perm pm7
                  refine htv _ _ _ ⟨F7, ρ7, fps7, hE7, g7'.right, ?_⟩
                  rw [ev1]
                  intro vv F8 H8 fv fps8 rv hE8 hG8 c8
                  have g8 := g7'.carry c8 hG8
                  have kD8 := c8.keeps g7'
                  have ra8 := ra7.move (kD8.sub fun a m => List.mem_append_left _ (List.mem_cons_of_mem _ m))
                  have rk8 := rk.move (kD8.sub fun a m => List.mem_append_right _ m)
                  have hD8 : H8 D = some (.dK kvs) := (kD8.ow D (List.mem_append_left _ List.mem_cons_self)).trans hD7
                  have cc8 := (cc7.sub fun a m => pm7.mem_iff.mpr m).carry c8
                  have lt8 : Later F1 H1 H8 := lt7.step mo7 g7'.right c8
                  have mo8 : ∀ a, F1 a → F8 a := fun a f => c8.mono a (mo7 a f)
                  obtain ⟨gone9, fps9, hE9, pm9⟩ := re_rewipe hE8 hw5
                  have hlen : kvs.length = ac.length := by
                    have := congrArg List.length hk3
                    simpa using this
                  -- the key
                  obtain ⟨k0, rfl, rfl⟩ : ∃ k0, dk = DK.k k0 ∧ kv = kV k0 := by
                    cases rk <;> unfold dkey at hdk <;> first | (simp only [Option.some.injEq] at hdk; subst hdk; exact ⟨_, rfl, rfl⟩) | (simp at hdk; done) | skip
                    obtain ⟨ks, _, e2⟩ := Option.map_eq_some_iff.mp hdk
                    subst e2
                    exact absurd hck.1 (by simp [DK.isK])
                  refine ⟨kvs, k0, rfl, hD8, by have := big_line; omega, ?_⟩
                  have hkm : ((kvs.map fun p => (DK.k p.1, p.2)) : List (DK × V)).map (·.1) = ac.map (·.1) := by rw [List.map_map]; exact hk3
                  have ra8' : Rs mg F8 H8 (((kvs.map fun p => (DK.k p.1, p.2)) : List (DK × V)).map (·.2)) (ac.map (·.2)) fa := by rw [List.map_map]; exact ra8
                  obtain ⟨gone10, f10, h10, pm10⟩ := kput_rel (k := DK.k k0) hkm ra8' rv hck.2
                  have hfst := kput_fst (k := DK.k k0) (y := vv) (v := vd) hkm
                  rw [putK_map DK.k DK.k_inj, List.map_map] at h10 hfst
                  have pmw : (((D :: fa) ++ fk) ++ (fv ++ fps8)).Perm ((fk ++ (gone10 ++ gone9)) ++ ((D :: f10) ++ fps9)) := by
                    have q1 : (((D :: fa) ++ fk) ++ (fv ++ fps8)).Perm (fk ++ ((D :: fa) ++ (fv ++ fps8))) := by
                      rw [List.append_assoc]; exact perm_mid
                    have q2 : ((D :: fa) ++ (fv ++ fps8)).Perm (D :: ((fa ++ fv) ++ fps8)) := by simp
                    have q3 : (D :: ((fa ++ fv) ++ fps8)).Perm (D :: ((gone10 ++ f10) ++ (gone9 ++ fps9))) := (List.Perm.append pm10 pm9).cons D
                    have q4 : (D :: ((gone10 ++ f10) ++ (gone9 ++ fps9))).Perm ((gone10 ++ gone9) ++ ((D :: f10) ++ fps9)) := by
                      have z1 : ((gone10 ++ f10) ++ (gone9 ++ fps9)).Perm ((gone10 ++ gone9) ++ (f10 ++ fps9)) := by
                        rw [List.append_assoc, List.append_assoc]
                        exact List.Perm.append_left _ perm_mid
                      exact (z1.cons D).trans (List.perm_middle).symm
                    have q5 := q1.trans (List.Perm.append_left fk (q2.trans (q3.trans q4)))
                    rw [← List.append_assoc fk] at q5
                    exact q5
                  have g9 := (g8.perm pmw).right
                  have c9 := cc8.sub fun a (m : a ∈ (D :: f10) ++ fps9) => pmw.mem_iff.mpr (List.mem_append_right _ m)
                  obtain ⟨kp, gd, rc⟩ := own_upd (p := D) (o := .dK (putK kvs k0 vv)) (fp := f10 ++ fps9) (W2 := (D :: f10) ++ fps9) (g9.own D (List.mem_cons_self)) (by simpa using g9) (fun _ z => nomatch z) (fun a m => by simpa using m)
                  have gd := gd g9.nd
                  have nF : ¬ F1 D := fun f => (hG1.trk D f) nD
                  have lt9 : Later F1 H1 (upd H8 D (.dK (putK kvs k0 vv))) := ⟨fun a f => (upd_ne (show a ≠ D from fun z => nF (z ▸ f))).trans (lt8.fz a f), fun a xs q => by
                    rw [upd_ne (ne_of_none q nD)]; exact lt8.tp a xs q⟩
                  refine ⟨F8, ρ8, fps9, putK kvs k0 vv, kput ac (DK.k k0) vd, f10, hE9.move (kp.sub fun a m => List.mem_append_right _ m), upd_same, hfst, h10.move (kp.sub fun a m => List.mem_append_left _ m), gd, lt9, mo8, c9.trans (by simpa using rc), by have := kput_len ac (DK.k k0) vd; omega, hf3⟩
        | _ => simp only [et] at hf3
      · have ee : i = ds.length := by omega
        subst ee
        rw [List.drop_length] at hf3
        refine .inl ⟨y.stop H3 lt3, ?_⟩
        unfold dcGo at hf3
        have hf3 : Pst mg W σ (rD mg) F H fps (.ok (.dct true false ac) (forget own ρ3)) Q := hf3
        refine hf3 (.ref D) F3 H3 (D :: fa) fps3 (.dctO hD3 (.inl ⟨rfl, kvs, rfl, rfl⟩) ?_ ?_) (re_unwipe hE3) hG3 c3
        · rw [List.map_map]; exact hk3
        · rw [List.map_map]; exact ra3
theorem ve_dc {kx vx tg iter : Expr} {ifs : List Expr} {scope : Scope} {own : List (Str × Nat)} {pos : Pos} {it : M (List VL.D)} {t : VL.D → S} {c : M Bool} {ek ev : M VL.D} (hc : X.calm = true) (hN : X.N.Nodup) (hi : PI X tg iter (vI mg W it)) (ok : BlkOk X.N X.env.scope scope own)
    (hg : Blk X scope fun B => ∀ w0, PG B tg (vGp mg (Wp (own.map (·.2)) w0) t)) (ht : Blk X scope fun B => PTs B ifs (vT mg W0 c)) (hk : Blk X scope fun B => PE B kx (vE mg W0 ek)) (he : Blk X scope fun B => PE B vx (vE mg W0 ev)) (hs : ∀ x, foldedSetIterable iter X.env x = pure x := by intro _; rfl) :
    PE X (.DictComp kx vx [⟨tg, iter, ifs, 0⟩] scope pos) (vE mg W (gDc it t c ek ev (own.map (·.2)))) :=
  pe_imp (pe_dc hc hN hi ok (fun s H C cl fp => pg_vC (hg.ok s H C cl fp)) (fun s H C cl fp => ht.ok s H C cl fp) (fun s H C cl fp => hk.ok s H C cl fp) (fun s H C cl fp => he.ok s H C cl fp) hs) fun σ H Q h => dc_ok (fun _ _ _ z => z) (fun _ _ _ z => z) (fun _ _ _ z => z) h
theorem vs_setDc {i : Nat} {y : Str} {py : Pos} {kx vx tg iter : Expr} {ifs : List Expr} {scope : Scope} {own : List (Str × Nat)} {pos spos : Pos} {it : M (List VL.D)} {t : VL.D → S} {c : M Bool} {ek ev : M VL.D} (hc : X.calm = true) (hN : X.N.Nodup) (hy : X.N[i]? = some y) (hyl : X.env.scope.names.lookup y = some .local) (hu : i ∉ us)
    (hsw : swapsWith (.DictComp kx vx [⟨tg, iter, ifs, 0⟩] scope pos) (some (.Name y py)) spos.line X.env = pure true) (hi : PI X tg iter (vI mg W it)) (ok : BlkOk X.N X.env.scope scope own)
    (hg : Blk X scope fun B => ∀ w0, PG B tg (vGp mg (Wp (own.map (·.2)) w0) t)) (ht : Blk X scope fun B => PTs B ifs (vT mg W0 c)) (hk : Blk X scope fun B => PE B kx (vE mg W0 ek)) (he : Blk X scope fun B => PE B vx (vE mg W0 ev)) (hs : ∀ x, foldedSetIterable iter X.env x = pure x := by intro _; rfl) :
    PS X (.Assign [.Name y py] (.DictComp kx vx [⟨tg, iter, ifs, 0⟩] scope pos) spos) (vS mg W us vs (sSet i (gDc it t c ek ev (own.map (·.2))))) := by
  refine ⟨fun pins s σ H D I h => ?_⟩
  have h1 : tDc (vI mg W it) (fun v σ H Q => ∃ w0, vGp mg (Wp (own.map (·.2)) w0) t v σ H Q) (vT mg W0 c) (vE mg W0 ek) (vE mg W0 ev) (own.map (·.2)) σ H fun x H1 => D.nx (σ.set i (some x)) H1 :=
    dc_ok (fun _ _ _ z => z) (fun _ _ _ z => z) (fun _ _ _ z => z) (vS.bind (L := rD mg) h fun d ρ v F H' fp fps r hE hG hp hP => store_slot r hE hG hp hu hP)
  rw [exec_Assign_Name_used _ _ _ _ hsw, arm_evalThenUse_DictComp]
  apply wpAny_bind; apply wpAny_standAt; apply wpAny_bind; apply wpAny_bind
  apply thn (Q := fun _ s' => SP X pins D .next s')
  rotate_left
  · intro _ s' hq
    exact wpAny_pure (wpAny_pure hq)
  apply dc_core (own := own) hc hN I hi ok (fun s H C cl fp => pg_vC (hg.ok s H C cl fp)) (fun s H C cl fp => ht.ok s H C cl fp) (fun s H C cl fp => hk.ok s H C cl fp) (fun s H C cl fp => he.ok s H C cl fp) hs h1
  intro L C s' m H' I' q hn f
  show wpAny _ _ (assign (.Name y py) X.env (.ref L)) _ _ _
  apply wpAny_assign_Name
  apply store_ok2 (v := V.ref L) I' hN hy (.inl hyl) rfl _ (.inr hyl)
  rintro s2 I2 ⟨a, sb, ha⟩
  obtain ⟨f0, f1, f2, f3, f4, f5⟩ := f
  have ne : C ≠ a := ha.elim (fun z => by rw [z]; exact f1) fun z e => f4 y a z e.symm
  exact ⟨m, hn.sameBut sb ne, fun h3 sb3 => ⟨_, H', I2.turned (t' := s2.toks) (fun b o hb e => (sb3.2 b hb).trans e) f0 f1 f3 f4 f5, q⟩⟩
theorem sw_trueD {kx vx : Expr} {gs : List Comprehension} {scope : Scope} {pos py : Pos} {y : Str} {l : Nat} {env : PySem.Env} (hk : env.scope.kind = .function) (hy : env.scope.names.lookup y = some .local) (hl : (py.line == pos.line) = true)
    (ha : (scope.names.any fun (n, k) => n == y && (k == .local || k == .cell)) = false) : swapsWith (.DictComp kx vx gs scope pos) (some (.Name y py)) l env = pure true := by
  have k2 : env.kindOf y = some .local := hy
  have k3 : env.blockKind = .function := by unfold PySem.Env.blockKind; rw [hk]; rfl
  unfold swapsWith
  simp only [k3, k2, ha, Expr.pos, hl]
  rfl
end
end VL

set_option Elab.async false
set_option linter.all false
set_option maxRecDepth 100000
set_option maxHeartbeats 2000000
namespace VL
open PySem PySem.Spec PyProof.Rows L2
section
variable {mg : MG} {W : WX} {σ σ' : L2.St} {F F' F1 : FS} {H H' H1 H2 : Hp} {fp fps fq fa : List Addr} {X : Cx} {us : List Nat} {vs : List V} {own : List Nat}
/-! ### o.f = v where o is a slot -/
def putFD (f : Str) (v : VL.D) : List (Str × VL.D) → List (Str × VL.D)
  | [] => [(f, v)]
  | (g, x) :: r => if g = f then (g, v) :: r else (g, x) :: putFD f v r
theorem putF_rel {f : Str} {y : V} {v : VL.D} (ry : R mg F H y v []) : ∀ {l : List (Str × V)} {m : List (Str × VL.D)} {f1 : List Addr}, l.map (·.1) = m.map (·.1) → Rs mg F H (l.map (·.2)) (m.map (·.2)) f1 →
    ∃ gone f2, (putF f y l).map (·.1) = (putFD f v m).map (·.1) ∧ Rs mg F H ((putF f y l).map (·.2)) ((putFD f v m).map (·.2)) f2 ∧ f1.Perm (gone ++ f2)
  | [], [], _, _, .nil => ⟨[], [], rfl, .cons (fp := []) ry .nil, List.Perm.refl _⟩
  | (p, pv) :: l, (q, qd) :: m, _, e, .cons (fp := fa) (fps := fb) r rs => by
    simp only [List.map_cons, List.cons.injEq] at e
    obtain ⟨e1, e2⟩ := e
    subst e1
    by_cases c : p = f
    · refine ⟨fa, fb, ?_, ?_, List.Perm.refl _⟩
      · simp only [putF, putFD, c, if_true, List.map_cons, e2]
      · simp only [putF, putFD, c, if_true, List.map_cons]
        exact .cons (fp := []) ry rs
    · obtain ⟨gone, f2, h1, h2, h3⟩ := putF_rel (f := f) ry e2 rs
      refine ⟨gone, fa ++ f2, ?_, ?_, (List.Perm.append_left _ h3).trans perm_mid⟩
      · simp only [putF, putFD, c, if_false, List.map_cons, h1]
      · simp only [putF, putFD, c, if_false, List.map_cons]
        exact .cons r h2
  | [], _ :: _, _, e, _ => by cases e
  | _ :: _, [], _, e, _ => by cases e
def fSetF (f : Str) (cs : List Str) (d : VL.D) (ds : List VL.D) : Option (VL.D × VL.D) := match d, ds with
  | .ins true c fs, [v] => if cs.contains c && decide (fs.length < 1000) && v.fzd then some (.non, .ins true c (putFD f v fs)) else none
  | _, _ => none
def rSetF (K : PySem.W.Frag) (f : Str) : V → List V → Hp → VK → Prop := fun x vs H Q => ∃ y a C dx fs, vs = [y] ∧ x = .ref a ∧ H a = some (.ins C dx fs) ∧ Cls K C ∧ NoAttr K C f ∧ fs.length < 1000 ∧ Q .non (upd H a (.ins C dx (putF f y fs)))
theorem opm_setF {K : PySem.W.Frag} {f : Str} {cs : List Str} (hc : ∀ c ∈ cs, ∃ fs, ClsOk K mg c fs ∧ f ∈ fs) : OpM mg (rSetF K f) (fSetF f cs) := by
  intro F H fp fa v vs d ds res d' Q r rs g h K
  unfold fSetF at h
  split at h
  · rename_i c fs x
    split at h
    · rename_i hb
      simp only [Bool.and_eq_true, decide_eq_true_eq] at hb
      cases h
      cases r with
      | insO e em q r =>
        rename_i a C dx ws f0
        cases rs with
        | cons ry rn =>
          cases rn
          rename_i y fv
          obtain ⟨fs', ok, hf⟩ := hc c (by simpa using hb.1.1)
          have hl : ws.length = fs.length := by
            have := congrArg List.length q
            simpa using this
          refine ⟨y, a, C, dx, ws, rfl, rfl, e, ok.cl C em, ok.no C em f hf, by omega, ?_⟩
          have hfv : fv = [] := ry.fzd.mp hb.2
          subst hfv
          obtain ⟨gone, f2, h1, h2, h3⟩ := putF_rel (f := f) ry q r
          simp only [List.append_nil, List.append_eq] at g K
          have pin : a ∉ f0 := (List.nodup_cons.mp g.nd).1
          have mem : ∀ z ∈ f2, z ∈ f0 := fun z m => h3.mem_iff.mpr (List.mem_append_right gone m)
          have nd2 : f2.Nodup := (List.nodup_append.mp (h3.nodup_iff.mp (List.nodup_cons.mp g.nd).2)).2.1
          obtain ⟨kp, gd, rc⟩ := own_upd (p := a) (o := .ins C dx (putF f y ws)) (fp := f0) (W2 := a :: f2) (⟨_, e, fun _ z => nomatch z⟩ : Ow H a) g (fun _ z => nomatch z) fun z m => by
            rcases List.mem_cons.mp m with rfl | m
            · exact List.mem_cons_self
            · exact List.mem_cons_of_mem _ (mem z m)
          exact K .non F _ [] (a :: f2) .non (.insO upd_same em h1 (h2.move (kp.sub mem))) (gd (List.nodup_cons.mpr ⟨fun m => pin (mem a m), nd2⟩)) rc
    · cases h
  · cases h
def sSetF (i : Nat) (f : Str) (cs : List Str) (gv : M VL.D) : S := fun ρ0 => match ρ0[i]? with
  | some (some _) => sBind gv (fun v => putEnd i (fSetF f cs) [v]) ρ0
  | _ => .bad
theorem vs_setF {i : Nat} {x f : Str} {cs : List Str} {xp p pos : Pos} {e : Expr} {gv : M VL.D} (hc : ∀ c ∈ cs, ∃ fs, ClsOk X.K mg c fs ∧ f ∈ fs) (hx : PE X (.Name x xp) (tVar i)) (hv : PE X e (vE mg W gv)) (hs : swapsWith e (some (.Attribute (.Name x xp) f p)) pos.line X.env = pure false := by rfl) :
    PS X (.Assign [.Attribute (.Name x xp) f p] e pos) (vS mg W us vs (sSetF i f cs gv)) := by
  refine ps_imp (ps_fld hx hv hs) fun D σ H h => ?_
  obtain ⟨F, ρ, fps, hE, hG, hp, hP⟩ := h
  unfold sSetF at hP
  split at hP
  · rename_i d0 e0
    obtain ⟨o, fq, eo, _, _⟩ := hE.get e0
    have := vS.bind (L := rD mg) (T := fun y H1 => ∃ a C dx fs, o = .ref a ∧ H1 a = some (.ins C dx fs) ∧ Cls X.K C ∧ NoAttr X.K C f ∧ fs.length < 1000 ∧ D.nx σ (upd H1 a (.ins C dx (putF f y fs)))) (⟨F, ρ, fps, hE, hG, hp, hP⟩ : vS mg W us vs (sBind gv fun v => putEnd i (fSetF f cs) [v]) D σ H) fun d ρ x F H' fp fps r hE hG hp hP => by
      obtain ⟨y, a, C, dx, fs, ey, q⟩ := put_end' (ws := [x]) (opm_setF hc) (.cons r .nil) hE (by simpa using hG) hp (by simpa using hP) o eo
      cases ey
      exact ⟨a, C, dx, fs, q⟩
    exact vX.imp this fun v H1 q => ⟨o, eo, q⟩
  · exact hP.elim
/-! ### x += e by ints -/
def sAugI (i : Nat) (op : Int → Int → Int) (gv : M VL.D) : S := fun ρ0 => match ρ0[i]? with
  | some (some (.int a)) => sBind gv (fun d => match d with
    | .int b => setSlot i (.int (op a b))
    | _ => sNever) ρ0
  | _ => .bad
theorem vs_augI {i : Nat} {x : Str} {xp pos : Pos} {e : Expr} {op : Operator} {o : Int → Int → Int} {gv : M VL.D} (ip : PIp X op (ipI o)) (hN : X.N.Nodup) (hi : X.N[i]? = some x) (hx : Loc X.env.scope x) (he : PE X e (vE mg W gv)) (hu : i ∉ us) (hf : X.fn x = true ∨ X.env.scope.names.lookup x = some .local := by first | exact .inl rfl | exact .inr rfl) :
    PS X (.AugAssign (.Name x xp) op e pos) (vS mg W us vs (sAugI i o gv)) := by
  refine ps_imp (ps_aug hN hi hx he ip hf) fun D σ H h => ?_
  obtain ⟨F, ρ, fps, hE, hG, hp, hP⟩ := h
  unfold sAugI at hP
  split at hP
  · rename_i a e0
    obtain ⟨v, fq, ev, rv, _⟩ := hE.get e0
    cases rv
    refine ⟨.int a, ev, ?_⟩
    refine vS.bind (L := rD mg) (⟨F, ρ, fps, hE, hG, hp, hP⟩ : vS mg W us vs _ D σ H) fun d ρ y F H' fp fps r hE hG hp hP => ?_
    split at hP
    · rename_i b
      cases r
      exact ⟨a, b, rfl, rfl, store_slot (fp := []) (.int _) hE hG hp hu hP⟩
    · exact hP.elim
  · exact hP.elim
/-! ### {} -/
def gDict (t : Bool) : M VL.D := pure (.dct true t [])
theorem vE_new {d : VL.D} {o : HO} {Q : VK} (ho : ∀ xs, o ≠ .tup xs) (hr : ∀ (F : FS) (H : Hp) p, H p = some o → R mg F H (.ref p) d [p]) (h : vE mg W (pure d) σ H Q) : ∀ p, H p = none → Q (.ref p) (upd H p o) := by
  intro p hp
  obtain ⟨F, ρ, fps, hE, hG, hP⟩ := h
  refine hP (.ref p) F (upd H p o) [p] fps (hr _ _ _ upd_same) (hE.move (keeps_alloc hp F (fun _ f => f) hE.own)) ⟨List.nodup_cons.mpr ⟨fun m => (hG.own p m).trk hp, hG.nd⟩, fun a m f => ?_, fun a f => trk_alloc hG a (.inl f), fun a m => ?_⟩ ?_
  · rcases List.mem_cons.mp m with rfl | m
    · exact hG.trk a f hp
    · exact hG.dis a m f
  · rcases List.mem_cons.mp m with rfl | m
    · exact ⟨_, upd_same, ho⟩
    · exact (hG.own a m).eq (upd_ne fun z => (hG.own a m).trk (by rw [z]; exact hp))
  · refine Rch.alloc hp F (fun _ f => f) (fun _ f => .inl f) fun a m => ?_
    rcases List.mem_cons.mp m with rfl | m
    · exact .inr rfl
    · exact .inl m
theorem ve_dictK {pos : Pos} : PE X (.Dict [] [] pos) (vE mg W (gDict false)) := pe_imp pe_dnewK fun σ H Q h => vE_new (o := .dK []) (fun _ z => nomatch z) (fun F H p e => .dctO (kvs := []) e (.inl ⟨rfl, [], rfl, rfl⟩) rfl .nil) h
theorem ve_dictT {pos : Pos} : PE X (.Dict [] [] pos) (vE mg W (gDict true)) := pe_imp pe_dnewT fun σ H Q h => vE_new (o := .dT []) (fun _ z => nomatch z) (fun F H p e => .dctO (kvs := []) e (.inr ⟨rfl, [], rfl, rfl⟩) rfl .nil) h
end
/-! ### from a promise that lets no error out -/
theorem toCX0 {P : Program} {w : World} {K : PySem.W.Frag} {mg : Str → Option Value} {base : Heap} {k : Nat} {f : Addr} {fd : FuncData} {ps : List Str} {sp : Sp} (h : FnOk P w K mg base (L2.CX P w) k f fd ps sp) : FnOk P w K mg base CX0 k f fd ps (fun vs H Q _ => sp vs H Q fun _ _ _ => False) :=
  ⟨fun vs H Q E q => h.len vs H Q _ q, fun A outer s H args us vs Q E hr he hb hv hs => codeAny_mono (h.run A outer s H args us vs Q _ hr he hb hv hs) fun r s' c => by
    cases r with
    | ok f => cases f <;> exact c
    | error e =>
      obtain ⟨a, B, H', cls, d, _, _, _, _, _, _, _, z⟩ := c
      exact z.elim⟩
theorem fnok_imp {P : Program} {w : World} {K : PySem.W.Frag} {mg : Str → Option Value} {base : Heap} {CX : CXT} {k : Nat} {f : Addr} {fd : FuncData} {ps : List Str} {sp sp' : Sp} (h : FnOk P w K mg base CX k f fd ps sp) (i : ∀ vs H Q E, sp' vs H Q E → sp vs H Q E) : FnOk P w K mg base CX k f fd ps sp' :=
  ⟨fun vs H Q E q => h.len vs H Q E (i _ _ _ _ q), fun A outer s H args us vs Q E hr he hb hv hs => h.run A outer s H args us vs Q E hr he hb hv (i _ _ _ _ hs)⟩
/-- the law's call -/
theorem script_sp {mg : MG} {H : Hp} {a : Addr} {ns : List Int} {g : List D → Out} {as : List D} (hO : Only H) (hS : SqL mg.K H a (ns.map V.int)) (h : g [.scr ns] = .ret (.bl true) as) : spV mg g [.ref a] H (fun v _ => v = .bl true) fun _ _ _ => False := by
  refine ⟨fun b => H b ≠ none, [.scr ns], [], .cons (fp := []) (.scr ?_) .nil, ⟨List.nodup_nil, fun _ m => (nomatch m), fun _ f => f, fun _ m => (nomatch m)⟩, ?_⟩
  · rcases hS with q | q
    · exact .inr ⟨Rd.trk q, q⟩
    · exact .inl q
  · rw [h]
    intro v F' H' fp fps' r _ _ _
    cases r
    rfl
end VL
namespace VL
open PySem PySem.Spec PyProof.Rows L2
theorem hu64 {k : Nat} {A : Around} (hr : Room k A) : A.units + 64 < cLine := by have := hr.un; omega
theorem hu1 {k : Nat} {A : Around} (hr : Room k A) : A.units + 1 < cLine := by have := hr.un; omega
end VL

set_option Elab.async false
set_option linter.all false
set_option maxRecDepth 100000
set_option maxHeartbeats 2000000
namespace VL
open PySem PySem.Spec PyProof.Rows L2
/-! ### isinstance with built-in types -/
def kitTable : List (String × String × Bool) := ["NoneType", "bool", "int", "str", "tuple", "list", "dict"].flatMap fun a => ["int", "bool", "str", "tuple", "list", "dict"].map fun b => (a, b, isOne (.ty a) (.ty b))
theorem kitTable_ok : (kitTable.all fun r => decide (L2.kitB r.1 r.2.1 = some r.2.2)) = true := by decide +kernel
theorem kit_builtin {K : PySem.W.Frag} {a b : String} (ha : a ∈ ["NoneType", "bool", "int", "str", "tuple", "list", "dict"]) (hb : builtinT b = true) : PySem.W.kitOne K (.type a) (.type b) = some (isOne (.ty a) (.ty b)) := by
  refine L2.kit_ty (of_decide_eq_true (List.all_eq_true.mp kitTable_ok (a, b, isOne (.ty a) (.ty b)) ?_))
  unfold kitTable
  refine List.mem_flatMap.mpr ⟨a, ha, List.mem_map.mpr ⟨b, ?_, rfl⟩⟩
  unfold builtinT at hb
  simpa using hb
theorem isi_nil {K : PySem.W.Frag} {mg : MG} : IsiOk K mg [] where
  one := fun t u tv uv hu ht hn h1 h2 => by
    cases t with
    | cls c => exact absurd (ht c rfl) (by simp)
    | ty a =>
      cases u with
      | cls c => simp [okT] at hu
      | ty b =>
        have e1 : tv = .type a := h1
        have e2 : uv = .type b := h2
        rw [e1, e2]
        exact kit_builtin (hn a rfl) hu
  ins := fun c h => absurd h (by simp)
/-! ### the last of a target's forms -/
def NxBad (s : S) : Prop := ∀ ρ, match s ρ with | .nx _ => True | .bad => True | _ => False
theorem nb_set {i : Nat} {d : D} : NxBad (setSlot i d) := fun ρ => by
  unfold setSlot
  cases decEq (decide (i < ρ.length)) true with
  | isTrue h => rw [if_pos (of_decide_eq_true h)]; trivial
  | isFalse h => rw [if_neg (fun q => h (decide_eq_true q))]; trivial
theorem nb_never : NxBad sNever := fun _ => trivial
theorem nb_pass : NxBad sPass := fun _ => trivial
theorem nb_seq {a b : S} (ha : NxBad a) (hb : NxBad b) : NxBad (sSeq a b) := fun ρ => by
  unfold sSeq
  have h := ha ρ
  cases e : a ρ with
  | nx ρ' => exact hb ρ'
  | bad => trivial
  | _ => rw [e] at h; exact h.elim
theorem nb_nil {ds : List D} : NxBad (tNil0 ds) := by
  cases ds with
  | nil => exact nb_pass
  | cons _ _ => exact nb_never
theorem nb_cons {t : D → S} {ts : List D → S} (h1 : ∀ d, NxBad (t d)) (h2 : ∀ ds, NxBad (ts ds)) (ds : List D) : NxBad (tCons0 t ts ds) := by
  cases ds with
  | nil => exact nb_never
  | cons d r => exact nb_seq (h1 d) (h2 r)
theorem nb_tup {n : Nat} {ts : List D → S} (h : ∀ ds, NxBad (ts ds)) (d : D) : NxBad (tTupN n ts d) := by
  cases d with
  | tup ds =>
    show NxBad (if ds.length = n then ts ds else sNever)
    split
    · exact h ds
    · exact nb_never
  | lst o ds =>
    show NxBad (if ds.length = n then ts ds else sNever)
    split
    · exact h ds
    · exact nb_never
  | _ => exact nb_never
end VL

set_option Elab.async false
set_option linter.all false
set_option maxRecDepth 100000
set_option maxHeartbeats 2000000
namespace VL
open PySem PySem.Spec PyProof.Rows L2
/-! ### readings run step by step: what is behind waits until what is ahead is done -/
/-- what is behind stands still while what is ahead is worked on: simp goes not into what a type names -/
inductive Wit {α : Sort _} (f : α) : Type | mk
def Ev.th {α β : Type} (x : Ev α) (f : α → Env → Ev β) (_w : Wit f := .mk) : Ev β := match x with
  | .ok a ρ => f a ρ
  | .exc e ρ => .exc e ρ
  | .bad => .bad
def Ev.tS {α : Type} (x : Ev α) (f : α → Env → SR) (_w : Wit f := .mk) : SR := match x with
  | .ok a ρ => f a ρ
  | .exc e ρ => .exc e ρ
  | .bad => .bad
def SR.th (x : SR) (f : Env → SR) (_w : Wit f := .mk) : SR := match x with
  | .nx ρ => f ρ
  | r => r
theorem Ev.th_cg {α β : Type} {x : Ev α} {f g : α → Env → Ev β} (h : f = g) : x.th f = x.th g := by rw [h]
theorem Ev.tS_cg {α : Type} {x : Ev α} {f g : α → Env → SR} (h : f = g) : x.tS f = x.tS g := by rw [h]
theorem SR.th_cg {x : SR} {f g : Env → SR} (h : f = g) : x.th f = x.th g := by rw [h]
theorem th_ok {α β : Type} {a : α} {ρ : Env} {f : α → Env → Ev β} : (Ev.ok a ρ).th f = f a ρ := rfl
theorem th_exc {α β : Type} {a : Ex} {ρ : Env} {f : α → Env → Ev β} : (Ev.exc a ρ).th f = .exc a ρ := rfl
theorem tS_ok {α : Type} {a : α} {ρ : Env} {f : α → Env → SR} : (Ev.ok a ρ).tS f = f a ρ := rfl
theorem tS_exc {α : Type} {a : Ex} {ρ : Env} {f : α → Env → SR} : (Ev.exc a ρ).tS f = .exc a ρ := rfl
theorem sth_nx {ρ : Env} {f : Env → SR} : (SR.nx ρ).th f = f ρ := rfl
theorem sth_rt {d : D} {ρ : Env} {f : Env → SR} : (SR.rt d ρ).th f = .rt d ρ := rfl
theorem sth_bk {ρ : Env} {f : Env → SR} : (SR.bk ρ).th f = .bk ρ := rfl
theorem sth_ct {ρ : Env} {f : Env → SR} : (SR.ct ρ).th f = .ct ρ := rfl
theorem sth_exc {e : Ex} {ρ : Env} {f : Env → SR} : (SR.exc e ρ).th f = .exc e ρ := rfl
/-- a pure step -/
def opt {α : Type} (o : Option α) (ρ : Env) : Ev α := match o with
  | some a => .ok a ρ
  | none => .bad
theorem opt_some {α : Type} {a : α} {ρ : Env} : opt (some a) ρ = .ok a ρ := rfl
theorem bind_th {α β : Type} (m : M α) (f : α → M β) (ρ : Env) : (m >>= f) ρ = (m ρ).th f := rfl
/-- the value of an operand -/
def Ar.at (a : Ar) (ρ : Env) : Option D := match a with
  | .val d => some d
  | .slot i => (ρ[i]?).join
theorem at_val {d : D} {ρ : Env} : (Ar.val d).at ρ = some d := rfl
theorem at_slot {i : Nat} {ρ : Env} : (Ar.slot i).at ρ = (ρ[i]?).join := rfl
theorem get_at {a : Ar} {ρ : Env} : a.get ρ = opt (a.at ρ) ρ := by
  cases a with
  | val d => rfl
  | slot i =>
    show (match ρ[i]? with | some (some d) => Ev.ok d ρ | _ => .bad) = opt ((ρ[i]?).join) ρ
    cases ρ[i]? with
    | none => rfl
    | some s => cases s <;> rfl
section
variable {ρ : Env}
theorem ev_gC {d : D} : gC d ρ = .ok d ρ := rfl
theorem ev_gVar {i : Nat} : gVar i ρ = (opt (ρ[i]?).join ρ).th fun d ρ => .ok d.fz (ρ.set i (some d.fz)) := by
  unfold gVar
  cases ρ[i]? with
  | none => rfl
  | some s => cases s <;> rfl
theorem ev_gMove {i : Nat} : gMove i ρ = (opt (ρ[i]?).join ρ).th fun d ρ => .ok d (ρ.set i none) := by
  unfold gMove
  cases ρ[i]? with
  | none => rfl
  | some s => cases s <;> rfl
theorem ev_oVar {i : Nat} : oVar i ρ = (opt (ρ[i]?).join ρ).th fun _ ρ => .ok (.slot i) ρ := by
  unfold oVar
  cases ρ[i]? with
  | none => rfl
  | some s => cases s <;> rfl
theorem ev_oEx {g : M D} : oEx g ρ = (g ρ).th fun d ρ => .ok (.val d) ρ := rfl
theorem ev_gFz {g : M D} : gFz g ρ = (g ρ).th fun d ρ => .ok d.fz ρ := rfl
theorem ev_aNil : aNil ρ = .ok [] ρ := rfl
theorem ev_aCons {o : M Ar} {r : M (List Ar)} : aCons o r ρ = (o ρ).th fun a ρ => (r ρ).th fun as ρ => .ok (a :: as) ρ := rfl
theorem ev_op1 {f : D → Option D} {o : M Ar} : gOp1 f o ρ = (o ρ).th fun a ρ => (opt (a.at ρ) ρ).th fun d ρ => opt (f d) ρ := by
  show (o ρ).th (fun a => a.get >>= fun d => lift (f d)) = _
  cases o ρ with
  | ok a ρ1 => show (a.get ρ1).th _ = (opt (a.at ρ1) ρ1).th _; rw [get_at]; rfl
  | exc _ _ => rfl
  | bad => rfl
theorem ev_op2 {f : D → D → Option D} {o1 o2 : M Ar} : gOp2 f o1 o2 ρ = (o1 ρ).th fun a ρ => (o2 ρ).th fun b ρ => (opt (a.at ρ) ρ).th fun x ρ => (opt (b.at ρ) ρ).th fun y ρ => opt (f x y) ρ := by
  show ((o1 ρ).th fun a ρ => (o2 ρ).th fun b ρ => Ev.ok (a, b) ρ).th (fun p ρ => (p.1.get ρ).th fun x ρ => (p.2.get ρ).th fun y ρ => lift (f x y) ρ) = _
  cases o1 ρ with
  | ok a ρ1 =>
    show ((o2 ρ1).th fun b ρ => Ev.ok (a, b) ρ).th _ = (o2 ρ1).th _
    cases o2 ρ1 with
    | ok b ρ2 => show (a.get ρ2).th _ = (opt (a.at ρ2) ρ2).th _; rw [get_at]; refine Ev.th_cg ?_; funext x ρ; rw [get_at]; rfl
    | exc _ _ => rfl
    | bad => rfl
  | exc _ _ => rfl
  | bad => rfl
/-- the values of operands -/
def atAll : List Ar → Env → Option (List D)
  | [], _ => some []
  | a :: as, ρ => (a.at ρ).bind fun d => (atAll as ρ).map (d :: ·)
theorem getAll_at : ∀ {as : List Ar} {ρ : Env}, getAll as ρ = opt (atAll as ρ) ρ
  | [], _ => rfl
  | a :: as, ρ => by
    show (a.get ρ).th (fun d ρ => (getAll as ρ).th fun ds ρ => .ok (d :: ds) ρ) = opt ((a.at ρ).bind fun d => (atAll as ρ).map (d :: ·)) ρ
    rw [get_at]
    cases a.at ρ with
    | none => rfl
    | some d =>
      show (getAll as ρ).th _ = opt ((atAll as ρ).map (d :: ·)) ρ
      rw [getAll_at]
      cases atAll as ρ <;> rfl
theorem atAll_nil : atAll [] ρ = some [] := rfl
theorem atAll_cons {a : Ar} {as : List Ar} : atAll (a :: as) ρ = (a.at ρ).bind fun d => (atAll as ρ).map (d :: ·) := rfl
theorem ev_callB {f : List D → Option D} {a : M (List Ar)} : gCallB f a ρ = (a ρ).th fun as ρ => (opt (atAll as ρ) ρ).th fun ds ρ => opt (f ds) ρ := by
  show (a ρ).th (fun as ρ => (getAll as ρ).th fun ds ρ => lift (f ds) ρ) = _
  refine Ev.th_cg ?_
  funext as ρ
  rw [getAll_at]; rfl
theorem vals_nil : vals [] = some [] := rfl
theorem vals_cons {d : D} {as : List Ar} : vals (.val d :: as) = (vals as).map (d :: ·) := rfl
theorem ev_lst {a : M (List Ar)} : gLst a ρ = (a ρ).th fun as ρ => (opt (vals as) ρ).th fun ds ρ => if ds.length < big then .ok (.lst true ds) ρ else .bad := by
  show (a ρ).th (fun as ρ => lift _ ρ) = _
  first | refine Ev.th_cg ?_ | refine Ev.tS_cg ?_ | refine SR.th_cg ?_
  funext as ρ
  cases vals as with
  | none => rfl
  | some ds =>
    show lift (if ds.length < big then some (D.lst true ds) else none) ρ = if ds.length < big then Ev.ok (D.lst true ds) ρ else Ev.bad
    split <;> rfl
theorem ev_tup {a : M (List Ar)} : gTuple a ρ = (a ρ).th fun as ρ => (opt (vals as) ρ).th fun ds ρ => if fzdL ds = true then (if ds.length < big then .ok (.tup ds) ρ else .bad) else .bad := by
  show (a ρ).th (fun as ρ => lift _ ρ) = _
  first | refine Ev.th_cg ?_ | refine Ev.tS_cg ?_ | refine SR.th_cg ?_
  funext as ρ
  cases vals as with
  | none => rfl
  | some ds =>
    show lift (if (fzdL ds && decide (ds.length < big)) = true then some (D.tup ds) else none) ρ = if fzdL ds = true then (if ds.length < big then Ev.ok (D.tup ds) ρ else Ev.bad) else Ev.bad
    by_cases c : fzdL ds = true
    · by_cases c2 : ds.length < big
      · simp [c, c2, lift]
      · simp [c, c2, lift]
    · simp [c, lift]
theorem ev_fld {f : Str} {cs : List Str} {o : M Ar} : gFld f cs o ρ = (o ρ).th fun a ρ => (opt (a.at ρ) ρ).th fun d ρ => opt (fFldC f cs d) ρ := ev_op1
theorem ev_sl {o : M Ar} {lo hi : M (Option Int)} : gSl o lo hi ρ = (o ρ).th fun a ρ => (lo ρ).th fun l ρ => (hi ρ).th fun u ρ => (opt (a.at ρ) ρ).th fun d ρ => opt (fSl l u d) ρ := by
  show ((o ρ).th fun a ρ => ((lo ρ).th fun l ρ => (hi ρ).th fun u ρ => Ev.ok (l, u) ρ).th fun p ρ => Ev.ok (a, p) ρ).th (fun q ρ => (q.1.get ρ).th fun d ρ => lift (fSl q.2.1 q.2.2 d) ρ) = _
  cases o ρ with
  | ok a ρ1 =>
    show (((lo ρ1).th fun l ρ => (hi ρ).th fun u ρ => Ev.ok (l, u) ρ).th fun p ρ => Ev.ok (a, p) ρ).th _ = (lo ρ1).th _
    cases lo ρ1 with
    | ok l ρ2 =>
      show (((hi ρ2).th fun u ρ => Ev.ok (l, u) ρ).th fun p ρ => Ev.ok (a, p) ρ).th _ = (hi ρ2).th _
      cases hi ρ2 with
      | ok u ρ3 => show (a.get ρ3).th _ = (opt (a.at ρ3) ρ3).th _; rw [get_at]; rfl
      | exc _ _ => rfl
      | bad => rfl
    | exc _ _ => rfl
    | bad => rfl
  | exc _ _ => rfl
  | bad => rfl
theorem ev_pNone : pNone ρ = .ok none ρ := rfl
theorem ev_pInt {g : M D} : pInt g ρ = (g ρ).th fun d ρ => match d with
  | .int i => .ok (some i) ρ
  | _ => .bad := by
  show (g ρ).th _ = _
  first | refine Ev.th_cg ?_ | refine Ev.tS_cg ?_ | refine SR.th_cg ?_
  funext d ρ
  cases d <;> rfl
theorem ev_tVal {g : M D} : tVal g ρ = (g ρ).th fun d ρ => match d with
  | .bl b => .ok b ρ
  | _ => .bad := by
  show (g ρ).th _ = _
  first | refine Ev.th_cg ?_ | refine Ev.tS_cg ?_ | refine SR.th_cg ?_
  funext d ρ
  cases d <;> rfl
theorem ev_tTru {o : M Ar} : tTru o ρ = (o ρ).th fun a ρ => (opt (a.at ρ) ρ).th fun d ρ => opt d.truth ρ := by
  show (o ρ).th (fun a ρ => (a.get ρ).th fun d ρ => lift d.truth ρ) = _
  refine Ev.th_cg ?_
  funext a ρ
  rw [get_at]; rfl
theorem ev_and {a b : M Bool} : tAndM a b ρ = (a ρ).th fun c ρ => if c = true then b ρ else .ok false ρ := by
  show (a ρ).th _ = _
  first | refine Ev.th_cg ?_ | refine Ev.tS_cg ?_ | refine SR.th_cg ?_
  funext c ρ
  cases c <;> rfl
theorem ev_or {a b : M Bool} : tOrM a b ρ = (a ρ).th fun c ρ => if c = true then .ok true ρ else b ρ := by
  show (a ρ).th _ = _
  first | refine Ev.th_cg ?_ | refine Ev.tS_cg ?_ | refine SR.th_cg ?_
  funext c ρ
  cases c <;> rfl
theorem ev_not {a : M Bool} : tNotM a ρ = (a ρ).th fun c ρ => .ok (!c) ρ := rfl
theorem ev_yes : tYesM ρ = .ok true ρ := rfl
theorem ev_andV {a b : M D} : gAndV a b ρ = (a ρ).th fun d ρ => match d with
  | .bl true => b ρ
  | .bl false => .ok (.bl false) ρ
  | _ => .bad := by
  show (a ρ).th _ = _
  first | refine Ev.th_cg ?_ | refine Ev.tS_cg ?_ | refine SR.th_cg ?_
  funext d ρ
  cases d with
  | bl c => cases c <;> rfl
  | _ => rfl
theorem ev_orV {a b : M D} : gOrV a b ρ = (a ρ).th fun d ρ => match d with
  | .bl true => .ok (.bl true) ρ
  | .bl false => b ρ
  | _ => .bad := by
  show (a ρ).th _ = _
  first | refine Ev.th_cg ?_ | refine Ev.tS_cg ?_ | refine SR.th_cg ?_
  funext d ρ
  cases d with
  | bl c => cases c <;> rfl
  | _ => rfl
theorem ev_notV {a : M D} : gNotV a ρ = (a ρ).th fun d ρ => match d with
  | .bl c => .ok (.bl (!c)) ρ
  | _ => .bad := by
  show (a ρ).th _ = _
  first | refine Ev.th_cg ?_ | refine Ev.tS_cg ?_ | refine SR.th_cg ?_
  funext d ρ
  cases d <;> rfl
theorem ev_ife {c : M Bool} {a b : M D} : gIfE c a b ρ = (c ρ).th fun t ρ => if t = true then a ρ else b ρ := by
  show (c ρ).th _ = _
  first | refine Ev.th_cg ?_ | refine Ev.tS_cg ?_ | refine SR.th_cg ?_
  funext c ρ
  cases c <;> rfl
def chainR (f' : D → D → Option D) (c : M Ar) (y : Ar) (d : D) : M D := match d with
  | .bl true => c >>= fun z => y.get >>= fun v => z.get >>= fun w => lift (f' v w)
  | .bl false => pure (.bl false)
  | _ => fail
theorem chainR_t {f' : D → D → Option D} {c : M Ar} {y : Ar} : chainR f' c y (.bl true) ρ = (c ρ).th fun z ρ => (opt (y.at ρ) ρ).th fun v ρ => (opt (z.at ρ) ρ).th fun w ρ => opt (f' v w) ρ := by
  show (c ρ).th (fun z ρ => (y.get ρ).th fun v ρ => (z.get ρ).th fun w ρ => lift (f' v w) ρ) = _
  refine Ev.th_cg ?_
  funext z ρ
  rw [get_at]
  refine Ev.th_cg ?_
  funext v ρ
  rw [get_at]; rfl
theorem chainR_f {f' : D → D → Option D} {c : M Ar} {y : Ar} : chainR f' c y (.bl false) ρ = .ok (.bl false) ρ := rfl
theorem ev_chain {f f' : D → D → Option D} {a b c : M Ar} : gChain f f' a b c ρ = (a ρ).th fun x ρ => (b ρ).th fun y ρ => (opt (x.at ρ) ρ).th fun v ρ => (opt (y.at ρ) ρ).th fun w ρ => (opt (f v w) ρ).th fun d ρ => chainR f' c y d ρ := by
  show ((a ρ).th fun x ρ => (b ρ).th fun y ρ => Ev.ok (x, y) ρ).th _ = _
  cases a ρ with
  | ok x ρ1 =>
    show ((b ρ1).th fun y ρ => Ev.ok (x, y) ρ).th _ = (b ρ1).th _
    cases b ρ1 with
    | ok y ρ2 =>
      show (x.get ρ2).th _ = (opt (x.at ρ2) ρ2).th _
      rw [get_at]
      cases x.at ρ2 with
      | none => rfl
      | some v =>
        show (y.get ρ2).th _ = (opt (y.at ρ2) ρ2).th _
        rw [get_at]
        cases y.at ρ2 with
        | none => rfl
        | some w =>
          show (match f v w with
            | some (.bl true) => c >>= fun z => y.get >>= fun y' => z.get >>= fun z' => lift (f' y' z')
            | some (.bl false) => pure (.bl false)
            | _ => fail : M D) ρ2 = (opt (f v w) ρ2).th _
          cases f v w with
          | none => rfl
          | some d =>
            cases d with
            | bl k => cases k <;> rfl
            | _ => rfl
    | exc _ _ => rfl
    | bad => rfl
  | exc _ _ => rfl
  | bad => rfl
theorem ev_gDict {t : Bool} : gDict t ρ = .ok (.dct true t []) ρ := rfl
/-! ### statements -/
theorem es_seq {a b : S} : sSeq a b ρ = (a ρ).th b := by
  unfold sSeq
  cases a ρ <;> rfl
theorem es_bind {α : Type} {g : M α} {k : α → S} : sBind g k ρ = (g ρ).tS k := by
  unfold sBind
  cases g ρ <;> rfl
theorem es_pass : sPass ρ = .nx ρ := rfl
theorem es_break : sBreak ρ = .bk ρ := rfl
theorem es_cont : sCont ρ = .ct ρ := rfl
theorem es_ret {g : M D} : sRet g ρ = (g ρ).tS fun d ρ => .rt d ρ := es_bind
theorem es_retN : sRetN ρ = .rt .non ρ := rfl
theorem es_expr {g : M D} : sExpr g ρ = (g ρ).tS fun _ ρ => .nx ρ := es_bind
theorem es_if {c : M Bool} {a b : S} : sIf c a b ρ = (c ρ).tS fun t ρ => if t = true then a ρ else b ρ := by
  unfold sIf
  rw [es_bind]
  first | refine Ev.th_cg ?_ | refine Ev.tS_cg ?_ | refine SR.th_cg ?_
  funext t ρ
  cases t <;> rfl
theorem es_setSlot {i : Nat} {d : D} : setSlot i d ρ = if i < ρ.length then .nx (ρ.set i (some d)) else .bad := rfl
theorem es_set {i : Nat} {g : M D} : sSet i g ρ = (g ρ).tS (setSlot i) := es_bind
theorem es_for {it : M (List D)} {t : D → S} {body : S} {fg : List Nat} : sFor it t body fg ρ = (it ρ).tS (loopS t body fg) := es_bind
theorem es_asg {t : D → S} {g : M D} : sAsg t g ρ = (g ρ).tS t := es_bind
/-- the store into a slot's object -/
theorem es_putEnd {i : Nat} {f : D → List D → Option (D × D)} {ds : List D} : putEnd i f ds ρ = (opt (ρ[i]?).join ρ).tS fun d ρ => (opt (f d ds) ρ).tS fun p ρ => .nx (ρ.set i (some p.2)) := by
  unfold putEnd
  cases ρ[i]? with
  | none => rfl
  | some s =>
    cases s with
    | none => rfl
    | some d =>
      show (match f d ds with | some (_, d') => SR.nx (ρ.set i (some d')) | none => .bad) = (opt (f d ds) ρ).tS _
      cases f d ds <;> rfl
theorem es_put {i : Nat} {gv gk : M D} : sPut i gv gk ρ = (opt (ρ[i]?).join ρ).tS fun d0 ρ => (gv ρ).tS fun v ρ => (gk ρ).tS fun k ρ => putEnd i (fPut (isLstO d0)) [k, v] ρ := by
  unfold sPut
  cases ρ[i]? with
  | none => rfl
  | some s =>
    cases s with
    | none => rfl
    | some d =>
      show sBind (gv >>= fun v => gk >>= fun k => pure (v, k)) _ ρ = (gv ρ).tS _
      rw [es_bind]
      show ((gv ρ).th fun v ρ => (gk ρ).th fun k ρ => Ev.ok (v, k) ρ).tS _ = _
      cases gv ρ with
      | ok v ρ1 =>
        show ((gk ρ1).th fun k ρ => Ev.ok (v, k) ρ).tS _ = (gk ρ1).tS _
        cases gk ρ1 <;> rfl
      | exc _ _ => rfl
      | bad => rfl
theorem es_setF {i : Nat} {f : Str} {cs : List Str} {gv : M D} : sSetF i f cs gv ρ = (opt (ρ[i]?).join ρ).tS fun _ ρ => (gv ρ).tS fun v ρ => putEnd i (fSetF f cs) [v] ρ := by
  unfold sSetF
  cases ρ[i]? with
  | none => rfl
  | some s =>
    cases s with
    | none => rfl
    | some d => exact es_bind
theorem es_mut {T : String} {i : Nat} {f : D → List D → Option (D × D)} {a : M (List Ar)} : gMut T i f a ρ = (opt (ρ[i]?).join ρ).th fun d0 ρ => if isT T d0 = true then (a ρ).th fun as ρ => (opt (ρ[i]?).join ρ).th fun d ρ => (opt (vals as) ρ).th fun ds ρ => (opt (f d ds) ρ).th fun p ρ => .ok p.1 (ρ.set i (some p.2)) else .bad := by
  unfold gMut
  cases e : ρ[i]? with
  | none => rfl
  | some s =>
    cases s with
    | none => rfl
    | some d0 =>
      show (if isT T d0 = true then _ else Ev.bad) = if isT T d0 = true then _ else Ev.bad
      split
      · show (a ρ).th _ = (a ρ).th _
        first | refine Ev.th_cg ?_ | refine Ev.tS_cg ?_ | refine SR.th_cg ?_
        funext as ρ1
        cases ρ1[i]? with
        | none => rfl
        | some s =>
          cases s with
          | none => rfl
          | some d =>
            show (match vals as with | some ds => (match f d ds with | some (res, d') => Ev.ok res (ρ1.set i (some d')) | none => .bad) | none => .bad) = (opt (vals as) ρ1).th _
            cases vals as with
            | none => rfl
            | some ds =>
              show (match f d ds with | some (res, d') => Ev.ok res (ρ1.set i (some d')) | none => .bad) = (opt (f d ds) ρ1).th _
              cases f d ds <;> rfl
      · rfl
theorem es_mut0 {T : String} {i : Nat} {f : D → List D → Option (D × D)} : gMut0 T i f ρ = (opt (ρ[i]?).join ρ).th fun d ρ => if isT T d = true then (opt (f d []) ρ).th fun p ρ => .ok p.1 (ρ.set i (some p.2)) else .bad := by
  unfold gMut0
  cases e : ρ[i]? with
  | none => rfl
  | some s =>
    cases s with
    | none => rfl
    | some d =>
      show (if isT T d = true then _ else Ev.bad) = if isT T d = true then _ else Ev.bad
      split
      · show (match f d [] with | some (res, d') => Ev.ok res (ρ.set i (some d')) | none => .bad) = (opt (f d []) ρ).th _
        cases f d [] <;> rfl
      · rfl
theorem es_augI {i : Nat} {op : Int → Int → Int} {gv : M D} : sAugI i op gv ρ = (opt (ρ[i]?).join ρ).tS fun d ρ => match d with
  | .int a => (gv ρ).tS fun d ρ => match d with
    | .int b => setSlot i (.int (op a b)) ρ
    | _ => .bad
  | _ => .bad := by
  unfold sAugI
  cases ρ[i]? with
  | none => rfl
  | some s =>
    cases s with
    | none => rfl
    | some d =>
      cases d with
      | int a =>
        show sBind gv _ ρ = (gv ρ).tS _
        rw [es_bind]
        first | refine Ev.th_cg ?_ | refine Ev.tS_cg ?_ | refine SR.th_cg ?_
        funext d ρ
        cases d <;> rfl
      | _ => rfl
/-! ### walks -/
theorem ei_seq {g : M D} : iSeq g ρ = (g ρ).th fun d ρ => opt (seqOf d) ρ := rfl
def rng1 (d : D) : M (List D) := match d with
  | .int j => if within 4611686018427387904 j then pure (upTo 0 j.toNat) else fail
  | _ => fail
theorem ei_range1 {g : M D} : iRange1 g ρ = (g ρ).th rng1 := rfl
theorem rng1_ok {j : Int} (h : j.natAbs < 1000000000) : rng1 (.int j) ρ = .ok (upTo 0 j.toNat) ρ := by
  show (if within 4611686018427387904 j = true then pure (upTo 0 j.toNat) else fail : M _) ρ = _
  rw [if_pos (within_iff.mpr (by omega))]
  rfl
def rng2 (p : D × D) : M (List D) := match p.1, p.2 with
  | .int i, .int j => if within 4611686018427387904 i && within 4611686018427387904 j then pure (upTo i (j - i).toNat) else fail
  | _, _ => fail
theorem ei_range2 {g g2 : M D} : iRange2 g g2 ρ = (g ρ).th fun d ρ => (g2 ρ).th fun e ρ => rng2 (d, e) ρ := by
  show ((g ρ).th fun d ρ => (g2 ρ).th fun e ρ => Ev.ok (d, e) ρ).th rng2 = _
  cases g ρ with
  | ok d ρ1 =>
    show ((g2 ρ1).th fun e ρ => Ev.ok (d, e) ρ).th _ = (g2 ρ1).th _
    cases g2 ρ1 <;> rfl
  | exc _ _ => rfl
  | bad => rfl
theorem rng2_ok {i j : Int} (h : i.natAbs < 1000000000) (h2 : j.natAbs < 1000000000) : rng2 (.int i, .int j) ρ = .ok (upTo i (j - i).toNat) ρ := by
  show (if (within 4611686018427387904 i && within 4611686018427387904 j) = true then pure (upTo i (j - i).toNat) else fail : M _) ρ = _
  rw [if_pos (by rw [within_iff.mpr (show i.natAbs < _ by omega), within_iff.mpr (show j.natAbs < _ by omega)]; rfl)]
  rfl
theorem ei_zip {g g2 : M D} : iZip g g2 ρ = (g ρ).th fun d ρ => (g2 ρ).th fun e ρ => match d, e with
  | .lst _ xs, .lst _ ys => .ok (zipD (fzL xs) (fzL ys)) ρ
  | .tup xs, .tup ys => .ok (zipD (fzL xs) (fzL ys)) ρ
  | _, _ => .bad := by
  show ((g ρ).th fun d ρ => (g2 ρ).th fun e ρ => Ev.ok (d, e) ρ).th _ = _
  cases g ρ with
  | ok d ρ1 =>
    show ((g2 ρ1).th fun e ρ => Ev.ok (d, e) ρ).th _ = (g2 ρ1).th _
    cases g2 ρ1 with
    | ok e ρ2 => cases d <;> cases e <;> rfl
    | exc _ _ => rfl
    | bad => rfl
  | exc _ _ => rfl
  | bad => rfl
/-! ### targets -/
theorem et_nil : tNil0 [] ρ = .nx ρ := rfl
theorem et_cons {t : D → S} {ts : List D → S} {d : D} {r : List D} : tCons0 t ts (d :: r) ρ = (t d ρ).th (ts r) := es_seq
theorem et_tup {n : Nat} {ts : List D → S} {ds : List D} : tTupN n ts (.tup ds) ρ = if ds.length = n then ts ds ρ else .bad := by
  show (if ds.length = n then ts ds else sNever) ρ = _
  split <;> rfl
theorem et_lst {n : Nat} {ts : List D → S} {o : Bool} {ds : List D} : tTupN n ts (.lst o ds) ρ = if ds.length = n then ts ds ρ else .bad := by
  show (if ds.length = n then ts ds else sNever) ρ = _
  split <;> rfl
/-! ### comprehensions -/
theorem ev_lc {it : M (List D)} {t : D → S} {c : M Bool} {e : M D} {own : List Nat} : gLc it t c e own ρ = (it ρ).th fun ds ρ => if ds.length < big then (match lcGo t c e own ds (forget own ρ) with
    | .ok ys ρ => .ok (.lst true ys) ρ
    | _ => .bad) else .bad := by
  unfold gLc
  cases it ρ <;> rfl
theorem ev_dc {it : M (List D)} {t : D → S} {c : M Bool} {ek ev : M D} {own : List Nat} : gDc it t c ek ev own ρ = (it ρ).th fun ds ρ => if ds.length < big then (match dcGo t c ek ev own ds [] (forget own ρ) with
    | .ok ys ρ => .ok (.dct true false ys) ρ
    | _ => .bad) else .bad := by
  unfold gDc
  cases it ρ <;> rfl
/-! ### calls -/
def outE (as : List Ar) (ρ : Env) : Out → Ev D
  | .ret d ds => .ok d (back as ds ρ)
  | .exc e ds => .exc e (back as ds ρ)
  | .bad => .bad
theorem ev_call {f : List D → Out} {a : M (List Ar)} : gCall f a ρ = (a ρ).th fun as ρ => (opt (lend as ρ) ρ).th fun p _ => outE as p.2 (f p.1) := by
  show (a ρ).th _ = _
  first | refine Ev.th_cg ?_ | refine Ev.tS_cg ?_ | refine SR.th_cg ?_
  funext as ρ
  show (match lend as ρ with | none => Ev.bad | some (ds, ρ1) => match f ds with | .ret d ds' => .ok d (back as ds' ρ1) | .exc e ds' => .exc e (back as ds' ρ1) | .bad => .bad) = _
  cases lend as ρ with
  | none => rfl
  | some p =>
    obtain ⟨ds, ρ1⟩ := p
    show (match f ds with | .ret d ds' => Ev.ok d (back as ds' ρ1) | .exc e ds' => .exc e (back as ds' ρ1) | .bad => .bad) = outE as ρ1 (f ds)
    cases f ds <;> rfl
theorem outE_ret {as : List Ar} {d : D} {ds : List D} : outE as ρ (.ret d ds) = .ok d (back as ds ρ) := rfl
theorem lend_nil : lend [] ρ = some ([], ρ) := rfl
theorem lend_val {d : D} {r : List Ar} : lend (.val d :: r) ρ = (lend r ρ).map fun p => (d :: p.1, p.2) := rfl
theorem lend_slot {i : Nat} {r : List Ar} : lend (.slot i :: r) ρ = (ρ[i]?).join.bind fun d => if d.fzd = true then (lend r ρ).map fun p => (d :: p.1, p.2) else (lend r (ρ.set i none)).map fun p => (d :: p.1, p.2) := by
  show (match ρ[i]? with | some (some d) => _ | _ => none) = _
  cases ρ[i]? with
  | none => rfl
  | some s => cases s <;> rfl
theorem back_nil {ds : List D} : back [] ds ρ = ρ := by cases ds <;> rfl
theorem back_val {d e : D} {r : List Ar} {ds : List D} : back (.val d :: r) (e :: ds) ρ = back r ds ρ := rfl
theorem back_slot {i : Nat} {e : D} {r : List Ar} {ds : List D} : back (.slot i :: r) (e :: ds) ρ = if lentB ρ i = true then back r ds (ρ.set i (some e)) else back r ds ρ := rfl
theorem lentB_eq {i : Nat} : lentB ρ i = decide ((ρ[i]?).map Option.isNone = some true) := by
  unfold lentB
  cases ρ[i]? with
  | none => rfl
  | some s => cases s <;> rfl
/-- a new instance -/
def mkE (ρ : Env) : Out → Ev D
  | .ret .non (self :: _) => .ok self ρ
  | .exc e _ => .exc e ρ
  | _ => .bad
theorem mkE_ret {self : D} {r : List D} : mkE ρ (.ret .non (self :: r)) = .ok self ρ := rfl
theorem mkE_exc {e : Ex} {r : List D} : mkE ρ (.exc e r) = .exc e ρ := rfl
theorem ev_make {c : Str} {g : List D → Out} {a : M (List Ar)} : gMake c g a ρ = (a ρ).th fun as ρ => (opt (vals as) ρ).th fun ds ρ => mkE ρ (g (.ins true c [] :: ds)) := by
  show (a ρ).th _ = _
  first | refine Ev.th_cg ?_ | refine Ev.tS_cg ?_ | refine SR.th_cg ?_
  funext as ρ
  show (match vals as with
  | none => Ev.bad
  | some ds => match g (.ins true c [] :: ds) with
    | .ret .non (self :: _) => .ok self ρ
    | .exc e _ => .exc e ρ
    | _ => .bad) = _
  cases vals as with
  | none => rfl
  | some ds =>
    show (match g (.ins true c [] :: ds) with
    | .ret .non (self :: _) => Ev.ok self ρ
    | .exc e _ => .exc e ρ
    | _ => .bad) = mkE ρ (g (.ins true c [] :: ds))
    cases g (.ins true c [] :: ds) with
    | ret d as => cases d <;> cases as <;> rfl
    | exc e as => rfl
    | bad => rfl
/-- how a def's run is told -/
def outD (us : List Nat) (ds : List D) : SR → Out
  | .nx ρ => (match finA us 0 ds ρ with | some as => .ret .non as | none => .bad)
  | .rt d ρ => (match finA us 0 ds ρ with | some as => .ret d as | none => .bad)
  | .exc e ρ => (match finA us 0 ds ρ with | some as => .exc e as | none => .bad)
  | _ => .bad
theorem runDef_eq {n size : Nat} {us : List Nat} {body : S} {ds : List D} (h : ds.length = n) : runDef n size us body ds = outD us (maskA us 0 ds) (body ((maskA us 0 ds).map some ++ List.replicate (size - n) none)) := by
  unfold runDef
  rw [if_pos h]
  show (match body _ with | .nx ρ => _ | .rt d ρ => _ | .exc e ρ => _ | _ => Out.bad) = outD us _ (body _)
  cases body ((maskA us 0 ds).map some ++ List.replicate (size - n) none) <;> rfl
theorem run_go {n size : Nat} {us : List Nat} {body : S} {ds : List D} {r : Out} (h : ds.length = n) (h2 : outD us (maskA us 0 ds) (body ((maskA us 0 ds).map some ++ List.replicate (size - n) none)) = r) : runDef n size us body ds = r := (runDef_eq h).trans h2
theorem outD_rt {us : List Nat} {ds : List D} {d : D} {as : List D} (h : finA us 0 ds ρ = some as) : outD us ds (.rt d ρ) = .ret d as := by
  show (match finA us 0 ds ρ with | some as => Out.ret d as | none => .bad) = _
  rw [h]
theorem outD_nx {us : List Nat} {ds : List D} {as : List D} (h : finA us 0 ds ρ = some as) : outD us ds (.nx ρ) = .ret .non as := by
  show (match finA us 0 ds ρ with | some as => Out.ret .non as | none => .bad) = _
  rw [h]
end
end VL

set_option Elab.async false
set_option linter.all false
set_option maxRecDepth 100000
set_option maxHeartbeats 2000000
namespace VL
open PySem PySem.Spec PyProof.Rows L2
/-! ### operations on known shapes -/
section
variable {i j : Int} {o o2 t : Bool} {xs ys : List D} {x y z u v : D} {a b : Bool}
theorem fIx_lst : fIx (.lst o xs) (.int i) = fAt xs i := rfl
theorem fIx_tup : fIx (.tup xs) (.int i) = fAt xs i := rfl
theorem fAt_0 : fAt (x :: xs) 0 = if x.fzd = true then some x else none := by
  simp [fAt, atI, ixN]
theorem fAt_nat {n : Nat} (h : xs[n]? = some x) : fAt xs (n : Int) = if x.fzd = true then some x else none := by
  have hl := (List.getElem?_eq_some_iff.mp h).1
  have h0 : (0 : Int) ≤ (n : Int) := by omega
  have h1 : (n : Int) < xs.length := by omega
  simp [fAt, atI, ixN, h0, h1, h]
theorem fAt_1 : fAt (x :: y :: xs) 1 = if y.fzd = true then some y else none := fAt_nat (n := 1) rfl
theorem fAt_2 : fAt (x :: y :: z :: xs) 2 = if z.fzd = true then some z else none := fAt_nat (n := 2) rfl
theorem fAt_3 : fAt (x :: y :: z :: u :: xs) 3 = if u.fzd = true then some u else none := fAt_nat (n := 3) rfl
theorem fAt_4 : fAt (x :: y :: z :: u :: v :: xs) 4 = if v.fzd = true then some v else none := fAt_nat (n := 4) rfl
theorem fLt_ii : fLt (.int i) (.int j) = some (.bl (decide (i < j))) := rfl
theorem fGt_ii : fGt (.int i) (.int j) = some (.bl (decide (j < i))) := rfl
theorem fLe_ii : fLe (.int i) (.int j) = some (.bl (decide (i ≤ j))) := rfl
theorem fGe_ii : fGe (.int i) (.int j) = some (.bl (decide (j ≤ i))) := rfl
theorem cmp_int : (D.int i).cmp = some (.int i) := by
  unfold D.cmp
  rw [D.py]
  rfl
theorem fEq_ii : fEq (.int i) (.int j) = some (.bl (decide (i = j))) := by
  unfold fEq
  rw [cmp_int, cmp_int]
  show some (D.bl (PyData.eqv (.int i) (.int j))) = _
  congr 2
theorem fNe_ii : fNe (.int i) (.int j) = some (.bl (!decide (i = j))) := by
  unfold fNe
  rw [cmp_int, cmp_int]
  show some (D.bl (!PyData.eqv (.int i) (.int j))) = _
  congr 2
theorem fSub_ii : fSub (.int i) (.int j) = some (.int (i - j)) := rfl
theorem fAdd_ii : fAdd (.int i) (.int j) = some (.int (i + j)) := rfl
theorem fMul_ii (h : (small64 i || small64 j) = true) : fMul (.int i) (.int j) = some (.int (i * j)) := if_pos h
theorem fMod_ii (h : 0 < j) : fMod (.int i) (.int j) = some (.int (i % j)) := if_pos (decide_eq_true h)
theorem fDiv_ii (h : 0 < j) (h2 : j < 1073741824) : fDiv (.int i) (.int j) = some (.int (i / j)) := if_pos (by rw [decide_eq_true h, within_iff.mpr (show j.natAbs < _ by omega)]; rfl)
theorem fNeg_i : fNeg (.int i) = some (.int (-i)) := rfl
theorem fInt_i : fInt [.int i] = some (.int i) := rfl
theorem fInt_b : fInt [.bl a] = some (.int (if a = true then 1 else 0)) := rfl
theorem fLen_l : fLen [.lst o xs] = some (.int xs.length) := rfl
theorem fLen_t : fLen [.tup xs] = some (.int xs.length) := rfl
theorem fLen_d {kvs : List (DK × D)} : fLen [.dct o t kvs] = some (.int kvs.length) := rfl
theorem fTuple_l : fTuple [.lst o xs] = if fzdL xs = true then some (.tup xs) else none := rfl
theorem fTuple_t : fTuple [.tup xs] = some (.tup xs) := rfl
theorem fList_l : fList [.lst o xs] = if fzdL xs = true then some (.lst true xs) else none := rfl
theorem fList_t : fList [.tup xs] = some (.lst true xs) := rfl
theorem fList_d {kvs : List (DK × D)} : fList [.dct o t kvs] = some (.lst true (kvs.map fun kv => dOfDK kv.1)) := rfl
theorem fAll_l : fAll [.lst o xs] = (blsOf xs).map fun bs => .bl (bs.all id) := rfl
theorem fAny_l : fAny [.lst o xs] = (blsOf xs).map fun bs => .bl (bs.any id) := rfl
theorem blsOf_cons {l : List D} : blsOf (.bl a :: l) = (blsOf l).map (a :: ·) := rfl
theorem blsOf_map {α : Type} (f : α → Bool) : ∀ l : List α, blsOf (l.map fun x => D.bl (f x)) = some (l.map f)
  | [] => rfl
  | x :: l => by rw [List.map_cons, blsOf_cons, blsOf_map f l]; rfl
theorem fPutL_i {k : Nat} (h : ixN xs.length i = some k) : fPutL (.lst true xs) [.int i, v] = some (.non, .lst true (xs.set k v)) := by
  show (match ixN xs.length i with | some j => some (D.non, D.lst true (xs.set j v)) | none => none) = _
  rw [h]
theorem fPutL_0 : fPutL (.lst true (x :: xs)) [.int 0, v] = some (.non, .lst true (v :: xs)) := fPutL_i (k := 0) (by simp [ixN])
theorem fPutL_1 : fPutL (.lst true (x :: y :: xs)) [.int 1, v] = some (.non, .lst true (x :: v :: xs)) := fPutL_i (k := 1) (by simp [ixN]; omega)
theorem fPutL_2 : fPutL (.lst true (x :: y :: z :: xs)) [.int 2, v] = some (.non, .lst true (x :: y :: v :: xs)) := fPutL_i (k := 2) (by simp [ixN]; omega)
theorem fPutL_3 : fPutL (.lst true (x :: y :: z :: u :: xs)) [.int 3, v] = some (.non, .lst true (x :: y :: z :: v :: xs)) := fPutL_i (k := 3) (by simp [ixN]; omega)
theorem fAppend_l (h : xs.length < big) : fAppend (.lst true xs) [v] = some (.non, .lst true (xs ++ [v])) := if_pos h
theorem fReverse_l : fReverse (.lst true xs) [] = some (.non, .lst true xs.reverse) := rfl
theorem seqOf_l : seqOf (.lst o xs) = some (fzL xs) := rfl
theorem seqOf_t : seqOf (.tup xs) = some (fzL xs) := rfl
theorem truth_l : (D.lst o xs).truth = some (!xs.isEmpty) := rfl
theorem truth_b : (D.bl a).truth = some a := rfl
theorem isT_l : isT "list" (.lst o xs) = true := rfl
theorem isLst_l : isLstO (.lst o xs) = true := rfl
theorem isLst_d {kvs : List (DK × D)} : isLstO (.dct o t kvs) = false := rfl
theorem fPut_t : fPut true = fPutL := rfl
theorem fPut_f : fPut false = fPutD := rfl
theorem fAdd_ll (h1 : fzdL xs = true) (h2 : fzdL ys = true) (h : xs.length + ys.length < big) : fAdd (.lst o xs) (.lst o2 ys) = some (.lst true (xs ++ ys)) := if_pos (by simp [h1, h2, h])
theorem fSl_l {lo hi : Option Int} (h : fzdL xs = true) : fSl lo hi (.lst o xs) = some (.lst true (cutD xs lo hi)) := if_pos h
theorem fSl_t {lo hi : Option Int} : fSl lo hi (.tup xs) = some (.tup (cutD xs lo hi)) := rfl
theorem fSl_s {lo hi : Option Int} {ns : List Int} : fSl lo hi (.scr ns) = some (.lst true (cutD (ns.map .int) lo hi)) := rfl
theorem cut_tail : cutD (x :: xs) (some 1) none = xs := by
  unfold cutD
  rw [show HT.sIx (x :: xs).length 0 (some 1) = min 1 (x :: xs).length from HT.sIx_nat _ 0 1, HT.sIx_none]
  rw [show min 1 (x :: xs).length = 1 by simp]
  simp
theorem cut_upto (n : Nat) : cutD xs none (some (n : Int)) = xs.take n := by
  unfold cutD
  rw [HT.sIx_none, HT.sIx_nat]
  simp only [List.drop_zero, Nat.sub_zero]
  by_cases c : n ≤ xs.length
  · rw [Nat.min_eq_left c]
  · rw [Nat.min_eq_right (by omega), List.take_of_length_le (Nat.le_refl _), List.take_of_length_le (by omega)]
end
end VL

set_option Elab.async false
set_option linter.all false
set_option maxRecDepth 100000
set_option maxHeartbeats 2000000
namespace VL
open PySem PySem.Spec PyProof.Rows L2
/-! ### turns of loops and comprehensions -/
def SR.tE {α : Type} (x : SR) (f : Env → Ev α) (_w : Wit f := .mk) : Ev α := match x with
  | .nx ρ => f ρ
  | _ => .bad
theorem SR.tE_cg {α : Type} {x : SR} {f g : Env → Ev α} (h : f = g) : x.tE f = x.tE g := by rw [h]
theorem tE_nx {α : Type} {ρ : Env} {f : Env → Ev α} : (SR.nx ρ).tE f = f ρ := rfl
def lcTurn (t : D → S) (c : M Bool) (e : M D) (own : List Nat) (d : D) (ρ : Env) : Ev (Option D) := (t d ρ).tE fun ρ => (c ρ).th fun b ρ => if b = true then (e ρ).th fun y ρ => .ok (some y) (forget own ρ) else .ok none (forget own ρ)
section
variable {t : D → S} {c : M Bool} {e ek ev : M D} {own fg : List Nat} {ρ : Env} {body : S}
theorem lcGo_nil : lcGo t c e own [] ρ = .ok [] ρ := rfl
def consO (o : Option D) (ys : List D) : List D := match o with
  | some y => y :: ys
  | none => ys
theorem lcGo_cons {d : D} {r : List D} {o : Option D} {ρ1 ρ2 : Env} {ys : List D} (h : lcTurn t c e own d ρ = .ok o ρ1) (h2 : lcGo t c e own r ρ1 = .ok ys ρ2) : lcGo t c e own (d :: r) ρ = .ok (consO o ys) ρ2 := by
  unfold lcTurn at h
  unfold lcGo
  cases et : t d ρ with
  | nx ρa =>
    rw [et] at h
    simp only [tE_nx] at h
    simp only
    cases ec : c ρa with
    | ok b ρb =>
      rw [ec] at h
      simp only [th_ok] at h
      cases b with
      | true =>
        simp only [if_true] at h ⊢
        cases ee : e ρb with
        | ok y ρc =>
          rw [ee] at h
          simp only [th_ok] at h
          injection h with h3 h4
          subst h3 h4
          simp only [h2]
          rfl
        | exc _ _ => rw [ee] at h; cases h
        | bad => rw [ee] at h; cases h
      | false =>
        simp only [Bool.false_eq_true, if_false] at h
        injection h with h3 h4
        subst h3 h4
        simp only [h2]
        rfl
    | exc _ _ => rw [ec] at h; cases h
    | bad => rw [ec] at h; cases h
  | _ => rw [et] at h; cases h
/-- no state is changed by the turns -/
theorem lcGo_filterMap {G : D → Option D} : ∀ {ds : List D}, (∀ d ∈ ds, lcTurn t c e own d ρ = .ok (G d) ρ) → lcGo t c e own ds ρ = .ok (ds.filterMap G) ρ
  | [], _ => rfl
  | d :: ds, h => by
    have h1 := h d List.mem_cons_self
    have h2 := lcGo_filterMap (G := G) fun x m => h x (List.mem_cons_of_mem _ m)
    rw [lcGo_cons h1 h2, List.filterMap_cons]
    cases G d <;> rfl
theorem lcGo_map {F : D → D} {ds : List D} (h : ∀ d ∈ ds, lcTurn t c e own d ρ = .ok (some (F d)) ρ) : lcGo t c e own ds ρ = .ok (ds.map F) ρ := by
  rw [lcGo_filterMap (G := fun d => some (F d)) h]
  congr 1
  induction ds with
  | nil => rfl
  | cons d ds ih =>
    rw [List.filterMap_cons, List.map_cons, ih fun x m => h x (List.mem_cons_of_mem _ m)]
/-- over items that are encoded -/
theorem lcGo_mapE {α : Type} {enc : α → D} {F : α → D} {xs : List α} (h : ∀ x ∈ xs, lcTurn t c e own (enc x) ρ = .ok (some (F x)) ρ) : lcGo t c e own (xs.map enc) ρ = .ok (xs.map F) ρ := by
  induction xs with
  | nil => rfl
  | cons x xs ih => rw [List.map_cons, lcGo_cons (h x List.mem_cons_self) (ih fun y m => h y (List.mem_cons_of_mem _ m))]; rfl
theorem lcGo_filterE {α : Type} {enc : α → D} {p : α → Bool} {F : α → D} {xs : List α} (h : ∀ x ∈ xs, lcTurn t c e own (enc x) ρ = .ok (if p x = true then some (F x) else none) ρ) : lcGo t c e own (xs.map enc) ρ = .ok ((xs.filter p).map F) ρ := by
  induction xs with
  | nil => rfl
  | cons x xs ih =>
    rw [List.map_cons, lcGo_cons (h x List.mem_cons_self) (ih fun y m => h y (List.mem_cons_of_mem _ m)), List.filter_cons]
    by_cases c : p x = true
    · rw [if_pos c, if_pos c]; rfl
    · rw [if_neg c, if_neg c]; rfl
/-- dict comprehensions -/
def dcTurn (t : D → S) (c : M Bool) (ek ev : M D) (own : List Nat) (d : D) (ρ : Env) : Ev (Option (D × D)) := (t d ρ).tE fun ρ => (c ρ).th fun b ρ => if b = true then (ek ρ).th fun k ρ => (ev ρ).th fun v ρ => .ok (some (k, v)) (forget own ρ) else .ok none (forget own ρ)
theorem dcGo_nil {acc : List (DK × D)} : dcGo t c ek ev own [] acc ρ = .ok acc ρ := rfl
theorem dcGo_cons {d : D} {r : List D} {acc : List (DK × D)} {k v : D} {dk : DK} {ρ1 : Env} (h : dcTurn t c ek ev own d ρ = .ok (some (k, v)) ρ1) (hk : dkey k = some dk) (hi : dk.isK = true) (hv : (v.fzd || !khas acc dk) = true) :
    dcGo t c ek ev own (d :: r) acc ρ = dcGo t c ek ev own r (kput acc dk v) ρ1 := by
  unfold dcTurn at h
  rw [show dcGo t c ek ev own (d :: r) acc ρ = (match t d ρ with
    | .nx ρ1 => (match c ρ1 with
      | .ok true ρ2 => (match ek ρ2 with
        | .ok k ρ3 => (match ev ρ3 with
          | .ok v ρ4 => (match dkey k with
            | some dk => if dk.isK && (v.fzd || !khas acc dk) then dcGo t c ek ev own r (kput acc dk v) (forget own ρ4) else .bad
            | none => .bad)
          | _ => .bad)
        | _ => .bad)
      | .ok false ρ2 => dcGo t c ek ev own r acc (forget own ρ2)
      | _ => .bad)
    | _ => .bad) from rfl]
  cases et : t d ρ with
  | nx ρa =>
    rw [et] at h
    simp only [tE_nx] at h
    simp only
    cases ec : c ρa with
    | ok b ρb =>
      rw [ec] at h
      simp only [th_ok] at h
      cases b with
      | true =>
        simp only [if_true] at h ⊢
        cases e1 : ek ρb with
        | ok k' ρc =>
          rw [e1] at h
          simp only [th_ok] at h
          simp only
          cases e2 : ev ρc with
          | ok v' ρd =>
            rw [e2] at h
            simp only [th_ok] at h
            injection h with h3 h4
            injection h3 with h3
            injection h3 with h5 h6
            subst h4 h5 h6
            simp only [hk, hi, hv, Bool.and_self, if_true]
          | exc _ _ => rw [e2] at h; cases h
          | bad => rw [e2] at h; cases h
        | exc _ _ => rw [e1] at h; cases h
        | bad => rw [e1] at h; cases h
      | false =>
        simp only [Bool.false_eq_true, if_false] at h
        injection h with h3 h4
        cases h3
    | exc _ _ => rw [ec] at h; cases h
    | bad => rw [ec] at h; cases h
  | _ => rw [et] at h; cases h
/-- one turn of a for -/
def turnS (t : D → S) (body : S) (fg : List Nat) (d : D) (ρ : Env) : SR := (t d ρ).th fun ρ => match body ρ with
  | .nx ρ => .nx (forget fg ρ)
  | .ct ρ => .nx (forget fg ρ)
  | .bk ρ => .bk (forget fg ρ)
  | r => r
def endS (fg : List Nat) : SR → SR
  | .nx ρ => .nx (forget fg ρ)
  | .ct ρ => .nx (forget fg ρ)
  | .bk ρ => .bk (forget fg ρ)
  | r => r
theorem endS_nx : endS fg (.nx ρ) = .nx (forget fg ρ) := rfl
theorem endS_ct : endS fg (.ct ρ) = .nx (forget fg ρ) := rfl
theorem endS_bk : endS fg (.bk ρ) = .bk (forget fg ρ) := rfl
theorem endS_rt {d : D} : endS fg (.rt d ρ) = .rt d ρ := rfl
theorem endS_exc {x : Ex} : endS fg (.exc x ρ) = .exc x ρ := rfl
theorem turnS_eq {d : D} : turnS t body fg d ρ = (t d ρ).th fun ρ => endS fg (body ρ) := by
  unfold turnS
  refine SR.th_cg ?_
  funext ρ
  cases body ρ <;> rfl
theorem loopS_nil : loopS t body fg [] ρ = .nx (forget fg ρ) := rfl
theorem loopS_nx {d : D} {ds : List D} {ρ' : Env} (h : turnS t body fg d ρ = .nx ρ') : loopS t body fg (d :: ds) ρ = loopS t body fg ds ρ' := by
  unfold turnS at h
  rw [show loopS t body fg (d :: ds) ρ = (match t d ρ with
    | .nx ρ1 => (match body ρ1 with
      | .nx ρ2 => loopS t body fg ds (forget fg ρ2)
      | .ct ρ2 => loopS t body fg ds (forget fg ρ2)
      | .bk ρ2 => .nx (forget fg ρ2)
      | .rt d ρ2 => .rt d ρ2
      | .exc e ρ2 => .exc e ρ2
      | .bad => .bad)
    | _ => .bad) from rfl]
  cases et : t d ρ with
  | nx ρ1 =>
    rw [et] at h
    simp only [sth_nx] at h
    simp only
    cases eb : body ρ1 with
    | nx ρ2 => rw [eb] at h; cases h; rfl
    | ct ρ2 => rw [eb] at h; cases h; rfl
    | _ => rw [eb] at h; cases h
  | _ => rw [et] at h; cases h
theorem loopS_rt {d x : D} {ds : List D} {ρ' ρt : Env} (ht : t d ρ = .nx ρt) (h : body ρt = .rt x ρ') : loopS t body fg (d :: ds) ρ = .rt x ρ' := by
  rw [show loopS t body fg (d :: ds) ρ = (match t d ρ with
    | .nx ρ1 => (match body ρ1 with
      | .nx ρ2 => loopS t body fg ds (forget fg ρ2)
      | .ct ρ2 => loopS t body fg ds (forget fg ρ2)
      | .bk ρ2 => .nx (forget fg ρ2)
      | .rt d ρ2 => .rt d ρ2
      | .exc e ρ2 => .exc e ρ2
      | .bad => .bad)
    | _ => .bad) from rfl]
  simp only [ht, h]
/-- a loop that steps through states -/
theorem loop_rel {P : List D → Env → Prop} (step : ∀ d r ρ, P (d :: r) ρ → ∃ ρ', turnS t body fg d ρ = .nx ρ' ∧ P r ρ') : ∀ {ds : List D} {ρ : Env}, P ds ρ → ∃ ρ', loopS t body fg ds ρ = .nx (forget fg ρ') ∧ P [] ρ'
  | [], ρ, h => ⟨ρ, rfl, h⟩
  | d :: ds, ρ, h => by
    obtain ⟨ρ1, h1, h2⟩ := step d ds ρ h
    obtain ⟨ρ', h3, h4⟩ := loop_rel step h2
    exact ⟨ρ', by rw [loopS_nx h1, h3], h4⟩
theorem loop_fold {α : Type} {E : α → Env} {f : α → D → α} {I : α → Prop} (hE : ∀ a, forget fg (E a) = E a) : ∀ {ds : List D} {a : α}, I a → (∀ a d, I a → d ∈ ds → turnS t body fg d (E a) = .nx (E (f a d)) ∧ I (f a d)) → loopS t body fg ds (E a) = .nx (E (ds.foldl f a)) ∧ I (ds.foldl f a)
  | [], a, i, _ => ⟨by rw [loopS_nil, hE]; rfl, i⟩
  | d :: ds, a, i, h => by
    obtain ⟨h1, h2⟩ := h a d i List.mem_cons_self
    obtain ⟨h3, h4⟩ := loop_fold (I := I) hE (ds := ds) (a := f a d) h2 fun a x ia m => h a x ia (List.mem_cons_of_mem _ m)
    exact ⟨by rw [loopS_nx h1, h3]; rfl, h4⟩
/-! ### while -/
theorem while_end {n : Nat} {c : M Bool} {ρ' : Env} (h : c ρ = .ok false ρ') : whileS c body fg (n + 1) ρ = .nx (forget fg ρ') := by
  show sBind c _ ρ = _
  rw [es_bind, h]
  rfl
theorem while_step {n : Nat} {c : M Bool} {ρ1 ρ' : Env} (h : c ρ = .ok true ρ1) (hb : endS fg (body ρ1) = .nx ρ') : whileS c body fg (n + 1) ρ = whileS c body fg n ρ' := by
  show sBind c _ ρ = _
  rw [es_bind, h]
  show (match body ρ1 with
      | .nx ρ2 => whileS c body fg n (forget fg ρ2)
      | .ct ρ2 => whileS c body fg n (forget fg ρ2)
      | .bk ρ2 => .nx (forget fg ρ2)
      | .rt d ρ2 => .rt d ρ2
      | .exc e ρ2 => .exc e ρ2
      | .bad => .bad) = _
  cases eb : body ρ1 with
  | nx ρ2 => rw [eb] at hb; cases hb; rfl
  | ct ρ2 => rw [eb] at hb; cases hb; rfl
  | _ => rw [eb] at hb; cases hb
/-- P by what is still to be done -/
theorem while_rel {c : M Bool} {P : Nat → Env → Prop} (step : ∀ m ρ, P m ρ → (c ρ = .ok false ρ) ∨ (c ρ = .ok true ρ ∧ ∃ ρ' m', m' < m ∧ endS fg (body ρ) = .nx ρ' ∧ P m' ρ')) : ∀ {n m : Nat} {ρ : Env}, m < n → P m ρ → ∃ m' ρ', whileS c body fg n ρ = .nx (forget fg ρ') ∧ P m' ρ' ∧ c ρ' = .ok false ρ'
  | 0, _, _, h, _ => absurd h (Nat.not_lt_zero _)
  | n + 1, m, ρ, h, p => by
    rcases step m ρ p with h1 | ⟨h1, ρ', m', h2, h3, h4⟩
    · exact ⟨m, ρ, while_end h1, p, h1⟩
    · obtain ⟨m2, ρ2, h5, h6, h7⟩ := while_rel step (n := n) (by omega) h4
      exact ⟨m2, ρ2, by rw [while_step h1 h3, h5], h6, h7⟩
end
end VL

set_option Elab.async false
set_option linter.all false
set_option maxRecDepth 100000
set_option maxHeartbeats 2000000
/-! comprehensions with any number of clauses, whatever they gather -/
namespace VC
open PySem PySem.Spec PyProof.Rows L2
abbrev Tests (ifs : List Expr) (env : PySem.Env) : Sem Bool :=
  forIn ifs true fun c r => if r = true then (do
    let ok ← isTrue c env (eval c env)
    pure (ForInStep.yield ok)) else pure (ForInStep.yield r)
/-- e is a comprehension with the clauses gens, which gathers by emit -/
structure IsComp (e : Expr) (gens : List Comprehension) (acc : Value) (emit : PySem.Env → Sem Unit) : Prop where
  cl : clausesOf e = gens
  quiet : ∀ d it env, (Code.compLoop e d it acc env).quiet = true
  undL : ∀ (A : Around) d it env, A.under (.compLoop e d it acc env) = A
  undS : ∀ (A : Around) d it env, A.under (.compStart e d it acc env) = A
  denL : ∀ (P : Program) (w : World) d it env, (model P w).den (.compLoop e d it acc env) = (compTurn e d it acc env).onRaise fun x => do
    noteFrame x env
    theTreesLotGoes x
  denS : ∀ (P : Program) (w : World) d it env, (model P w).den (.compStart e d it acc env) = (compStart e d it acc env).onRaise fun x => do
    noteFrame x env
    standAt theWindowsPlace
  last : ∀ (d : Nat) (tg iter : Expr) (ifs : List Expr) (it : Value) (env : PySem.Env), gens[d]? = some ⟨tg, iter, ifs, 0⟩ → gens[d + 1]? = none →
    compTurn e d it acc env = (do
      standAt iter.pos
      match ← pyNext it with
      | none => pure (.done .next)
      | some v =>
        letOwnedTupleGo tg it v
        assign tg env v
        let ok ← Tests ifs env
        if ok then emit env
        again (.compLoop e d it acc env))
  more : ∀ (d : Nat) (tg iter tg1 iter1 : Expr) (ifs ifs1 : List Expr) (it : Value) (env : PySem.Env), gens[d]? = some ⟨tg, iter, ifs, 0⟩ → gens[d + 1]? = some ⟨tg1, iter1, ifs1, 0⟩ →
    compTurn e d it acc env = (do
      standAt iter.pos
      match ← pyNext it with
      | none => pure (.done .next)
      | some v =>
        letOwnedTupleGo tg it v
        assign tg env v
        let ok ← Tests ifs env
        if ok then
          let x ← eval iter1 env
          standAt iter1.pos
          let y ← foldedSetIterable iter1 env x
          let it1 ← holding [y] (pyIter y)
          let _ ← runOwn (.compStart e (d + 1) it1 acc env) env
        again (.compLoop e d it acc env))
theorem isComp_list {elt : Expr} {gens : List Comprehension} {scope : Scope} {pos : Pos} {acc : Value} : IsComp (.ListComp elt gens scope pos) gens acc fun env => (do let _ ← call (.builtin "list.append") [acc, ← eval elt env]) where
  cl := rfl
  quiet := fun _ _ _ => rfl
  undL := fun _ _ _ _ => rfl
  undS := fun _ _ _ _ => rfl
  denL := fun _ _ _ _ _ => rfl
  denS := fun _ _ _ _ _ => rfl
  last := fun d tg iter ifs it env h h1 => by
    unfold compTurn
    simp only [h, h1]
    rfl
  more := fun d tg iter tg1 iter1 ifs ifs1 it env h h1 => by
    unfold compTurn
    simp only [h, h1]
    rfl
theorem isComp_dict {kx vx : Expr} {gens : List Comprehension} {scope : Scope} {pos : Pos} {D : Addr} : IsComp (.DictComp kx vx gens scope pos) gens (.ref D) fun env => (do
    let kv ← eval kx env
    let vv ← holding [kv] (eval vx env)
    standAt { kx.pos with endLine := vx.pos.endLine, endCol := vx.pos.endCol }
    holding [kv, vv] (dictSet D kv vv)) where
  cl := rfl
  quiet := fun _ _ _ => rfl
  undL := fun _ _ _ _ => rfl
  undS := fun _ _ _ _ => rfl
  denL := fun _ _ _ _ _ => rfl
  denS := fun _ _ _ _ _ => rfl
  last := fun d tg iter ifs it env h h1 => by
    unfold compTurn
    simp only [h, h1]
    rfl
  more := fun d tg iter tg1 iter1 ifs ifs1 it env h h1 => by
    unfold compTurn
    simp only [h, h1]
    rfl
end VC

set_option Elab.async false
set_option linter.all false
set_option maxRecDepth 100000
set_option maxHeartbeats 2000000
namespace VC
open PySem PySem.Spec PyProof.Rows L2
section
variable {prog : Program} {w : World} {A : Around} {R : Result → Shared → Prop} {s : Shared} {e : Expr} {gens : List Comprehension} {acc it : Value} {emit : PySem.Env → Sem Unit} {env : PySem.Env} {d : Nat} {tg iter tg1 iter1 : Expr} {ifs ifs1 : List Expr}
/-- where an error of the block goes -/
abbrev Er (prog : Program) (w : World) (A : Around) (env : PySem.Env) (R : Result → Shared → Prop) : Value → Shared → Prop := notedBy (model prog w) A env fun x t => R (.error x) t
/-- a turn: the end, or the item is stored and tested -/
def TurnW (prog : Program) (w : World) (A : Around) (env : PySem.Env) (tg : Expr) (ifs : List Expr) (it : Value) (Ex : Value → Shared → Prop) (stop : Shared → Prop) (go skip : Shared → Prop) (s : Shared) : Prop :=
  wpAny (model prog w) A (pyNext it) (fun r s1 => match r with
    | none => stop s1
    | some v => wpAny (model prog w) A (letOwnedTupleGo tg it v) (fun _ s2 =>
        wpAny (model prog w) A (assign tg env v) (fun _ s3 =>
          wpAny (model prog w) A (Tests ifs env) (fun ok s4 => if ok = true then go s4 else skip s4) Ex s3) Ex s2) Ex s1) Ex s
theorem loop_last (C : IsComp e gens acc emit) (hg : gens[d]? = some ⟨tg, iter, ifs, 0⟩) (hn : gens[d + 1]? = none) (I : Nat → Shared → Prop)
    (turn : ∀ n s, I n s → TurnW prog w A env tg ifs it (Er prog w A env R) (R (.ok .next)) (fun s4 => wpAny (model prog w) A (emit env) (fun _ s5 => ∃ m, m < n ∧ I m s5) (Er prog w A env R) s4) (fun s4 => ∃ m, m < n ∧ I m s4) s)
    (n : Nat) (h : I n s) : codeAny (model prog w) A (.compLoop e d it acc env) R s := by
  refine codeAny_loop (C.quiet d it env) I (fun n s hI => ?_) n h
  rw [C.undL, C.denL]
  refine wpAny_noted ?_
  rw [C.last d tg iter ifs it env hg hn]
  refine wpAny_bind (wpAny_standAt (wpAny_bind (wpAny_mono (turn n s hI) (fun r s1 h1 => ?_) fun _ _ q => q)))
  cases r with
  | none => exact wpAny_pure h1
  | some v =>
    refine wpAny_bind (wpAny_mono h1 (fun _ s2 h2 => wpAny_bind (wpAny_mono h2 (fun _ s3 h3 => wpAny_bind (wpAny_mono h3 (fun ok s4 h4 => ?_) fun _ _ q => q)) fun _ _ q => q)) fun _ _ q => q)
    cases ok with
    | false => exact wpAny_pure ⟨rfl, h4⟩
    | true => exact wpAny_bind (wpAny_mono h4 (fun _ s5 h5 => wpAny_pure ⟨rfl, h5⟩) fun _ _ q => q)
theorem loop_more (C : IsComp e gens acc emit) (hg : gens[d]? = some ⟨tg, iter, ifs, 0⟩) (hn : gens[d + 1]? = some ⟨tg1, iter1, ifs1, 0⟩) (hs : ∀ x, foldedSetIterable iter1 env x = pure x) (I : Nat → Shared → Prop)
    (turn : ∀ n s, I n s → TurnW prog w A env tg ifs it (Er prog w A env R) (R (.ok .next)) (fun s4 => wpAny (model prog w) A (eval iter1 env) (fun x s5 => wpAny (model prog w) A (pyIter x) (fun it1 s6 =>
        codeAny (model prog w) A (.compStart e (d + 1) it1 acc env) (fun r t => match r with
          | .ok _ => ∃ m, m < n ∧ I m t
          | .error _ => False) s6) (Er prog w A env R) s5) (Er prog w A env R) s4) (fun s4 => ∃ m, m < n ∧ I m s4) s)
    (n : Nat) (h : I n s) : codeAny (model prog w) A (.compLoop e d it acc env) R s := by
  refine codeAny_loop (C.quiet d it env) I (fun n s hI => ?_) n h
  rw [C.undL, C.denL]
  refine wpAny_noted ?_
  rw [C.more d tg iter tg1 iter1 ifs ifs1 it env hg hn]
  refine wpAny_bind (wpAny_standAt (wpAny_bind (wpAny_mono (turn n s hI) (fun r s1 h1 => ?_) fun _ _ q => q)))
  cases r with
  | none => exact wpAny_pure h1
  | some v =>
    refine wpAny_bind (wpAny_mono h1 (fun _ s2 h2 => wpAny_bind (wpAny_mono h2 (fun _ s3 h3 => wpAny_bind (wpAny_mono h3 (fun ok s4 h4 => ?_) fun _ _ q => q)) fun _ _ q => q)) fun _ _ q => q)
    cases ok with
    | false => exact wpAny_pure ⟨rfl, h4⟩
    | true =>
      refine wpAny_bind (wpAny_mono h4 (fun x s5 h5 => wpAny_bind (wpAny_standAt (wpAny_bind (wpAny_of_eq (hs x) (wpAny_bind (wpAny_holding (wpAny_mono h5 (fun it1 s6 h6 => ?_) fun _ _ q => q))))))) fun _ _ q => q)
      refine wpAny_bind (wpAny_runOwn ?_)
      rw [Around.mark_none]
      refine codeAny_mono h6 fun r t hr => ?_
      cases r with
      | ok f => first | exact wpAny_pure ⟨rfl, hr⟩ | exact wpAny_bind (wpAny_pure (wpAny_pure ⟨rfl, hr⟩))
      | error z => exact hr.elim
theorem start_ok (C : IsComp e gens acc emit) (hg : gens[d]? = some ⟨tg, iter, ifs, 0⟩) (h0 : codeAny (model prog w) A (.compLoop e d it acc env) R s)
    (h : wpAny (model prog w) A (pyIter it) (fun it2 t => codeAny (model prog w) A (.compLoop e d it2 acc env) R t) (Er prog w A env R) s) :
    codeAny (model prog w) A (.compStart e d it acc env) R s := by
  refine codeAny_of_tree ?_
  rw [C.undS, C.denS]
  refine wpAny_notedAt ?_
  unfold compStart
  rw [C.cl, hg]
  show wpAny _ A (ask >>= _) _ _ s
  refine wpAny_bind (wpAny_askSetting (wpAny_ite ?_))
  split
  · first
      | exact wpAny_bind (wpAny_pure (wpAny_pure (And.intro (C.quiet d it env) h0)))
      | exact wpAny_pure (And.intro (C.quiet d it env) h0)
  · refine wpAny_bind (wpAny_rule ?_)
    show wpAny _ _ (standAt iter.pos >>= _) _ _ s
    exact wpAny_bind (wpAny_standAt (wpAny_bind (wpAny_mono h (fun it2 t z => wpAny_pure (And.intro (C.quiet d it2 env) z)) fun _ _ z => z)))
end
end VC

set_option Elab.async false
set_option linter.all false
set_option maxRecDepth 100000
set_option maxHeartbeats 2000000
namespace VC
open PySem PySem.Spec PyProof.Rows L2
/-- what is asked of what stands behind a clause -/
abbrev TK := L2.St → Hp → (Hp → Prop) → Prop
def tLoop (g : TG) (tt : TT) (vs : List Nat) (k : TK) (J : It) (σ : L2.St) (H1 : Hp) (N : Hp → Prop) : Prop :=
  ∃ W : Nat → Nat → Hp → Prop, (∃ m, W 0 m H1) ∧ ∀ i m H, W i m H →
    (J.stop i H ∧ N H) ∨ (J.go i H ∧ ∃ Nx : Hp → Prop, (∀ H', Nx H' → ∃ m', m' < m ∧ W (i + 1) m' H') ∧
      ∀ x H', J.yld i H x H' → g x (wipe σ vs) H' fun σ2 H2 => wipe σ2 vs = wipe σ vs ∧ tt σ2 H2 fun b H3 => if b = true then k σ2 H3 Nx else Nx H3)
def tGo (em : TK) : List (TI × TG × TT × List Nat) → TK
  | [] => em
  | c :: r => fun σ H N => c.1 σ H fun J H1 => tLoop c.2.1 c.2.2.1 c.2.2.2 (tGo em r) J σ H1 N
abbrev Fl : Value → Shared → Prop := fun _ _ => False
section
variable {B : Cx} {e : Expr} {gens : List Comprehension} {acc : Value} {emit : PySem.Env → Sem Unit}
/-- what stands behind the clauses ahead of d, run to Post -/
def GoRun (B : Cx) (e : Expr) (gens : List Comprehension) (acc : Value) (emit : PySem.Env → Sem Unit) (d : Nat) (s : Shared) (Post : Shared → Prop) : Prop :=
  match gens[d]? with
  | none => wpAny (model B.prog B.w) B.A (emit B.env) (fun _ t => Post t) Fl s
  | some c => wpAny (model B.prog B.w) B.A (eval c.iter B.env) (fun x s5 => wpAny (model B.prog B.w) B.A (pyIter x) (fun it1 s6 =>
      codeAny (model B.prog B.w) B.A (.compStart e d it1 acc B.env) (fun r t => match r with
        | .ok _ => Post t
        | .error _ => False) s6) Fl s5) Fl s
def Runs (B : Cx) (e : Expr) (gens : List Comprehension) (acc : Value) (emit : PySem.Env → Sem Unit) (d : Nat) (vs : List Nat) (k : TK) : Prop :=
  ∀ (pins : List (Addr × Obj)) (σ : L2.St) (H : Hp) (s : Shared) (N : Hp → Prop), Inv B pins σ H s → k σ H N → GoRun B e gens acc emit d s fun t => ∃ H', Inv B pins (wipe σ vs) H' t ∧ N H'
/-- each clause is a plain one -/
def Plain (env : PySem.Env) (gens : List Comprehension) : Prop := ∀ c ∈ gens, c.is_async = 0 ∧ ∀ x, foldedSetIterable c.iter env x = pure x
theorem loop_run (C : IsComp e gens acc emit) (hc : B.calm = true) (hx : B.xe = Fl) {d : Nat} {tg iter : Expr} {ifs : List Expr} (hg : gens[d]? = some ⟨tg, iter, ifs, 0⟩) (hp : Plain B.env gens)
    {g : TG} {tt : TT} {vs vs' : List Nat} {k : TK} (pg : PG B tg g) (pt : PTs B ifs tt) (kr : Runs B e gens acc emit (d + 1) vs' k) (hv : ∀ i ∈ vs', i ∈ vs)
    {it : Addr} {fp : List Addr} {tn : Nat → Heap → Prop} {J : It} (T : Turn B.prog B.w B.K tg J fp it tn)
    {pins : List (Addr × Obj)} {σ : L2.St} {H1 : Hp} {s : Shared} {N : Hp → Prop} {R : Result → Shared → Prop} (I : Inv B pins (wipe σ vs) H1 s) (hf : ∀ b ∈ fp, H1 b = none)
    (stat : ∀ {σ' : L2.St} {H' : Hp} {s' : Shared}, Inv B pins σ' H' s' → (∀ b ∈ fp, H' b = none) → ∀ b ∈ fp, FpOk B pins H' b) (st : tn 0 s.heap)
    (q : tLoop g tt vs k J σ H1 N) (hR : ∀ (t : Shared) (H : Hp), Inv B pins (wipe σ vs) H t → N H → R (.ok .next) t) :
    codeAny (model B.prog B.w) B.A (.compLoop e d (.ref it) acc B.env) R s := by
  obtain ⟨W, ⟨m0, w0⟩, turn⟩ := q
  let In : Nat → Shared → Prop := fun n t => ∃ i H, Inv B pins (wipe σ vs) H t ∧ tn i t.heap ∧ (∀ b ∈ fp, H b = none) ∧ W i n H
  -- one turn, whatever stands behind
  have one : ∀ (go : Shared → (Shared → Prop) → Prop), (∀ (s4 : Shared) (P P' : Shared → Prop), (∀ t, P t → P' t) → go s4 P → go s4 P') →
      (∀ (pn : List (Addr × Obj)) (σ2 : L2.St) (H3 : Hp) (s4 : Shared) (Nx : Hp → Prop), Inv B pn σ2 H3 s4 → k σ2 H3 Nx → go s4 fun t => ∃ H', Inv B pn (wipe σ2 vs') H' t ∧ Nx H') →
      ∀ n t, In n t → TurnW B.prog B.w B.A B.env tg ifs (.ref it) (Er B.prog B.w B.A B.env R) (R (.ok .next)) (fun s4 => go s4 fun s5 => ∃ m, m < n ∧ In m s5) (fun s4 => ∃ m, m < n ∧ In m s4) t := by
    rintro go mono kgo n t ⟨i, H5, I5, st5, n5, w5⟩
    rcases turn i n H5 w5 with ⟨stop, qq⟩ | ⟨gg, Nx, hNx, step⟩
    · refine thnF (T.done B rfl rfl rfl hc i pins t _ H5 Fl I5 (stat I5 n5) st5 stop) fun r s6 ⟨hr, I6⟩ => ?_
      subst hr
      exact hR s6 H5 I6 qq
    · refine thnF (T.item B rfl rfl rfl hc i pins t _ H5 Fl I5 (stat I5 n5) st5 gg) fun r s6 ⟨u, hr, h6⟩ => ?_
      subst hr
      refine thnF h6 fun _ s7 ⟨x, H7, I7, r7, y7, st7, n7⟩ => ?_
      have I7' := I7.pinned (stat I7 n7) (T.obj _ _ st7)
      have q8 := pg.run _ s7 _ H7 x u _ I7' r7 (step x H7 y7)
      rw [hx] at q8
      refine thnF q8 fun _ s8 ⟨σ8, H8, I8, hw8, t8⟩ => ?_
      have q9 := pt.run _ s8 σ8 H8 _ I8 t8
      rw [hx] at q9
      refine thnF q9 fun b s9 ⟨H9, I9, t9⟩ => ?_
      have fin : ∀ {σ9 : L2.St} {t9 : Shared} {H' : Hp}, Inv B (pins ++ pinsAt fp s7.heap) σ9 H' t9 → (wipe σ vs).length = σ9.length → (∀ (j : Nat) v, (wipe σ vs)[j]? = some (some v) → σ9[j]? = some (some v)) → Nx H' → ∃ m, m < n ∧ In m t9 := by
        intro σ9 t9 H' I' hl hk nx
        obtain ⟨m', hm, w'⟩ := hNx H' nx
        have kept : ∀ b ∈ fp, ∀ o, s7.heap.get? b = some o → t9.heap.get? b = some o ∧ H' b = none := fun b hb o e0 =>
          have z := I'.pin (b, o) (List.mem_append_right _ (List.mem_append_right _ (mem_pinsAt hb e0)))
          ⟨z.1, z.2.1⟩
        exact ⟨m', hm, i + 1, H', (I'.unpinned (pins := pins)).weak hl hk, T.keep _ _ _ st7 fun b hb o e0 => (kept b hb o e0).1, fun b hb =>
          let ⟨o, e0, _⟩ := T.obj _ _ st7 b hb
          (kept b hb o e0).2, w'⟩
      have sub : ∀ (j : Nat) v, (wipe σ vs)[j]? = some (some v) → σ8[j]? = some (some v) ∧ (wipe σ8 vs')[j]? = some (some v) := fun j v e0 => by
        rw [← hw8] at e0
        obtain ⟨e1, e2⟩ := wipe_some e0
        exact ⟨e1, by rw [wipe_out fun z => e2 (hv j z)]; exact e1⟩
      have len8 : (wipe σ vs).length = σ8.length := by rw [← hw8, wipe_length]
      cases b with
      | false =>
        simp only [Bool.false_eq_true, if_false] at t9 ⊢
        exact fin I9 len8 (fun j v e0 => (sub j v e0).1) t9
      | true =>
        simp only [if_true] at t9 ⊢
        refine mono _ _ _ ?_ (kgo _ _ _ _ _ I9 t9)
        rintro s10 ⟨H', I', nx⟩
        exact fin I' (len8.trans (wipe_length σ8 vs').symm) (fun j v e0 => (sub j v e0).2) nx
  cases hn : gens[d + 1]? with
  | none =>
    refine loop_last C hg hn In (fun n t ht => ?_) m0 ⟨0, H1, I, st, hf, w0⟩
    exact one (fun s4 P => wpAny (model B.prog B.w) B.A (emit B.env) (fun _ s5 => P s5) (Er B.prog B.w B.A B.env R) s4) (fun s4 P P' h z => wpAny_mono z (fun _ t q => h t q) fun _ _ q => q)
      (fun pn σ2 H3 s4 Nx I2 k2 => by
        have z := kr pn σ2 H3 s4 Nx I2 k2
        unfold GoRun at z
        rw [hn] at z
        exact thnF z fun _ _ q => q) n t ht
  | some c =>
    obtain ⟨tg1, iter1, ifs1, za⟩ := c
    obtain ⟨z0, zf⟩ := hp _ (List.mem_of_getElem? hn)
    have z0 : za = 0 := z0
    subst z0
    refine loop_more C hg hn zf In (fun n t ht => ?_) m0 ⟨0, H1, I, st, hf, w0⟩
    refine one (fun s4 P => wpAny (model B.prog B.w) B.A (eval iter1 B.env) (fun x s5 => wpAny (model B.prog B.w) B.A (pyIter x) (fun it1 s6 =>
        codeAny (model B.prog B.w) B.A (.compStart e (d + 1) it1 acc B.env) (fun r t => match r with
          | .ok _ => P t
          | .error _ => False) s6) (Er B.prog B.w B.A B.env R) s5) (Er B.prog B.w B.A B.env R) s4) (fun s4 P P' h z => ?_) (fun pn σ2 H3 s4 Nx I2 k2 => ?_) n t ht
    · refine wpAny_mono z (fun x s5 z5 => wpAny_mono z5 (fun it1 s6 z6 => codeAny_mono z6 fun r t hr => ?_) fun _ _ q => q) fun _ _ q => q
      cases r with
      | ok f => exact h t hr
      | error x => exact hr
    · have z := kr pn σ2 H3 s4 Nx I2 k2
      unfold GoRun at z
      rw [hn] at z
      exact thnF z fun x s5 z5 => thnF z5 fun it1 s6 z6 => z6
/-- the parts of the clauses from d on -/
inductive Parts (B : Cx) : List Comprehension → List (TI × TG × TT × List Nat) → List Nat → Prop
  | nil : Parts B [] [] []
  | cons {tg iter : Expr} {ifs : List Expr} {wi : TI} {g : TG} {tt : TT} {vs vs' : List Nat} {r : List Comprehension} {cs : List (TI × TG × TT × List Nat)} : PI B tg iter wi → PG B tg g → PTs B ifs tt → (∀ i ∈ vs', i ∈ vs) → Parts B r cs vs' → Parts B (⟨tg, iter, ifs, 0⟩ :: r) ((wi, g, tt, vs) :: cs) vs
theorem runs_go (C : IsComp e gens acc emit) (hc : B.calm = true) (hx : B.xe = Fl) (hp : Plain B.env gens) {em : TK} (hem : ∀ (pins : List (Addr × Obj)) (σ : L2.St) (H : Hp) (s : Shared) (N : Hp → Prop), Inv B pins σ H s → em σ H N → wpAny (model B.prog B.w) B.A (emit B.env) (fun _ t => ∃ H', Inv B pins σ H' t ∧ N H') Fl s) :
    ∀ {r : List Comprehension} {cs : List (TI × TG × TT × List Nat)} {vs : List Nat} {d : Nat}, Parts B r cs vs → gens.drop d = r → Runs B e gens acc emit d vs (tGo em cs)
  | _, _, _, d, .nil, hd => fun pins σ H s N I q => by
    have hn : gens[d]? = none := by
      rw [List.getElem?_eq_none_iff]
      exact List.drop_eq_nil_iff.mp hd
    unfold GoRun
    rw [hn]
    exact hem pins σ H s N I q
  | _, _, _, d, .cons (tg := tg) (iter := iter) (ifs := ifs) (wi := wi) (g := g) (tt := tt) (vs := vs) (vs' := vs') (r := r) (cs := cs) pi pg pt hv P, hd => fun pins σ H s N I q => by
    have hg : gens[d]? = some ⟨tg, iter, ifs, 0⟩ := by
      have z := congrArg (·[0]?) hd
      simpa [List.getElem?_drop] using z
    have hd1 : gens.drop (d + 1) = r := by
      have z := congrArg List.tail hd
      rw [List.tail_drop] at z
      simpa using z
    have kr := runs_go C hc hx hp hem (d := d + 1) P hd1
    unfold GoRun
    rw [hg]
    have q : wi σ H fun J H1 => tLoop g tt vs (tGo em cs) J σ H1 N := q
    have z := pi.run pins s σ H _ I q
    rw [hx] at z
    refine thnF z fun x s5 z5 => thnF z5 fun itv s6 z6 => ?_
    obtain ⟨it1, fp1, tn1, J1, H6, e1, I6, T1, st6, f6, q6⟩ := z6
    subst e1
    have lp := loop_run (R := fun r t => match r with
        | .ok _ => ∃ H', Inv B pins (wipe σ vs) H' t ∧ N H'
        | .error _ => False) C hc hx hg hp pg pt kr hv T1 (I6.weak (wipe_length _ _) fun j v e0 => (wipe_some e0).1) (fun b hb => (f6 b hb).1) (fun {σ' H' s'} _ hn b hb => ⟨hn b hb, (f6 b hb).2⟩) st6 q6 fun t H' I' n' => ⟨H', I', n'⟩
    exact start_ok C hg lp (T1.self B.A 0 _ _ _ st6 lp)
end
end VC

set_option Elab.async false
set_option linter.all false
set_option maxRecDepth 100000
set_option maxHeartbeats 2000000
namespace VC
open PySem PySem.Spec PyProof.Rows L2
/-- a comprehension as a value: what the new object D holds comes by em -/
def tCompA (wi : TI) (g : TG) (tt : TT) (vs : List Nat) (cs : List (TI × TG × TT × List Nat)) (em : Addr → TK) (o0 : Addr → HO) : TE := fun σ H Q =>
  wi σ H fun J H1 => ∀ D, H1 D = none → tLoop g tt vs (tGo (em D) cs) J σ (upd H1 D (o0 D)) fun H' => Q (.ref D) H'
abbrev tComp (wi : TI) (g : TG) (tt : TT) (vs : List Nat) (cs : List (TI × TG × TT × List Nat)) (em : Addr → TK) (o0 : HO) : TE := tCompA wi g tt vs cs em fun _ => o0
section
variable {X : Cx}
/-- the parts of a block, in whatever frame it runs -/
structure BlkP (X : Cx) (scope : Scope) (P : Cx → Prop) : Prop where
  at' : ∀ (s : Shared) (H : Hp) (C : Addr) (cl : List (Str × Addr)) (fp : List Addr), P (X.blk s H scope (compEnvC scope cl C X.env) fp)
def Emits (B : Cx) (emit : PySem.Env → Sem Unit) (em : TK) : Prop := ∀ (pins : List (Addr × Obj)) (σ : L2.St) (H : Hp) (s : Shared) (N : Hp → Prop), Inv B pins σ H s → em σ H N → wpAny (model B.prog B.w) B.A (emit B.env) (fun _ t => ∃ H', Inv B pins σ H' t ∧ N H') Fl s
theorem comp_core {pins : List (Addr × Obj)} {s : Shared} {σ : L2.St} {H : Hp} {Q : VK} {e tg iter : Expr} {ifs : List Expr} {rest : List Comprehension} {scope : Scope} {own : List (Str × Nat)} {pos : Pos} {wi : TI} {g : TG} {tt : TT} {cs : List (TI × TG × TT × List Nat)} {vs' : List Nat} {em : Addr → TK} {o0 : Addr → HO} {ob : Obj} {newAcc : Sem Value} {emit : Addr → PySem.Env → Sem Unit} {use : Option (Value → Sem Unit)} {Qf : Value → Shared → Prop}
    (hcl : ∀ D, IsComp e (⟨tg, iter, ifs, 0⟩ :: rest) (.ref D) (emit D)) (hc : X.calm = true) (hN : X.N.Nodup) (I : Inv X pins σ H s) (hi : PI X tg iter wi) (ok : BlkOk X.N X.env.scope scope own)
    (hs : ∀ x, foldedSetIterable iter X.env x = pure x) (hpl : BlkP X scope fun B => Plain B.env (⟨tg, iter, ifs, 0⟩ :: rest))
    (hg : BlkP X scope fun B => PG B tg g) (ht : BlkP X scope fun B => PTs B ifs tt) (hcs : BlkP X scope fun B => Parts B rest cs vs') (hv : ∀ i ∈ vs', i ∈ own.map (·.2)) (hem : ∀ D, BlkP X scope fun B => Emits B (emit D) (em D))
    (hnew : ∀ (s : Shared) (P : Value → Shared → Prop), P (.ref s.heap.objs.size) { s with heap := s.heap.push ob } → wpAny (model X.prog X.w) X.A newAcc P X.xe s)
    (hob : ∀ (h : Heap) (H' : Hp), sysModules < h.objs.size → ObjOk X.prog X.w H' (h.push ob) h.objs.size (o0 h.objs.size))
    (h : tCompA wi g tt (own.map (·.2)) cs em o0 σ H Q)
    (hRR : ∀ D C t m H', Inv X pins σ H' t → Q (.ref D) H' → t.heap.Ns C m → FpOk X pins H' C → compPost (model X.prog X.w) X.A X.xe use Qf (.ref D) C (.ok .next) t) :
    wpAny (model X.prog X.w) X.A (comprehension e scope X.env pos newAcc false (eval iter X.env) use) Qf X.xe s := by
  have frees : ∀ y ∈ scope.names, y.2 = .free → ∃ c, X.env.cells.lookup y.1 = some c := fun y hy z => I.ok.has _ ((ok.free y hy z).elim .inl .inr)
  refine wpAny_comprehension_free (use := use) (hcl 0).cl hs (closure_ok frees) ok.kind (fun y hy z => (ok.uniq y hy).trans (congrArg some z)) ?_
  refine thn (hi.run pins s σ H _ I h) fun xv s1 hx => thn hx fun itv s2 h2 => ?_
  obtain ⟨it, fp, tn, J, H2, z, I2, T, st2, f2, q⟩ := h2
  subst z
  refine hnew s2 _ (newEnv_comp ?_)
  generalize hD : s2.heap.objs.size = D
  have nD : H2 D = none := I2.hok.fresh (Nat.le_of_eq hD)
  have q := q D nD
  -- the new object
  obtain ⟨s3, hs3⟩ : ∃ s3 : Shared, s3 = { s2 with heap := s2.heap.push ob } := ⟨_, rfl⟩
  rw [← hs3]
  have h3 : s3.heap = s2.heap.push ob := by rw [hs3]
  have I3 : Inv X pins σ (upd H2 D (o0 D)) s3 := by
    rw [hs3]
    refine I2.laid (t' := s2.toks) (fun b o q => Heap.get?_push_of_some _ q) (Nat.le_of_eq hD) ?_
    rw [← hD]
    exact hob s2.heap _ I2.big
  have f3 : ∀ b ∈ fp, FpOk X pins (upd H2 D (o0 D)) b ∧ b < s3.heap.objs.size := fun b hb => by
    obtain ⟨o, q, _⟩ := T.obj _ _ st2 b hb
    have lt := Heap.lt_size q
    refine ⟨⟨?_, (f2 b hb).2⟩, by rw [h3, Heap.size_push]; exact Nat.lt_succ_of_lt lt⟩
    rw [upd_ne (by rw [← hD]; exact Nat.ne_of_lt lt)]
    exact (f2 b hb).1
  have st3 : tn 0 s3.heap := T.keep _ _ _ st2 fun b _ o q => by rw [h3]; exact Heap.get?_push_of_some _ q
  have I4 := block_start I3 ok hN f3
  have bg := hg.at' s3 (upd H2 D (o0 D)) s3.heap.objs.size (cellsFrom (s3.heap.objs.size + 1) scope.names (cloFrom X.env.cells scope.names [])) fp
  have bt := ht.at' s3 (upd H2 D (o0 D)) s3.heap.objs.size (cellsFrom (s3.heap.objs.size + 1) scope.names (cloFrom X.env.cells scope.names [])) fp
  have bc := hcs.at' s3 (upd H2 D (o0 D)) s3.heap.objs.size (cellsFrom (s3.heap.objs.size + 1) scope.names (cloFrom X.env.cells scope.names [])) fp
  have be := (hem D).at' s3 (upd H2 D (o0 D)) s3.heap.objs.size (cellsFrom (s3.heap.objs.size + 1) scope.names (cloFrom X.env.cells scope.names [])) fp
  have bp := hpl.at' s3 (upd H2 D (o0 D)) s3.heap.objs.size (cellsFrom (s3.heap.objs.size + 1) scope.names (cloFrom X.env.cells scope.names [])) fp
  show codeAny _ _ (.compStart e 0 (.ref it) (.ref D) (compEnvC scope (cellsFrom (s3.heap.objs.size + 1) scope.names (cloFrom X.env.cells scope.names [])) s3.heap.objs.size X.env)) (compPost (model X.prog X.w) X.A X.xe use Qf (.ref D) s3.heap.objs.size) { s3 with heap := pushCells (s3.heap.push { cls := .type "dict", data := .dict #[] }) scope.names }
  have nf : ∀ b ∈ fp, (upd H2 D (o0 D)) b = none := fun b hb => (f3 b hb).1.1
  generalize hce : compEnvC scope (cellsFrom (s3.heap.objs.size + 1) scope.names (cloFrom X.env.cells scope.names [])) s3.heap.objs.size X.env = ce at I4 bg bt bc be bp ⊢
  have cL : ce.locals = s3.heap.objs.size := by subst hce; rfl
  generalize hH3 : upd H2 D (o0 D) = H3 at I3 I4 bg bt bc be bp q nf f3
  generalize hs4 : ({ s3 with heap := pushCells (s3.heap.push { cls := .type "dict", data := .dict #[] }) scope.names } : Shared) = s4 at I4 ⊢
  have st4 : tn 0 s4.heap := T.keep _ _ _ st3 fun b _ o q => by rw [← hs4]; exact pushCells_keeps _ _ _ _ (Heap.get?_push_of_some _ q)
  let B : Cx := X.blk s3 H3 scope ce fp
  have kr := runs_go (B := B) (hcl D) hc rfl bp be (d := 1) bc rfl
  have lp := loop_run (B := B) (R := compPost (model X.prog X.w) X.A X.xe use Qf (.ref D) s3.heap.objs.size) (pins := []) (N := fun H' => Q (.ref D) H') (hcl D) hc rfl (d := 0) rfl bp bg bt kr hv T I4 nf (fun {σ' H' t} I' hn b hb =>
      ⟨hn b hb, (I'.ok.exf b hb).1, I'.ok.exfs b hb, .inl hb, fun x c z => (I'.ok.exf b hb).2 x c z, fun p hp => absurd (show p ∈ ([] : List (Addr × Obj)) ++ [] from hp) (by simp)⟩) st4 q fun t H' I' q' => by
    have I7 : Inv X pins σ H' t := I3.call' (ch := fp) I'.os I'.base I'.hok I'.bare fun b hb => have f := (f3 b hb).1.2; ⟨f.2.2.1, f.1, f.2.2.2.1, f.2.2.2.2⟩
    have nC : H' s3.heap.objs.size = none := by
      have z : H' ce.locals = none := I'.free
      rwa [cL] at z
    obtain ⟨m, hn, _⟩ := I'.loc
    have hn : t.heap.Ns ce.locals m := hn
    rw [cL] at hn
    exact hRR D s3.heap.objs.size t m H' I7 q' hn (I3.fpOk (Nat.le_refl _) nC)
  exact start_ok (hcl D) rfl lp (T.self X.A 0 _ _ _ st4 lp)
end
end VC

set_option Elab.async false
set_option linter.all false
set_option maxRecDepth 100000
set_option maxHeartbeats 2000000
namespace VC
open PySem PySem.Spec PyProof.Rows L2
section
variable {X : Cx}
/-- d[y] = v of a comprehension -/
theorem dset_put {pins : List (Addr × Obj)} {σ : L2.St} {H H' : Hp} {s : Shared} {E : Value → Shared → Prop} {D : Addr} {y v : V} {u r : Value} {Q : Unit → Shared → Prop} (hu : X.A.units + 1 < cLine) (I : Inv X pins σ H s) (gp : DPut H D y v H') (ry : RelV y u) (rv : RelV v r)
    (h : ∀ t, Inv X pins σ H' t → Q () t) : wpAny (model X.prog X.w) X.A (dictSet D u r) Q E s := by
  rcases gp with ⟨kvs, k, q, rfl, l, rfl⟩ | ⟨kvs, k, b, q, rfl, qb, l, rfl⟩
  · obtain ⟨z, hd, ws, rel, dd⟩ := dk_of I.hok q
    have hz : ws.length ≤ sizeLine := rel.length ▸ z
    have hl : (putK kvs k v).length ≤ sizeLine := Nat.le_trans (length_putK kvs k v) l
    refine wpAny_dictSet_pairs (hsz := hz) (kV_is ry) dd fun h2 dd2 hs => h _ ?_
    exact d_write I (by rw [q]; exact True.intro) hs (let ⟨o, _, _, hq, _⟩ := dd2; ⟨o, hq⟩) (dk_new hl hd (rel.put k rv) dd2)
  · cases (show u = Value.ref b from ry)
    obtain ⟨z, hd, ws, rel, dd⟩ := dt_of I.hok q
    have hz : ws.length ≤ sizeLine := Paired.length rel ▸ z
    have hl : (putK kvs k v).length ≤ sizeLine := Nat.le_trans (length_putK kvs k v) l
    refine wpAny_dictSet_heap (hsz := hz) (show X.A.units < cLine from Nat.lt_of_succ_lt hu) (key_of I.hok qb) dd fun h2 dd2 hs => h _ ?_
    obtain ⟨o, es, ep, hq, a2, a3, a4, _, a5⟩ := dd2
    refine d_write I (by rw [q]; exact True.intro) hs ⟨o, hq⟩ ⟨hl, hd, _, (rel.put k qb rv).keeps fun c ys ec => ?_, o, es, ep, hq, a2, a3, a4, a5⟩
    rw [upd_ne (ne_of ec q (fun z => nomatch z))]
    exact ec
theorem plain1 {X : Cx} {scope : Scope} {gens : List Comprehension} (h : ∀ c ∈ gens, c.is_async = 0 ∧ ∀ env x, foldedSetIterable c.iter env x = pure x) : BlkP X scope fun B => Plain B.env gens := ⟨fun _ _ _ _ _ c m => ⟨(h c m).1, (h c m).2 _⟩⟩
/-- what a list, a dict gathers -/
def emL (te : TE) (D : Addr) : TK := fun σ H N => te σ H fun y H1 => ∃ ys, H1 D = some (.lst ys) ∧ ys.length < sizeLine ∧ N (upd H1 D (.lst (ys ++ [y])))
def emD (tk tv : TE) (D : Addr) : TK := fun σ H N => tk σ H fun y H1 => tv σ H1 fun z H2 => ∃ H3, DPut H2 D y z H3 ∧ N H3
theorem emits_list {B : Cx} (hx : B.xe = Fl) {elt : Expr} {te : TE} (he : PE B elt te) (D : Addr) : Emits B (fun env => (do let _ ← call (.builtin "list.append") [.ref D, ← eval elt env])) (emL te D) := fun pins σ H s N I q => by
  have z := he.run pins s σ H _ I q
  rw [hx] at z
  refine wpAny_bind (thnF z fun u s1 ⟨y, H1, I1, r1, ys, hD, hz, n⟩ => ?_)
  refine wpAny_bind (app_ok I1 hD hz r1 fun t I2 => wpAny_pure ⟨_, I2, n⟩)
theorem emits_dict {B : Cx} (hx : B.xe = Fl) (hu : B.A.units + 1 < cLine) {kx vx : Expr} {tk tv : TE} (hk : PE B kx tk) (hv : PE B vx tv) (D : Addr) : Emits B (fun env => (do
    let kv ← eval kx env
    let vv ← holding [kv] (eval vx env)
    standAt { kx.pos with endLine := vx.pos.endLine, endCol := vx.pos.endCol }
    holding [kv, vv] (dictSet D kv vv))) (emD tk tv D) := fun pins σ H s N I q => by
  have z := hk.run pins s σ H _ I q
  rw [hx] at z
  refine wpAny_bind (thnF z fun u s1 ⟨y, H1, I1, r1, q1⟩ => ?_)
  have z := hv.run pins s1 σ H1 _ I1 q1
  rw [hx] at z
  refine wpAny_bind (wpAny_holding (thnF z fun u2 s2 ⟨y2, H2, I2, r2, H3, dp, n⟩ => ?_))
  exact wpAny_bind (wpAny_standAt (wpAny_holding (dset_put hu I2 dp r1 r2 fun t I3 => ⟨_, I3, n⟩)))
variable {tg iter elt kx vx : Expr} {ifs : List Expr} {rest : List Comprehension} {scope : Scope} {own : List (Str × Nat)} {pos : Pos} {wi : TI} {g : TG} {tt : TT} {cs : List (TI × TG × TT × List Nat)} {vs' : List Nat} {te tk tv : TE}
theorem pe_compL (hc : X.calm = true) (hN : X.N.Nodup) (hi : PI X tg iter wi) (ok : BlkOk X.N X.env.scope scope own) (hs : ∀ x, foldedSetIterable iter X.env x = pure x) (hpl : BlkP X scope fun B => Plain B.env (⟨tg, iter, ifs, 0⟩ :: rest))
    (hg : BlkP X scope fun B => PG B tg g) (ht : BlkP X scope fun B => PTs B ifs tt) (hcs : BlkP X scope fun B => Parts B rest cs vs') (hv : ∀ i ∈ vs', i ∈ own.map (·.2)) (he : BlkP X scope fun B => PE B elt te) :
    PE X (.ListComp elt (⟨tg, iter, ifs, 0⟩ :: rest) scope pos) (tComp wi g tt (own.map (·.2)) cs (emL te) (.lst [])) := by
  refine ⟨fun pins s σ H Q I h => ?_⟩
  rw [eval_ListComp]
  refine comp_core (o0 := fun _ => .lst []) (ob := { cls := .type "list", data := .seq ([] : List Value).toArray }) (fun D => isComp_list) hc hN I hi ok hs hpl hg ht hcs hv (fun D => ⟨fun s H C cl fp => emits_list rfl (he.at' s H C cl fp) D⟩) (fun s P z => wpAny_newObj_type z (by show 0 ≤ sizeLine; decide)) (fun h H' _ => ⟨Nat.zero_le _, [], 0, .nil, Heap.get?_push_size _ rfl⟩) h fun D C t m H' I' q hn f => ⟨m, hn, fun h2 sb => ?_⟩
  obtain ⟨f0, f1, f2, f3, f4, f5⟩ := f
  exact ⟨.ref D, H', I'.turned (t' := t.toks) (fun b o hb z => (sb.2 b hb).trans z) f0 f1 f3 f4 f5, rfl, q⟩
theorem pe_compD (tup : Bool) (hu : X.A.units + 1 < cLine) (hc : X.calm = true) (hN : X.N.Nodup) (hi : PI X tg iter wi) (ok : BlkOk X.N X.env.scope scope own) (hs : ∀ x, foldedSetIterable iter X.env x = pure x) (hpl : BlkP X scope fun B => Plain B.env (⟨tg, iter, ifs, 0⟩ :: rest))
    (hg : BlkP X scope fun B => PG B tg g) (ht : BlkP X scope fun B => PTs B ifs tt) (hcs : BlkP X scope fun B => Parts B rest cs vs') (hv : ∀ i ∈ vs', i ∈ own.map (·.2)) (hk : BlkP X scope fun B => PE B kx tk) (he : BlkP X scope fun B => PE B vx tv) :
    PE X (.DictComp kx vx (⟨tg, iter, ifs, 0⟩ :: rest) scope pos) (tComp wi g tt (own.map (·.2)) cs (emD tk tv) (if tup = true then .dT [] else .dK [])) := by
  refine ⟨fun pins s σ H Q I h => ?_⟩
  rw [arm_eval_DictComp]
  refine comp_core (o0 := fun _ => if tup = true then .dT [] else .dK []) (ob := { cls := .type "dict", data := .dict #[] }) (fun D => isComp_dict) hc hN I hi ok hs hpl hg ht hcs hv (fun D => ⟨fun s H C cl fp => emits_dict (B := X.blk s H scope (compEnvC scope cl C X.env) fp) rfl hu (hk.at' s H C cl fp) (he.at' s H C cl fp) D⟩) (fun s P z => wpAny_newObj_type z) (fun hp H' hb => ?_) h fun D C t m H' I' q hn f => ⟨m, hn, fun h2 sb => ?_⟩
  · cases tup
    · exact dk_empty hp hb
    · exact dt_empty hp hb
  obtain ⟨f0, f1, f2, f3, f4, f5⟩ := f
  exact ⟨.ref D, H', I'.turned (t' := t.toks) (fun b o hb z => (sb.2 b hb).trans z) f0 f1 f3 f4 f5, rfl, q⟩
variable {i : Nat} {y : Str} {py spos : Pos}
/-- name = a comprehension, on one line -/
theorem ps_setCompL (hc : X.calm = true) (hN : X.N.Nodup) (hy : X.N[i]? = some y) (hyl : X.env.scope.names.lookup y = some .local) (hsw : swapsWith (.ListComp elt (⟨tg, iter, ifs, 0⟩ :: rest) scope pos) (some (.Name y py)) spos.line X.env = pure true) (hi : PI X tg iter wi) (ok : BlkOk X.N X.env.scope scope own) (hs : ∀ x, foldedSetIterable iter X.env x = pure x) (hpl : BlkP X scope fun B => Plain B.env (⟨tg, iter, ifs, 0⟩ :: rest))
    (hg : BlkP X scope fun B => PG B tg g) (ht : BlkP X scope fun B => PTs B ifs tt) (hcs : BlkP X scope fun B => Parts B rest cs vs') (hv : ∀ i ∈ vs', i ∈ own.map (·.2)) (he : BlkP X scope fun B => PE B elt te) :
    PS X (.Assign [.Name y py] (.ListComp elt (⟨tg, iter, ifs, 0⟩ :: rest) scope pos) spos) (fun D σ H => tComp wi g tt (own.map (·.2)) cs (emL te) (.lst []) σ H fun x H1 => D.nx (σ.set i (some x)) H1) := by
  refine ⟨fun pins s σ H D I h => ?_⟩
  rw [exec_Assign_Name_used _ _ _ _ hsw]
  refine wpAny_bind (wpAny_standAt (wpAny_bind ?_))
  show wpAny _ X.A (do let _ ← comprehension _ scope X.env (firstIterPos _ pos) (newList []) false (eval iter X.env) (some (assign (.Name y py) X.env))) _ _ s
  refine wpAny_bind (thn (Q := fun _ t => SP X pins D .next t) ?_ fun _ t hq => wpAny_pure (wpAny_pure hq))
  refine comp_core (o0 := fun _ => .lst []) (ob := { cls := .type "list", data := .seq ([] : List Value).toArray }) (fun D => isComp_list) hc hN I hi ok hs hpl hg ht hcs hv (fun D => ⟨fun s H C cl fp => emits_list rfl (he.at' s H C cl fp) D⟩) (fun s P z => wpAny_newObj_type z (by show 0 ≤ sizeLine; decide)) (fun h H' _ => ⟨Nat.zero_le _, [], 0, .nil, Heap.get?_push_size _ rfl⟩) h fun L C t m H' I' q hn f => ?_
  show wpAny _ _ (assign (.Name y py) X.env (.ref L)) _ _ _
  refine wpAny_assign_Name (store_ok2 (v := V.ref L) I' hN hy (.inl hyl) rfl (fun s2 I2 ⟨a, sb, ha⟩ => ?_) (.inr hyl))
  obtain ⟨f0, f1, f2, f3, f4, f5⟩ := f
  have ne : C ≠ a := ha.elim (fun z => by rw [z]; exact f1) fun z q => f4 y a z q.symm
  exact ⟨m, hn.sameBut sb ne, fun h3 sb3 => ⟨_, H', I2.turned (t' := s2.toks) (fun b o hb z => (sb3.2 b hb).trans z) f0 f1 f3 f4 f5, q⟩⟩
theorem ps_setCompD (tup : Bool) (hu : X.A.units + 1 < cLine) (hc : X.calm = true) (hN : X.N.Nodup) (hy : X.N[i]? = some y) (hyl : X.env.scope.names.lookup y = some .local) (hsw : swapsWith (.DictComp kx vx (⟨tg, iter, ifs, 0⟩ :: rest) scope pos) (some (.Name y py)) spos.line X.env = pure true) (hi : PI X tg iter wi) (ok : BlkOk X.N X.env.scope scope own) (hs : ∀ x, foldedSetIterable iter X.env x = pure x) (hpl : BlkP X scope fun B => Plain B.env (⟨tg, iter, ifs, 0⟩ :: rest))
    (hg : BlkP X scope fun B => PG B tg g) (ht : BlkP X scope fun B => PTs B ifs tt) (hcs : BlkP X scope fun B => Parts B rest cs vs') (hv : ∀ i ∈ vs', i ∈ own.map (·.2)) (hk : BlkP X scope fun B => PE B kx tk) (he : BlkP X scope fun B => PE B vx tv) :
    PS X (.Assign [.Name y py] (.DictComp kx vx (⟨tg, iter, ifs, 0⟩ :: rest) scope pos) spos) (fun D σ H => tComp wi g tt (own.map (·.2)) cs (emD tk tv) (if tup = true then .dT [] else .dK []) σ H fun x H1 => D.nx (σ.set i (some x)) H1) := by
  refine ⟨fun pins s σ H D I h => ?_⟩
  rw [exec_Assign_Name_used _ _ _ _ hsw, arm_evalThenUse_DictComp]
  refine wpAny_bind (wpAny_standAt (wpAny_bind (wpAny_bind (thn (Q := fun _ t => SP X pins D .next t) ?_ fun _ t hq => wpAny_pure (wpAny_pure hq)))))
  refine comp_core (o0 := fun _ => if tup = true then .dT [] else .dK []) (ob := { cls := .type "dict", data := .dict #[] }) (fun D => isComp_dict) hc hN I hi ok hs hpl hg ht hcs hv (fun D => ⟨fun s H C cl fp => emits_dict (B := X.blk s H scope (compEnvC scope cl C X.env) fp) rfl hu (hk.at' s H C cl fp) (he.at' s H C cl fp) D⟩) (fun s P z => wpAny_newObj_type z) (fun hp H' hb => ?_) h fun L C t m H' I' q hn f => ?_
  · cases tup
    · exact dk_empty hp hb
    · exact dt_empty hp hb
  show wpAny _ _ (assign (.Name y py) X.env (.ref L)) _ _ _
  refine wpAny_assign_Name (store_ok2 (v := V.ref L) I' hN hy (.inl hyl) rfl (fun s2 I2 ⟨a, sb, ha⟩ => ?_) (.inr hyl))
  obtain ⟨f0, f1, f2, f3, f4, f5⟩ := f
  have ne : C ≠ a := ha.elim (fun z => by rw [z]; exact f1) fun z q => f4 y a z q.symm
  exact ⟨m, hn.sameBut sb ne, fun h3 sb3 => ⟨_, H', I2.turned (t' := s2.toks) (fun b o hb z => (sb3.2 b hb).trans z) f0 f1 f3 f4 f5, q⟩⟩
end
end VC

set_option Elab.async false
set_option linter.all false
set_option maxRecDepth 100000
set_option maxHeartbeats 2000000
namespace VL
open PySem PySem.Spec PyProof.Rows L2 VC
/-! ### comprehensions with any number of clauses -/
structure Cl where
  it : M (List D)
  t : D → S
  c : M Bool
  vs : List Nat
def loopG {α : Type} (t : D → S) (c : M Bool) (vs : List Nat) (k : α → M α) : List D → α → M α
  | [], a => fun ρ => .ok a ρ
  | d :: r, a => fun ρ => match t d ρ with
    | .nx ρ1 => (match c ρ1 with
      | .ok true ρ2 => (match k a ρ2 with
        | .ok a' ρ3 => loopG t c vs k r a' (forget vs ρ3)
        | _ => .bad)
      | .ok false ρ2 => loopG t c vs k r a (forget vs ρ2)
      | _ => .bad)
    | _ => .bad
def goG {α : Type} (em : α → M α) : List Cl → α → M α
  | [], a => em a
  | x :: r, a => fun ρ => match x.it ρ with
    | .ok ds ρ1 => loopG x.t x.c x.vs (goG em r) ds a (forget x.vs ρ1)
    | _ => .bad
def emLst (e : M D) (xs : List D) : M (List D) := fun ρ => match e ρ with
  | .ok y ρ1 => if xs.length < big then .ok (xs ++ [y]) ρ1 else .bad
  | _ => .bad
def emDct (tup : Bool) (ek ev : M D) (kvs : List (DK × D)) : M (List (DK × D)) := fun ρ => match ek ρ with
  | .ok k ρ1 => (match ev ρ1 with
    | .ok v ρ2 => (match dkey k with
      | some dk => if ((dk.isK == !tup) && (v.fzd || !khas kvs dk) && decide (kvs.length < big)) = true then .ok (kput kvs dk v) ρ2 else .bad
      | none => .bad)
    | _ => .bad)
  | _ => .bad
def gComp {α : Type} (it : M (List D)) (t : D → S) (c : M Bool) (vs : List Nat) (k : α → M α) (a0 : α) (fin : α → D) : M D := fun ρ0 => match it ρ0 with
  | .ok ds ρ => (match loopG t c vs k ds a0 (forget vs ρ) with
    | .ok a ρ1 => .ok (fin a) ρ1
    | _ => .bad)
  | .exc x ρ => .exc x ρ
  | .bad => .bad
section
variable {mg : MG} {W : WX} {σ : L2.St} {F F' F1 : FS} {H H' H1 : Hp} {fp fps fq : List Addr} {X : Cx} {α : Type}
/-- what is gathered moves with what it stands on -/
def Moves (D : Addr) (R : α → FS → Hp → List Addr → Prop) : Prop := ∀ a F F' H H' fa, R a F H fa → Keeps F F' H H' (D :: fa) → R a F' H' fa
/-- the reading k of what stands behind -/
def KOk (mg : MG) (D : Addr) (R : α → FS → Hp → List Addr → Prop) (vk : List Nat) (k : α → M α) (tk : TK) : Prop :=
  ∀ (σ : L2.St) (F : FS) (H : Hp) (ρ : Env) (fps fa : List Addr) (a : α) (N : Hp → Prop), RE mg F H ρ σ fps → R a F H fa → Gd F H ((D :: fa) ++ fps) →
    (match k a ρ with
      | .ok a' ρ' => ∀ (σ' : L2.St) (F' : FS) (H' : Hp) (fps' fa' : List Addr), RE mg F' H' ρ' σ' fps' → wipe σ' vk = wipe σ vk → R a' F' H' fa' → Gd F' H' ((D :: fa') ++ fps') → Rch F H ((D :: fa) ++ fps) F' H' ((D :: fa') ++ fps') → N H'
      | _ => False) → tk σ H N
theorem wipe_in {i : Nat} : ∀ {b : List Nat} {σ : L2.St}, i ∈ b → (wipe σ b)[i]? = if i < σ.length then some none else none
  | j :: r, σ, h => by
    unfold wipe
    by_cases c : j = i
    · subst c
      by_cases hl : j < σ.length
      · rw [List.getElem?_set_self (by rw [wipe_length]; exact hl), if_pos hl]
      · rw [List.getElem?_eq_none (by rw [List.length_set, wipe_length]; omega), if_neg hl]
    · rw [List.getElem?_set_ne c, wipe_in ((List.mem_cons.mp h).resolve_left fun z => c z.symm)]
theorem wipe_mono {a b : List Nat} {σ σ' : L2.St} (h : ∀ i ∈ a, i ∈ b) (e : wipe σ a = wipe σ' a) : wipe σ b = wipe σ' b := by
  have hl : σ.length = σ'.length := by rw [← wipe_length σ a, e, wipe_length]
  refine List.ext_getElem? fun i => ?_
  by_cases c : i ∈ b
  · rw [wipe_in c, wipe_in c, hl]
  · have ca : i ∉ a := fun m => c (h i m)
    rw [wipe_get c, wipe_get c, ← wipe_get ca, e, wipe_get ca]
/-- a loop over J: readings of its target, its test and what stands behind -/
theorem loop_okG {D : Addr} {R : α → FS → Hp → List Addr → Prop} (mv : Moves D R) {J : It} {ds : List VL.D} {t : VL.D → S} {c : M Bool} {vs vk : List Nat} {k : α → M α} {tk : TK} {σ : L2.St} {F0 F1 : FS} {H0 H1 : Hp} {ρ : Env} {fps fa : List Addr} {a : α} {N : Hp → Prop}
    (hk : KOk mg D R vk k tk) (hv : ∀ i ∈ vk, i ∈ vs) (y : Yields mg F0 H0 J ds) (lt0 : Later F0 H0 H1) (mo0 : ∀ a, F0 a → F1 a)
    (hE : RE mg F1 H1 (forget vs ρ) (wipe σ vs) fps) (hR : R a F1 H1 fa) (hG : Gd F1 H1 ((D :: fa) ++ fps))
    (hf : match loopG t c vs k ds a (forget vs ρ) with
      | .ok a' ρ' => ∀ (F' : FS) (H' : Hp) (fps' fa' : List Addr), RE mg F' H' ρ' (wipe σ vs) fps' → R a' F' H' fa' → Gd F' H' ((D :: fa') ++ fps') → Rch F1 H1 ((D :: fa) ++ fps) F' H' ((D :: fa') ++ fps') → N H'
      | _ => False) :
    tLoop (fun v σ H Q => ∃ w0, vGp mg (Wp vs w0) t v σ H Q) (vT mg W0 c) vs tk J σ H1 N := by
  let St : List VL.D → Hp → Prop := fun rest H => ∃ F ρ' fps' fa' a', RE mg F H (forget vs ρ') (wipe σ vs) fps' ∧ R a' F H fa' ∧ Gd F H ((D :: fa') ++ fps') ∧ Later F0 H0 H ∧ (∀ a, F0 a → F a) ∧ Rch F1 H1 ((D :: fa) ++ fps) F H ((D :: fa') ++ fps') ∧
    (match loopG t c vs k rest a' (forget vs ρ') with
      | .ok a2 ρ2 => ∀ (F' : FS) (H' : Hp) (fps' fa' : List Addr), RE mg F' H' ρ2 (wipe σ vs) fps' → R a2 F' H' fa' → Gd F' H' ((D :: fa') ++ fps') → Rch F1 H1 ((D :: fa) ++ fps) F' H' ((D :: fa') ++ fps') → N H'
      | _ => False)
  refine ⟨fun i m H => m = ds.length - i ∧ i ≤ ds.length ∧ St (ds.drop i) H, ⟨ds.length, by simp, Nat.zero_le _, F1, ρ, fps, fa, a, hE, hR, hG, lt0, mo0, Rch.refl, by rw [List.drop_zero]; exact hf⟩, ?_⟩
  rintro i m H3 ⟨rfl, hi, F3, ρ3, fps3, fa3, a3, hE3, hR3, hG3, lt3, mo3, c3, hf3⟩
  by_cases hlt : i < ds.length
  rotate_left
  · have ee : i = ds.length := by omega
    subst ee
    rw [List.drop_length] at hf3
    unfold loopG at hf3
    exact .inl ⟨y.stop H3 lt3, hf3 F3 H3 fps3 fa3 hE3 hR3 hG3 c3⟩
  have ed : ds.drop i = ds[i] :: ds.drop (i + 1) := List.drop_eq_getElem_cons hlt
  rw [ed] at hf3
  refine .inr ⟨y.go H3 i lt3 hlt, fun H' => St (ds.drop (i + 1)) H', fun H' q => ⟨ds.length - (i + 1), by omega, rfl, hlt, q⟩, fun x H4 hy => ?_⟩
  obtain ⟨d, hd, rd, ext⟩ := y.yld H3 i x H4 lt3 hlt hy
  rw [List.getElem?_eq_getElem hlt] at hd
  cases hd
  -- the walk's own step
  have k34 : Keeps F3 F3 H3 H4 ((D :: fa3) ++ fps3) := ⟨fun a f n => ⟨f, by
    cases q : H3 a with
    | none => exact absurd q n
    | some o => exact ext a o q⟩, fun a q => by
    obtain ⟨o, q2, _⟩ := hG3.own a q
    rw [q2]; exact ext a o q2, fun a xs q => ext a _ q⟩
  have hE4 := hE3.move (k34.sub fun a m => List.mem_append_right _ m)
  have hR4 := mv _ _ _ _ _ _ hR3 (k34.sub fun a m => List.mem_append_left _ m)
  have hG4 : Gd F3 H4 ((D :: fa3) ++ fps3) := ⟨hG3.nd, hG3.dis, fun a f => by
    cases q : H3 a with
    | none => exact absurd q (hG3.trk a f)
    | some o => rw [ext a o q]; exact fun z => (nomatch z), fun a q => (hG3.own a q).eq (k34.ow a q)⟩
  have c34 : Rch F3 H3 ((D :: fa3) ++ fps3) F3 H4 ((D :: fa3) ++ fps3) := ⟨fun b o q _ => ext b o q, fun _ f => f, fun _ f => .inl f, fun _ q => .inl q⟩
  have lt4 : Later F0 H0 H4 := lt3.step mo3 hG3 c34
  have c4 := c3.trans c34
  have rd4 := rd.move (F' := F3) ⟨fun a f _ => ⟨mo3 a f, rfl⟩, fun a q => (nomatch q), fun a xs q => q⟩
  unfold loopG at hf3
  cases et : t ds[i] (forget vs ρ3) with
  | nx ρ5 =>
    simp only [et] at hf3
    refine ⟨wipe σ vs, F3, forget vs ρ3, fps3, ds[i], [], rd4, hE4, by simpa using hG4.right, by
      show wipe (wipe σ vs) vs = wipe σ vs
      exact wipe_idem, ?_⟩
    rw [et]
    intro σ5 F5 H5 fps5 hE5 hG5 hw5 c5
    have hw5 : wipe σ5 vs = wipe σ vs := hw5
    refine ⟨hw5, ?_⟩
    have c5 : Rch F3 H4 fps3 F5 H5 fps5 := by simpa using c5
    have g5 := hG4.carry c5 hG5
    have hR5 := mv _ _ _ _ _ _ hR4 (c5.keeps hG4)
    have cc5 := c4.carry c5
    have lt5 : Later F0 H0 H5 := lt4.step mo3 hG4.right c5
    have mo5 : ∀ a, F0 a → F5 a := fun a f => c5.mono a (mo3 a f)
    refine ⟨F5, ρ5, fps5, hE5, g5.right, ?_⟩
    cases ec : c ρ5 with
    | bad => simp only [ec] at hf3
    | exc x1 ρ6 => simp only [ec] at hf3
    | ok b ρ6 =>
      simp only [ec] at hf3
      intro b' F6 H6 fb fps6 rb hE6 hG6 c6
      obtain ⟨rb1, rfl⟩ := rb
      subst rb1
      have hG6 : Gd F6 H6 fps6 := by simpa using hG6
      have c6 : Rch F5 H5 fps5 F6 H6 fps6 := by simpa using c6
      have g6 := g5.carry c6 hG6
      have hR6 := mv _ _ _ _ _ _ hR5 (c6.keeps g5)
      have cc6 := cc5.carry c6
      have lt6 : Later F0 H0 H6 := lt5.step mo5 g5.right c6
      have mo6 : ∀ a, F0 a → F6 a := fun a f => c6.mono a (mo5 a f)
      cases b' with
      | false =>
        simp only [Bool.false_eq_true, if_false] at hf3 ⊢
        obtain ⟨gone7, fps7, hE7, pm7⟩ := re_rewipe hE6 hw5
        have pmw : ((D :: fa3) ++ fps6).Perm (gone7 ++ ((D :: fa3) ++ fps7)) := (List.Perm.append_left _ pm7).trans perm_mid
        exact ⟨F6, ρ6, fps7, fa3, a3, hE7, hR6, (g6.perm pmw).right, lt6, mo6, cc6.sub fun a m => pmw.mem_iff.mpr (List.mem_append_right _ m), hf3⟩
      | true =>
        simp only [if_true] at hf3 ⊢
        refine hk σ5 F6 H6 ρ6 fps6 fa3 a3 _ hE6 hR6 g6 ?_
        cases ek : k a3 ρ6 with
        | bad => simp only [ek] at hf3
        | exc x1 ρ7 => simp only [ek] at hf3
        | ok a7 ρ7 =>
          simp only [ek] at hf3
          intro σ7 F7 H7 fps7 fa7 hE7 hw7 hR7 hG7 c7
          obtain ⟨gone8, fps8, hE8, pm8⟩ := re_rewipe hE7 ((wipe_mono hv hw7).trans hw5)
          have pmw : ((D :: fa7) ++ fps7).Perm (gone8 ++ ((D :: fa7) ++ fps8)) := (List.Perm.append_left _ pm8).trans perm_mid
          exact ⟨F7, ρ7, fps8, fa7, a7, hE8, hR7, (hG7.perm pmw).right, lt6.step mo6 g6 c7, fun a f => c7.mono a (mo6 a f), (cc6.trans c7).sub fun a m => pmw.mem_iff.mpr (List.mem_append_right _ m), hf3⟩
  | _ => simp only [et] at hf3
end
end VL

set_option Elab.async false
set_option linter.all false
set_option maxRecDepth 100000
set_option maxHeartbeats 2000000
namespace VL
open PySem PySem.Spec PyProof.Rows L2 VC
section
variable {mg : MG} {W : WX} {σ : L2.St} {F F' F1 : FS} {H H' H1 : Hp} {fp fps fq : List Addr} {X : Cx} {α : Type}
/-- a clause's readings as the block's parts -/
def Cl.parts (mg : MG) (x : Cl) : TI × TG × TT × List Nat := (vI mg W0 x.it, (fun v σ H Q => ∃ w0, vGp mg (Wp x.vs w0) x.t v σ H Q), vT mg W0 x.c, x.vs)
/-- the slots that the clauses store -/
def slotsOf : List Cl → List Nat
  | [] => []
  | x :: _ => x.vs
/-- each clause forgets what the later ones store -/
def Nested : List Cl → Prop
  | [] => True
  | x :: r => (∀ i ∈ slotsOf r, i ∈ x.vs) ∧ Nested r
theorem goG_ok {D : Addr} {R : α → FS → Hp → List Addr → Prop} (mv : Moves D R) {em : α → M α} {te : TK} (hem : KOk mg D R [] em te) : ∀ {cls : List Cl}, Nested cls → KOk mg D R (slotsOf cls) (goG em cls) (tGo te (cls.map (Cl.parts mg)))
  | [], _ => hem
  | x :: r, hn => fun σ F H ρ fps fa a N hE hR hG hf => by
    have ih := goG_ok mv hem (cls := r) hn.2
    show vI mg W0 x.it σ H _
    have hf : (match (match x.it ρ with
        | .ok ds ρ1 => loopG x.t x.c x.vs (goG em r) ds a (forget x.vs ρ1)
        | _ => .bad) with
      | .ok a' ρ' => ∀ (σ' : L2.St) (F' : FS) (H' : Hp) (fps' fa' : List Addr), RE mg F' H' ρ' σ' fps' → wipe σ' x.vs = wipe σ x.vs → R a' F' H' fa' → Gd F' H' ((D :: fa') ++ fps') → Rch F H ((D :: fa) ++ fps) F' H' ((D :: fa') ++ fps') → N H'
      | _ => False) := hf
    refine ⟨F, ρ, fps, hE, hG.right, ?_⟩
    cases ei : x.it ρ with
    | bad => simp only [ei] at hf
    | exc z ρ1 => simp only [ei] at hf
    | ok ds ρ1 =>
      simp only [ei] at hf
      intro J F1 H1 fps1 y hE1 hG1 c1
      have g1 := hG.carry c1 hG1
      have hR1 := mv _ _ _ _ _ _ hR (c1.keeps hG)
      have cc : Rch F H ((D :: fa) ++ fps) F1 H1 ((D :: fa) ++ fps1) := Rch.refl.carry c1
      obtain ⟨gone, fps2, hE2, pm⟩ := re_wipe (own := x.vs) hE1
      have pmw : ((D :: fa) ++ fps1).Perm (gone ++ ((D :: fa) ++ fps2)) := (List.Perm.append_left _ pm).trans perm_mid
      have g2 := (g1.perm pmw).right
      have cc2 : Rch F H ((D :: fa) ++ fps) F1 H1 ((D :: fa) ++ fps2) := cc.sub fun a m => pmw.mem_iff.mpr (List.mem_append_right _ m)
      refine loop_okG (ρ := ρ1) mv ih hn.1 y Later.refl (fun _ f => f) hE2 hR1 g2 ?_
      cases eg : loopG x.t x.c x.vs (goG em r) ds a (forget x.vs ρ1) with
      | bad => simp only [eg] at hf
      | exc z ρ2 => simp only [eg] at hf
      | ok a' ρ2 =>
        simp only [eg] at hf
        exact fun F' H' fps' fa' hE' hR' hG' c' => hf (wipe σ x.vs) F' H' fps' fa' hE' wipe_idem hR' hG' (cc2.trans c')
/-- a list that gathers -/
def RLst (mg : MG) (D : Addr) (ys : List VL.D) (F : FS) (H : Hp) (fa : List Addr) : Prop := ∃ vs, H D = some (.lst vs) ∧ Rs mg F H vs ys fa
theorem moves_lst {D : Addr} : Moves D (RLst mg D) := fun a F F' H H' fa ⟨vs, h, r⟩ k => ⟨vs, (k.ow D List.mem_cons_self).trans h, r.move (k.sub fun _ m => List.mem_cons_of_mem _ m)⟩
/-- the item joins -/
theorem own_step {p : Addr} {o : HO} {fa fp fps fa2 gone : List Addr} (g : Gd F H (((p :: fa) ++ fp) ++ fps)) (pm : (fa ++ fp).Perm (gone ++ fa2)) (ho : ∀ xs, o ≠ .tup xs) :
    Keeps F F H (upd H p o) (fa2 ++ fps) ∧ Gd F (upd H p o) ((p :: fa2) ++ fps) ∧ Rch F H (((p :: fa) ++ fp) ++ fps) F (upd H p o) ((p :: fa2) ++ fps) := by
  have pmw : (((p :: fa) ++ fp) ++ fps).Perm (gone ++ ((p :: fa2) ++ fps)) := by
    have q1 : (((p :: fa) ++ fp) ++ fps).Perm (p :: ((gone ++ fa2) ++ fps)) := ((pm.append_right fps).cons p)
    have q2 : (p :: ((gone ++ fa2) ++ fps)).Perm (gone ++ (p :: (fa2 ++ fps))) := by
      rw [List.append_assoc]; exact List.perm_middle.symm
    exact q1.trans q2
  have g2 := (g.perm pmw).right
  obtain ⟨kp, gd, rc⟩ := own_upd (p := p) (o := o) (fp := fa2 ++ fps) (W2 := (p :: fa2) ++ fps) (g2.own p List.mem_cons_self) (by simpa using g2) ho (fun a m => by simpa using m)
  refine ⟨kp, gd g2.nd, ?_⟩
  have c0 : Rch F H (((p :: fa) ++ fp) ++ fps) F H (p :: (fa2 ++ fps)) := Rch.refl.sub fun a m => pmw.mem_iff.mpr (List.mem_append_right _ m)
  exact c0.trans rc
theorem em_lst {D : Addr} {e : M VL.D} {te : TE} (he : ∀ σ H Q, vE mg W0 e σ H Q → te σ H Q) : KOk mg D (RLst mg D) [] (emLst e) (emL te D) := by
  intro σ F H ρ fps fa a N hE hR hG hf
  refine he _ _ _ ⟨F, ρ, fps, hE, hG.right, ?_⟩
  unfold emLst at hf
  cases ee : e ρ with
  | bad => simp only [ee] at hf
  | exc x ρ1 => simp only [ee] at hf
  | ok y ρ1 =>
    simp only [ee] at hf
    split at hf
    rotate_left
    · rename_i q; split at q <;> first | cases q | exact hf.elim
    rename_i a' ρ' q
    split at q
    rotate_left
    · cases q
    cases q
    rename_i hl
    intro v F1 H1 fy fps1 ry hE1 hG1 c1
    have g1 := hG.carry c1 hG1
    obtain ⟨ws, hD1, ra1⟩ := moves_lst _ _ _ _ _ _ hR (c1.keeps hG)
    have cc : Rch F H ((D :: fa) ++ fps) F1 H1 ((D :: fa) ++ (fy ++ fps1)) := Rch.refl.carry c1
    have lw := ra1.len
    refine ⟨ws, hD1, by have := big_line; omega, ?_⟩
    have eq : (D :: fa) ++ (fy ++ fps1) = ((D :: fa) ++ fy) ++ fps1 := by rw [List.append_assoc]
    rw [eq] at g1 cc
    obtain ⟨kp, gd, rc⟩ := own_step (o := .lst (ws ++ [v])) (gone := []) (fa2 := fa ++ (fy ++ [])) g1 (by simp) (fun _ z => nomatch z)
    exact hf σ F1 (upd H1 D (.lst (ws ++ [v]))) fps1 _ (hE1.move (kp.sub fun a m => List.mem_append_right _ m)) rfl ⟨_, upd_same, (ra1.app (.cons ry .nil)).move (kp.sub fun a m => List.mem_append_left _ m)⟩ gd (cc.trans rc)
/-- a dict that gathers -/
def RDct (mg : MG) (tup : Bool) (D : Addr) (ys : List (DK × VL.D)) (F : FS) (H : Hp) (fa : List Addr) : Prop := ∃ ob kvs, H D = some ob ∧ DHO tup ob kvs ∧ kvs.map (·.1) = ys.map (·.1) ∧ Rs mg F H (kvs.map (·.2)) (ys.map (·.2)) fa
theorem moves_dct {tup : Bool} {D : Addr} : Moves D (RDct mg tup D) := fun a F F' H H' fa ⟨ob, kvs, h, o, q, r⟩ k => ⟨ob, kvs, (k.ow D List.mem_cons_self).trans h, o, q, r.move (k.sub fun _ m => List.mem_cons_of_mem _ m)⟩
theorem em_dct {tup : Bool} {D : Addr} {ek ev : M VL.D} {tk tv : TE} (hek : ∀ σ H Q, vE mg W0 ek σ H Q → tk σ H Q) (hev : ∀ σ H Q, vE mg W0 ev σ H Q → tv σ H Q) : KOk mg D (RDct mg tup D) [] (emDct tup ek ev) (emD tk tv D) := by
  intro σ F H ρ fps fa a N hE hR hG hf
  refine hek _ _ _ ⟨F, ρ, fps, hE, hG.right, ?_⟩
  unfold emDct at hf
  cases e1 : ek ρ with
  | bad => simp only [e1] at hf
  | exc x ρ1 => simp only [e1] at hf
  | ok kd ρ1 =>
    simp only [e1] at hf
    intro kv F1 H1 fk fps1 rk hE1 hG1 c1
    have g1 := hG.carry c1 hG1
    have hR1 := moves_dct _ _ _ _ _ _ hR (c1.keeps hG)
    have cc1 : Rch F H ((D :: fa) ++ fps) F1 H1 ((D :: fa) ++ (fk ++ fps1)) := Rch.refl.carry c1
    have eq1 : (D :: fa) ++ (fk ++ fps1) = ((D :: fa) ++ fk) ++ fps1 := by rw [List.append_assoc]
    rw [eq1] at g1 cc1
    refine hev _ _ _ ⟨F1, ρ1, fps1, hE1, g1.right, ?_⟩
    cases e2 : ev ρ1 with
    | bad => simp only [e2] at hf
    | exc x ρ2 => simp only [e2] at hf
    | ok vd ρ2 =>
      simp only [e2] at hf
      cases hdk : dkey kd with
      | none => simp only [hdk] at hf
      | some dk =>
      simp only [hdk] at hf
      by_cases hck : ((dk.isK == !tup) && (vd.fzd || !khas a dk) && decide (a.length < big)) = true
      rotate_left
      · simp only [if_neg hck] at hf
      simp only [if_pos hck] at hf
      simp only [Bool.and_eq_true, beq_iff_eq, decide_eq_true_eq] at hck
      obtain ⟨⟨hk1, hk2⟩, hk3⟩ := hck
      intro vv F2 H2 fv fps2 rv hE2 hG2 c2
      have g2 := g1.carry c2 hG2
      have kp2 := c2.keeps g1
      have rk2 := rk.move (kp2.sub fun a m => List.mem_append_right _ m)
      obtain ⟨ob, kvs, hD2, od2, q2, r2⟩ := moves_dct _ _ _ _ _ _ hR1 (kp2.sub fun a m => List.mem_append_left _ m)
      have cc2 : Rch F H ((D :: fa) ++ fps) F2 H2 (((D :: fa) ++ fk) ++ (fv ++ fps2)) := cc1.carry c2
      have lk : kvs.length = a.length := by have := congrArg List.length q2; simpa using this
      obtain ⟨ob', od', dp⟩ := dput_of (w := vv) hD2 od2 rk2 hdk hk1 (by omega)
      refine ⟨_, dp, ?_⟩
      obtain ⟨gone, f3, r3, pm⟩ := kput_rel (k := dk) q2 r2 rv hk2
      have pmA : ((((D :: fa) ++ fk) ++ (fv ++ fps2))).Perm (fk ++ (((D :: fa) ++ fv) ++ fps2)) := by
        have z1 : (((D :: fa) ++ fk) ++ (fv ++ fps2)).Perm (fk ++ ((D :: fa) ++ (fv ++ fps2))) := by
          rw [List.append_assoc]; exact perm_mid
        rw [← List.append_assoc (D :: fa)] at z1
        exact z1
      have g3 := (g2.perm pmA).right
      have cc3 := cc2.sub fun x (m : x ∈ ((D :: fa) ++ fv) ++ fps2) => pmA.mem_iff.mpr (List.mem_append_right _ m)
      obtain ⟨kp, gd, rc⟩ := own_step (o := ob') (gone := gone) (fa2 := f3) g3 pm od'.ne
      exact hf σ F2 (upd H2 D ob') fps2 f3 (hE2.move (kp.sub fun a m => List.mem_append_right _ m)) rfl ⟨ob', kput kvs dk vv, upd_same, od', kput_fst q2, r3.move (kp.sub fun a m => List.mem_append_left _ m)⟩ gd (cc3.trans rc)
theorem loopG_own {t : VL.D → S} {c : M Bool} {vs : List Nat} {k : α → M α} : ∀ {ds : List VL.D} {a a' : α} {ρ ρ' : Env}, loopG t c vs k ds a (forget vs ρ) = .ok a' ρ' → ∃ ρ2, ρ' = forget vs ρ2
  | [], a, a', ρ, ρ', h => by
    unfold loopG at h
    injection h with _ h2
    exact ⟨ρ, h2.symm⟩
  | d :: r, a, a', ρ, ρ', h => by
    unfold loopG at h
    split at h
    · split at h
      · split at h
        · exact loopG_own h
        · cases h
      · exact loopG_own h
      · cases h
    · cases h
/-- the comprehension's reading, to what its machine asks -/
theorem comp_ok {it : M (List VL.D)} {x : Cl} {cls : List Cl} {em : α → M α} {emT : Addr → TK} {R : Addr → α → FS → Hp → List Addr → Prop} {a0 : α} {fin : α → VL.D} {o0 : HO} {Q : VK} (mv : ∀ D, Moves D (R D)) (hem : ∀ D, KOk mg D (R D) [] em (emT D)) (hn : (∀ i ∈ slotsOf cls, i ∈ x.vs) ∧ Nested cls)
    (h0 : ∀ D F H, H D = some o0 → R D a0 F H []) (ho : ∀ xs, o0 ≠ .tup xs) (hfin : ∀ D a F H fa, R D a F H fa → VL.R mg F H (.ref D) (fin a) (D :: fa))
    (h : vE mg W (gComp it x.t x.c x.vs (goG em cls) a0 fin) σ H Q) : tComp (vI mg W it) (Cl.parts mg x).2.1 (Cl.parts mg x).2.2.1 x.vs (cls.map (Cl.parts mg)) emT o0 σ H Q := by
  obtain ⟨F, ρ, fps, hE, hG, hP⟩ := h
  refine ⟨F, ρ, fps, hE, hG, ?_⟩
  unfold gComp at hP
  cases ei : it ρ with
  | bad => rw [ei] at hP; exact hP
  | exc z ρ1 => rw [ei] at hP; exact hP
  | ok ds ρ1 =>
    simp only [ei] at hP
    intro J F1 H1 fps1 y hE1 hG1 c1 D nD
    obtain ⟨gone, fps2, hE2, pm2⟩ := re_wipe (own := x.vs) hE1
    have hG2 := (hG1.perm pm2).right
    have c2 : Rch F H fps F1 H1 fps2 := c1.sub fun a m => pm2.mem_iff.mpr (List.mem_append_right _ m)
    have g3 : Gd F1 (upd H1 D o0) ((D :: []) ++ fps2) := ⟨List.nodup_cons.mpr ⟨fun m => (hG2.own D (by simpa using m)).trk nD, by simpa using hG2.nd⟩, fun a m f => by
      rcases List.mem_cons.mp m with rfl | m
      · exact hG2.trk a f nD
      · exact hG2.dis a (by simpa using m) f, fun a f => trk_alloc hG2 a (.inl f), fun a m => by
      rcases List.mem_cons.mp m with rfl | m
      · exact ⟨_, upd_same, ho⟩
      · exact (hG2.own a (by simpa using m)).eq (upd_ne fun z => (hG2.own a (by simpa using m)).trk (by rw [z]; exact nD))⟩
    have c3 : Rch F H fps F1 (upd H1 D o0) ((D :: []) ++ fps2) := c2.trans (Rch.alloc nD F1 (fun _ f => f) (fun _ f => .inl f) fun a m => by
      rcases List.mem_cons.mp m with rfl | m
      · exact .inr rfl
      · exact .inl (by simpa using m))
    refine loop_okG (ρ := ρ1) (fa := []) (a := a0) (mv D) (goG_ok (mv D) (hem D) hn.2) hn.1 y ⟨fun a f => upd_ne fun z => hG2.trk a f (by rw [z]; exact nD), fun a xs q => by rw [upd_ne (ne_of_none q nD)]; exact q⟩ (fun _ f => f) (hE2.move (keeps_alloc nD F1 (fun _ f => f) hE2.own)) (h0 D _ _ upd_same) g3 ?_
    cases eg : loopG x.t x.c x.vs (goG em cls) ds a0 (forget x.vs ρ1) with
    | bad => simp only [eg] at hP; exact hP
    | exc z ρ2 => simp only [eg] at hP; exact hP
    | ok a' ρ2 =>
      simp only [eg] at hP
      obtain ⟨ρ3, rfl⟩ : ∃ ρ3, ρ2 = forget x.vs ρ3 := loopG_own eg
      exact fun F' H' fps' fa' hE' hR' hG' c' => hP (.ref D) F' H' (D :: fa') fps' (hfin D a' F' H' fa' hR') (re_unwipe hE') hG' (c3.trans c')
end
end VL

set_option Elab.async false
set_option linter.all false
set_option maxRecDepth 100000
set_option maxHeartbeats 2000000
namespace VL
open PySem PySem.Spec PyProof.Rows L2 VC
/-! ### comprehensions of any number of clauses, as values and stored -/
def PlainA (gens : List Comprehension) : Prop := ∀ c ∈ gens, c.is_async = 0 ∧ ∀ env x, foldedSetIterable c.iter env x = pure x
theorem plain_nil : PlainA [] := fun _ m => (nomatch m)
theorem plain_cons {tg iter : Expr} {ifs : List Expr} {r : List Comprehension} (h : ∀ env x, foldedSetIterable iter env x = pure x) (hr : PlainA r) : PlainA (⟨tg, iter, ifs, 0⟩ :: r) := fun c m => by
  rcases List.mem_cons.mp m with rfl | m
  · exact ⟨rfl, h⟩
  · exact hr c m
section
variable {mg : MG} {W : WX} {X B : Cx} {us : List Nat} {vs : List V}
theorem vparts_nil : Parts B [] ([].map (Cl.parts mg)) (slotsOf []) := .nil
theorem vparts_cons {x : Cl} {cls : List Cl} {tg iter : Expr} {ifs : List Expr} {r : List Comprehension} (hi : PI B tg iter (vI mg W0 x.it)) (hg : ∀ w0, PG B tg (vGp mg (Wp x.vs w0) x.t)) (ht : PTs B ifs (vT mg W0 x.c)) (hv : ∀ i ∈ slotsOf cls, i ∈ x.vs) (hr : Parts B r (cls.map (Cl.parts mg)) (slotsOf cls)) :
    Parts B (⟨tg, iter, ifs, 0⟩ :: r) ((x :: cls).map (Cl.parts mg)) (slotsOf (x :: cls)) := .cons hi (pg_vC hg) ht hv hr
/-- a list; a dict by ints and texts, or by tuples -/
def gCompL (it : M (List VL.D)) (x : Cl) (cls : List Cl) (e : M VL.D) : M VL.D := gComp it x.t x.c x.vs (goG (emLst e) cls) [] fun ys => .lst true ys
def gCompD (tup : Bool) (it : M (List VL.D)) (x : Cl) (cls : List Cl) (ek ev : M VL.D) : M VL.D := gComp it x.t x.c x.vs (goG (emDct tup ek ev) cls) [] fun ys => .dct true tup ys
variable {tg iter elt kx vx : Expr} {ifs : List Expr} {rest : List Comprehension} {scope : Scope} {own : List (Str × Nat)} {pos : Pos} {it : M (List VL.D)} {x : Cl} {cls : List Cl} {e ek ev : M VL.D}
theorem compL_ok {σ : L2.St} {H : Hp} {Q : VK} (hn : (∀ i ∈ slotsOf cls, i ∈ x.vs) ∧ Nested cls) (h : vE mg W (gCompL it x cls e) σ H Q) : tComp (vI mg W it) (Cl.parts mg x).2.1 (Cl.parts mg x).2.2.1 x.vs (cls.map (Cl.parts mg)) (emL (vE mg W0 e)) (.lst []) σ H Q :=
  comp_ok (fun _ => moves_lst) (fun _ => em_lst fun _ _ _ z => z) hn (fun D F H z => ⟨[], z, .nil⟩) (fun _ z => nomatch z) (fun D a F H fa ⟨ws, z, r⟩ => .lstO z r) h
theorem dho_nil (tup : Bool) : DHO tup (if tup = true then .dT [] else .dK []) [] := by
  cases tup
  · exact .inl ⟨rfl, [], rfl, rfl⟩
  · exact .inr ⟨rfl, [], rfl, rfl⟩
theorem compD_ok {tup : Bool} {σ : L2.St} {H : Hp} {Q : VK} (hn : (∀ i ∈ slotsOf cls, i ∈ x.vs) ∧ Nested cls) (h : vE mg W (gCompD tup it x cls ek ev) σ H Q) : tComp (vI mg W it) (Cl.parts mg x).2.1 (Cl.parts mg x).2.2.1 x.vs (cls.map (Cl.parts mg)) (emD (vE mg W0 ek) (vE mg W0 ev)) (if tup = true then .dT [] else .dK []) σ H Q :=
  comp_ok (R := RDct mg tup) (fun _ => moves_dct) (fun _ => em_dct (fun _ _ _ z => z) fun _ _ _ z => z) hn (fun D F H z => ⟨_, [], z, dho_nil tup, rfl, .nil⟩) (fun xs z => by cases tup <;> cases z) (fun D a F H fa ⟨ob, kvs, z, o, q, r⟩ => .dctO z o q r) h
theorem ve_compL (hc : X.calm = true) (hN : X.N.Nodup) (hi : PI X tg iter (vI mg W it)) (ok : BlkOk X.N X.env.scope scope own) (ho : x.vs = own.map (·.2)) (hpl : PlainA (⟨tg, iter, ifs, 0⟩ :: rest))
    (hg : Blk X scope fun B => ∀ w0, PG B tg (vGp mg (Wp x.vs w0) x.t)) (ht : Blk X scope fun B => PTs B ifs (vT mg W0 x.c)) (hcs : BlkP X scope fun B => Parts B rest (cls.map (Cl.parts mg)) (slotsOf cls)) (hn : (∀ i ∈ slotsOf cls, i ∈ x.vs) ∧ Nested cls) (he : Blk X scope fun B => PE B elt (vE mg W0 e)) :
    PE X (.ListComp elt (⟨tg, iter, ifs, 0⟩ :: rest) scope pos) (vE mg W (gCompL it x cls e)) :=
  pe_imp (pe_compL hc hN hi ok ((hpl _ List.mem_cons_self).2 _) (plain1 hpl) ⟨fun s H C cl fp => pg_vC (hg.ok s H C cl fp)⟩ ⟨fun s H C cl fp => ht.ok s H C cl fp⟩ hcs (by rw [← ho]; exact hn.1) ⟨fun s H C cl fp => he.ok s H C cl fp⟩) fun σ H Q h => by
    rw [← ho]; exact compL_ok hn h
theorem ve_compD {tup : Bool} (hu : X.A.units + 1 < cLine) (hc : X.calm = true) (hN : X.N.Nodup) (hi : PI X tg iter (vI mg W it)) (ok : BlkOk X.N X.env.scope scope own) (ho : x.vs = own.map (·.2)) (hpl : PlainA (⟨tg, iter, ifs, 0⟩ :: rest))
    (hg : Blk X scope fun B => ∀ w0, PG B tg (vGp mg (Wp x.vs w0) x.t)) (ht : Blk X scope fun B => PTs B ifs (vT mg W0 x.c)) (hcs : BlkP X scope fun B => Parts B rest (cls.map (Cl.parts mg)) (slotsOf cls)) (hn : (∀ i ∈ slotsOf cls, i ∈ x.vs) ∧ Nested cls) (hk : Blk X scope fun B => PE B kx (vE mg W0 ek)) (he : Blk X scope fun B => PE B vx (vE mg W0 ev)) :
    PE X (.DictComp kx vx (⟨tg, iter, ifs, 0⟩ :: rest) scope pos) (vE mg W (gCompD tup it x cls ek ev)) :=
  pe_imp (pe_compD tup hu hc hN hi ok ((hpl _ List.mem_cons_self).2 _) (plain1 hpl) ⟨fun s H C cl fp => pg_vC (hg.ok s H C cl fp)⟩ ⟨fun s H C cl fp => ht.ok s H C cl fp⟩ hcs (by rw [← ho]; exact hn.1) ⟨fun s H C cl fp => hk.ok s H C cl fp⟩ ⟨fun s H C cl fp => he.ok s H C cl fp⟩) fun σ H Q h => by
    rw [← ho]; exact compD_ok hn h
variable {i : Nat} {y : Str} {py spos : Pos}
theorem vs_setCompL (hc : X.calm = true) (hN : X.N.Nodup) (hy : X.N[i]? = some y) (hyl : X.env.scope.names.lookup y = some .local) (hu : i ∉ us) (hsw : swapsWith (.ListComp elt (⟨tg, iter, ifs, 0⟩ :: rest) scope pos) (some (.Name y py)) spos.line X.env = pure true) (hi : PI X tg iter (vI mg W it)) (ok : BlkOk X.N X.env.scope scope own) (ho : x.vs = own.map (·.2)) (hpl : PlainA (⟨tg, iter, ifs, 0⟩ :: rest))
    (hg : Blk X scope fun B => ∀ w0, PG B tg (vGp mg (Wp x.vs w0) x.t)) (ht : Blk X scope fun B => PTs B ifs (vT mg W0 x.c)) (hcs : BlkP X scope fun B => Parts B rest (cls.map (Cl.parts mg)) (slotsOf cls)) (hn : (∀ i ∈ slotsOf cls, i ∈ x.vs) ∧ Nested cls) (he : Blk X scope fun B => PE B elt (vE mg W0 e)) :
    PS X (.Assign [.Name y py] (.ListComp elt (⟨tg, iter, ifs, 0⟩ :: rest) scope pos) spos) (vS mg W us vs (sSet i (gCompL it x cls e))) :=
  ps_imp (ps_setCompL (i := i) hc hN hy hyl hsw hi ok ((hpl _ List.mem_cons_self).2 _) (plain1 hpl) ⟨fun s H C cl fp => pg_vC (hg.ok s H C cl fp)⟩ ⟨fun s H C cl fp => ht.ok s H C cl fp⟩ hcs (by rw [← ho]; exact hn.1) ⟨fun s H C cl fp => he.ok s H C cl fp⟩) fun D σ H h => by
    rw [← ho]
    exact compL_ok (Q := fun x H1 => D.nx (σ.set i (some x)) H1) hn (vS.bind (L := rD mg) h fun d ρ v F H' fp fps r hE hG hp hP => store_slot r hE hG hp hu hP)
theorem vs_setCompD {tup : Bool} (hcl : X.A.units + 1 < cLine) (hc : X.calm = true) (hN : X.N.Nodup) (hy : X.N[i]? = some y) (hyl : X.env.scope.names.lookup y = some .local) (hu : i ∉ us) (hsw : swapsWith (.DictComp kx vx (⟨tg, iter, ifs, 0⟩ :: rest) scope pos) (some (.Name y py)) spos.line X.env = pure true) (hi : PI X tg iter (vI mg W it)) (ok : BlkOk X.N X.env.scope scope own) (ho : x.vs = own.map (·.2)) (hpl : PlainA (⟨tg, iter, ifs, 0⟩ :: rest))
    (hg : Blk X scope fun B => ∀ w0, PG B tg (vGp mg (Wp x.vs w0) x.t)) (ht : Blk X scope fun B => PTs B ifs (vT mg W0 x.c)) (hcs : BlkP X scope fun B => Parts B rest (cls.map (Cl.parts mg)) (slotsOf cls)) (hn : (∀ i ∈ slotsOf cls, i ∈ x.vs) ∧ Nested cls) (hk : Blk X scope fun B => PE B kx (vE mg W0 ek)) (he : Blk X scope fun B => PE B vx (vE mg W0 ev)) :
    PS X (.Assign [.Name y py] (.DictComp kx vx (⟨tg, iter, ifs, 0⟩ :: rest) scope pos) spos) (vS mg W us vs (sSet i (gCompD tup it x cls ek ev))) :=
  ps_imp (ps_setCompD (i := i) tup hcl hc hN hy hyl hsw hi ok ((hpl _ List.mem_cons_self).2 _) (plain1 hpl) ⟨fun s H C cl fp => pg_vC (hg.ok s H C cl fp)⟩ ⟨fun s H C cl fp => ht.ok s H C cl fp⟩ hcs (by rw [← ho]; exact hn.1) ⟨fun s H C cl fp => hk.ok s H C cl fp⟩ ⟨fun s H C cl fp => he.ok s H C cl fp⟩) fun D σ H h => by
    rw [← ho]
    exact compD_ok (Q := fun x H1 => D.nx (σ.set i (some x)) H1) hn (vS.bind (L := rD mg) h fun d ρ v F H' fp fps r hE hG hp hP => store_slot r hE hG hp hu hP)
end
end VL

set_option Elab.async false
set_option linter.all false
set_option maxRecDepth 100000
set_option maxHeartbeats 2000000
namespace VL
open PySem PySem.Spec PyProof.Rows L2 VC
/-! ### walks over the keys of a dict: it is locked while they last -/
/-- H2 is H, but for a dict at x that is locked, or not any more -/
structure Swp (H H2 : Hp) (x : Addr) : Prop where
  ne : ∀ a, a ≠ x → H2 a = H a
  rd : ∀ w, (∀ o z, w ≠ HO.frz o z) → Rd H x w → Rd H2 x w
  tp : ∀ xs, H x ≠ some (.tup xs)
  ni : ∀ C dx fs, H x ≠ some (.ins C dx fs)
  tr : H2 x ≠ none
  ft : ∀ o xs, H x ≠ some (.frz o (.tup xs))
  ex : ∀ φ, H x ≠ some (.ext φ)
section
variable {mg : MG} {W : WX} {σ : L2.St} {F F' : FS} {H H' H2 : Hp} {fp fps : List Addr} {X : Cx} {us : List Nat} {vs : List V} {x : Addr} {u : HO} {od : Obj}
theorem DHO.nofrz {t : Bool} {o : HO} {kvs : List (DK × V)} (h : DHO t o kvs) : ∀ a z, o ≠ .frz a z := fun a z e => by
  rcases h with ⟨_, l, rfl, _⟩ | ⟨_, l, rfl, _⟩ <;> cases e
theorem Swp.lock {t : Bool} {kvs : List (DK × V)} (h : H x = some u) (hu : DHO t u kvs) : Swp H (upd H x (.frz od u)) x where
  ne := fun a n => upd_ne n
  rd := fun w nw r => by
    rcases r with r | ⟨o, r⟩
    · rw [h] at r; cases r; exact .inr ⟨od, upd_same⟩
    · rw [h] at r; cases r; exact (hu.nofrz _ _ rfl).elim
  tp := fun xs e => by rw [h] at e; cases e; exact hu.ne _ rfl
  ni := fun C dx fs e => by
    rw [h] at e; cases e
    rcases hu with ⟨_, l, e, _⟩ | ⟨_, l, e, _⟩ <;> cases e
  tr := by rw [upd_same]; exact fun z => nomatch z
  ft := fun o xs e => by rw [h] at e; cases e; exact hu.nofrz _ _ rfl
  ex := fun φ e => by
    rw [h] at e; cases e
    rcases hu with ⟨_, l, e, _⟩ | ⟨_, l, e, _⟩ <;> cases e
theorem Swp.unlock {t : Bool} {kvs : List (DK × V)} (hu : DHO t u kvs) (h : H x = some (.frz od u)) : Swp H (upd H x u) x where
  ne := fun a n => upd_ne n
  rd := fun w nw r => by
    rcases r with r | ⟨o, r⟩
    · rw [h] at r; cases r; exact (nw _ _ rfl).elim
    · rw [h] at r; cases r; exact .inl upd_same
  tp := fun xs e => by rw [h] at e; cases e
  ni := fun C dx fs e => by rw [h] at e; cases e
  tr := by rw [upd_same]; exact fun z => nomatch z
  ft := fun o xs e => by rw [h] at e; cases e; exact hu.ne _ rfl
  ex := fun φ e => by rw [h] at e; cases e
theorem Swp.rdA (s : Swp H H2 x) {a : Addr} {w : HO} (nw : ∀ o z, w ≠ HO.frz o z) (r : Rd H a w) : Rd H2 a w := by
  by_cases e : a = x
  · subst e; exact s.rd w nw r
  · exact Rd.eq r (s.ne a e)
theorem Swp.tup (s : Swp H H2 x) {a : Addr} {xs : List V} (e : H a = some (.tup xs)) : H2 a = some (.tup xs) := (s.ne a fun z => s.tp xs (z ▸ e)).trans e
theorem Swp.ftp (s : Swp H H2 x) {a : Addr} {o : Obj} {xs : List V} (e : H a = some (.frz o (.tup xs))) : H2 a = some (.frz o (.tup xs)) := (s.ne a fun z => s.ft o xs (z ▸ e)).trans e
theorem Swp.ins (s : Swp H H2 x) {a C dx : Addr} {fs : List (Str × V)} (e : H a = some (.ins C dx fs)) : H2 a = some (.ins C dx fs) := (s.ne a fun z => s.ni C dx fs (z ▸ e)).trans e
end
section
variable {mg : MG} {F : FS} {H H2 : Hp} {x : Addr}
theorem lst_nofrz {xs : List V} : ∀ o z, HO.lst xs ≠ HO.frz o z := fun _ _ z => nomatch z
theorem ne_of_nin {a x : Addr} {l : List Addr} (n : x ∉ a :: l) : a ≠ x := fun e => n (e ▸ List.mem_cons_self)
theorem nin_tail {a x : Addr} {l : List Addr} (n : x ∉ a :: l) : x ∉ l := fun m => n (List.mem_cons_of_mem _ m)
theorem nin_l {x : Addr} {l m : List Addr} (n : x ∉ l ++ m) : x ∉ l := fun z => n (List.mem_append_left _ z)
theorem nin_r {x : Addr} {l m : List Addr} (n : x ∉ l ++ m) : x ∉ m := fun z => n (List.mem_append_right _ z)
mutual
theorem R.swp : ∀ {v : V} {d : VL.D} {fp : List Addr}, R mg F H v d fp → Swp H H2 x → x ∉ fp → R mg F H2 v d fp
  | _, _, _, .non, _, _ => .non
  | _, _, _, .bl b, _, _ => .bl b
  | _, _, _, .int i, _, _ => .int i
  | _, _, _, .str z, _, _ => .str z
  | _, _, _, .ty n, _, _ => .ty n
  | _, _, _, .cls m, _, _ => .cls m
  | _, _, _, .scr e, s, _ => .scr (e.imp_right fun ⟨f, q⟩ => ⟨f, s.rdA lst_nofrz q⟩)
  | _, _, _, .tup e r, s, _ => .tup (s.tup e) (r.swp s List.not_mem_nil)
  | _, _, _, .ptp f e o r, s, _ => .ptp f (s.ftp e) o (r.swp s List.not_mem_nil)
  | _, _, _, .tabF, _, _ => .tabF
  | _, _, _, .tabO t e ok h, s, n => .tabO t ((s.ne _ (ne_of_nin n)).trans e) ok fun pos cv m => by
    obtain ⟨c, e1, e2, e3⟩ := h pos cv m
    exact ⟨c, e1, e2, (s.ne c fun z => s.ex _ (z ▸ e3)).trans e3⟩
  | _, _, _, .lstF f e r, s, _ => .lstF f (s.rdA lst_nofrz e) (r.swp s List.not_mem_nil)
  | _, _, _, .lstO e r, s, n => .lstO ((s.ne _ (ne_of_nin n)).trans e) (r.swp s (nin_tail n))
  | _, _, _, .dctF f e o q r, s, _ => .dctF f (s.rdA o.nofrz e) o q (r.swp s List.not_mem_nil)
  | _, _, _, .dctO e o q r, s, n => .dctO ((s.ne _ (ne_of_nin n)).trans e) o q (r.swp s (nin_tail n))
  | _, _, _, .insF f e m q r, s, _ => .insF f (s.ins e) m q (r.swp s List.not_mem_nil)
  | _, _, _, .insO e m q r, s, n => .insO (s.ins e) m q (r.swp s (nin_tail n))
theorem Rs.swp : ∀ {vs : List V} {ds : List VL.D} {fp : List Addr}, Rs mg F H vs ds fp → Swp H H2 x → x ∉ fp → Rs mg F H2 vs ds fp
  | _, _, _, .nil, _, _ => .nil
  | _, _, _, .cons r rs, s, n => .cons (r.swp s (nin_l n)) (rs.swp s (nin_r n))
end
end
section
variable {mg : MG} {W : WX} {σ : L2.St} {F F' : FS} {H H' H2 : Hp} {fp fps : List Addr} {X : Cx} {us : List Nat} {vs : List V} {x : Addr} {u : HO} {od : Obj}
theorem RE.swp (s : Swp H H2 x) : ∀ {ρ : Env} {σ : L2.St} {fp : List Addr}, RE mg F H ρ σ fp → x ∉ fp → RE mg F H2 ρ σ fp
  | _, _, _, .nil, _ => .nil
  | _, _, _, .skip r, n => .skip (r.swp s n)
  | _, _, _, .cons r rs, n => .cons (r.swp s fun m => n (List.mem_append_left _ m)) (rs.swp s fun m => n (List.mem_append_right _ m))
theorem Gd.swp (s : Swp H H2 x) (g : Gd F H fps) (n : x ∉ fps) : Gd F H2 fps := ⟨g.nd, g.dis, fun a f => by
  by_cases e : a = x
  · subst e; exact s.tr
  · rw [s.ne a e]; exact g.trk a f, fun a m => (g.own a m).eq (s.ne a fun z => n (z ▸ m))⟩
/-- what was done while x was locked, seen from outside -/
theorem Rch.unlocked {W' : List Addr} (h : H x = some u) (n : x ∉ fps) (c : Rch F (upd H x (.frz od u)) fps F' H' W') : H' x = some (.frz od u) ∧ Rch F H fps F' (upd H' x u) W' := by
  refine ⟨c.keep x _ upd_same n, fun b o e nb => ?_, c.mono, fun a f => ?_, fun a m => ?_⟩
  · by_cases z : b = x
    · subst z; rw [upd_same, ← e, h]
    · rw [upd_ne z]; exact c.keep b o (by rw [upd_ne z]; exact e) nb
  · refine (c.new a f).imp_right (Or.imp_right fun z => ?_)
    by_cases e : a = x
    · subst e; rw [upd_same] at z; cases z
    · rw [upd_ne e] at z; exact z
  · refine (c.fpn a m).imp_right fun z => ?_
    by_cases e : a = x
    · subst e; rw [upd_same] at z; cases z
    · rw [upd_ne e] at z; exact z
def keysD (kvs : List (DK × VL.D)) : List VL.D := kvs.map fun kv => dOfDK kv.1
/-- where a walked dict stands: in a slot, or as an item of a slot's dict by a slot's key -/
inductive Src where
  | slot (i : Nat) | ix (i j : Nat)
def Src.at (z : Src) (ρ : Env) : Option (Bool × List (DK × VL.D) × Env) := match z with
  | .slot i => match ρ[i]? with
    | some (some (.dct o t kvs)) => some (t, kvs, ρ.set i (some (.dct false t (fzK kvs))))
    | _ => none
  | .ix i j => match ρ[i]?, ρ[j]? with
    | some (some (.dct o t2 kvs2)), some (some k) => (match fIx (.dct o t2 kvs2) k with
      | some (.dct false t kvs) => some (t, kvs, ρ)
      | _ => none)
    | _, _ => none
/-- the expression e tells the dict of z, and leaves all as it is -/
structure SrcOk (X : Cx) (mg : MG) (e : Expr) (td : TE) (z : Src) : Prop where
  pe : PE X e td
  at' : ∀ {σ : L2.St} {F : FS} {H : Hp} {ρ ρ' : Env} {fps : List Addr} {t : Bool} {ds : List (DK × VL.D)}, RE mg F H ρ σ fps → Gd F H fps → z.at ρ = some (t, ds, ρ') →
    ∃ d ob kvs F' fps', F' d ∧ Rd H d ob ∧ DHO t ob kvs ∧ kvs.map (·.1) = ds.map (·.1) ∧ RE mg F' H ρ' σ fps' ∧ Gd F' H fps' ∧ Rch F H fps F' H fps' ∧
      ∀ (H2 : Hp) (Q : VK), (H2 = H ∨ Swp H H2 d) → Q (.ref d) H2 → td σ H2 Q
theorem froze_slot {ρ : Env} {i : Nat} {d : VL.D} (hE : RE mg F H ρ σ fps) (hG : Gd F H fps) (e : ρ[i]? = some (some d)) : ∃ v F' fps', σ[i]? = some (some v) ∧ R mg F' H v d.fz [] ∧ RE mg F' H (ρ.set i (some d.fz)) σ fps' ∧ Gd F' H fps' ∧ Rch F H fps F' H fps' := by
  obtain ⟨v, fq, rest, e1, r, hE', p⟩ := hE.take e
  have g1 : Gd F H (fq ++ rest) := hG.perm p
  have r' : R mg (F.add fq) H v d.fz [] := r.freeze (fun _ f => .inl f) fun _ m => .inr m
  have hil : i < ρ.length := (List.getElem?_eq_some_iff.mp e).1
  obtain ⟨gone, fps', hE2, p2⟩ := (hE'.move (keeps_add fq)).put (i := i) (by simpa using hil) r'
  rw [List.set_set, set_same e1] at hE2
  have p3 : rest.Perm (gone ++ fps') := by simpa using p2
  exact ⟨v, F.add fq, fps', e1, r', hE2, (g1.add.perm p3).right, Rch.add fun a m => p.mem_iff.mpr (m.elim (fun m => List.mem_append_left _ m) fun m => List.mem_append_right _ (p3.mem_iff.mpr (List.mem_append_right _ m)))⟩
theorem src_slot {e : Expr} {i : Nat} (h : PE X e (tVar i)) : SrcOk X mg e (tVar i) (.slot i) where
  pe := h
  at' := fun {σ F H ρ ρ' fps t ds} hE hG hz => by
    unfold Src.at at hz
    simp only at hz
    split at hz
    rotate_left
    · cases hz
    rename_i o tt kvs eρ
    cases hz
    obtain ⟨v, F', fps', e1, r, hE2, g2, c2⟩ := froze_slot hE hG eρ
    rw [D.fz] at r hE2
    cases r with
    | dctF f e2 o2 q r => exact ⟨_, _, _, F', fps', f, e2, o2, q.trans (map_fst_fzK _), hE2, g2, c2, fun H2 Q _ q => ⟨_, e1, q⟩⟩
end
end VL

set_option Elab.async false
set_option linter.all false
set_option maxRecDepth 100000
set_option maxHeartbeats 2000000
namespace VL
open PySem PySem.Spec PyProof.Rows L2 VC
section
variable {mg : MG} {W : WX} {σ : L2.St} {F F' : FS} {H H' H2 : Hp} {fp fps : List Addr} {X : Cx} {us : List Nat} {vs : List V}
theorem src_ix {a b : Expr} {i j : Nat} {pos : Pos} (hu : X.A.units + 64 < cLine) (ha : PE X a (tVar i)) (hb : PE X b (tVar j)) (hs : PlainIx b) (hn : NoSl b) : SrcOk X mg (.Subscript a b pos) (tIxA X.K (tVar i) (tVar j)) (.ix i j) where
  pe := pe_ixA hu ha hb hs hn
  at' := fun {σ F H ρ ρ' fps t ds} hE hG hz => by
    unfold Src.at at hz
    simp only at hz
    split at hz
    rotate_left
    · cases hz
    rename_i o t2 kvs2 kv e1 e2
    split at hz
    rotate_left
    · cases hz
    rename_i tt kvs ef
    cases hz
    obtain ⟨v, fq, s1, r1, m1⟩ := hE.get e1
    obtain ⟨w, fk, s2, r2, m2⟩ := hE.get e2
    unfold fIx at ef
    simp only at ef
    split at ef
    rotate_left
    · cases ef
    rename_i dk hdk
    split at ef
    rotate_left
    · cases ef
    rename_i hk
    obtain ⟨dd, ea, eb⟩ := Option.bind_eq_some_iff.mp ef
    split at eb
    rotate_left
    · cases eb
    rename_i cf
    cases eb
    have hb' : Bor mg F H fps v (.dct o t2 kvs2) := ⟨fq, r1, m1⟩
    obtain ⟨p, ob2, ws, f3, rfl, rd2, od2, q2, rs2⟩ := hb'.dct
    obtain ⟨y, fy, ey, ry, my⟩ := kget_rel q2 rs2 ea
    have ry := ry.nilfp cf
    cases ry with
    | dctF f e o' q r =>
      refine ⟨_, _, _, F, fps, f, e, o', q, hE, hG, Rch.refl, fun H2 Q sw q => ⟨_, s1, _, s2, .inr ⟨p, _, rfl, ?_, q⟩⟩⟩
      have rd3 : Rd H2 p ob2 := sw.elim (fun z => z ▸ rd2) fun z => z.rdA od2.nofrz rd2
      have r3 : R mg F H2 w kv fk := sw.elim (fun z => z ▸ r2) fun z => r2.swp z fun m => hG.dis _ (m2 _ m) f
      have g := dget_of rd3 od2 r3 hdk (by simpa using hk)
      rw [ey] at g
      exact g
/-- the keys, walked -/
theorem yields_keys {t : Bool} {d : Addr} {od : Obj} {ob : HO} {kvs : List (DK × V)} {ds : List (DK × VL.D)} (fd : F d) (e : H d = some (.frz od ob)) (o : DHO t ob kvs) (q : kvs.map (·.1) = ds.map (·.1)) :
    (∃ l, ob = .dK l ∧ Yields mg F H (Itk d od l) (keysD ds)) ∨ ∃ l, ob = .dT l ∧ Yields mg F H (Itkt d od l) (keysD ds) := by
  have hlen : kvs.length = ds.length := by have := congrArg List.length q; simpa using this
  have kl : (keysD ds).length = ds.length := by simp [keysD]
  have ki : ∀ (i : Nat) (dk : DK), (kvs[i]?).map (fun p : DK × V => p.1) = some dk → (keysD ds)[i]? = some (dOfDK dk) := fun i dk h => by
    unfold keysD
    have z := congrArg (·[i]?) q
    simp only [List.getElem?_map] at z ⊢
    rw [h] at z
    cases hd : ds[i]? with
    | none => rw [hd] at z; cases z
    | some p => rw [hd] at z; cases z; rfl
  rcases o with ⟨_, l, rfl, rfl⟩ | ⟨_, l, rfl, rfl⟩
  · refine .inl ⟨l, rfl, fun H2 i lt hi => ⟨(lt.fz d fd).trans e, by rw [kl, ← hlen] at hi; simpa using hi⟩, fun H2 i x H3 lt hi y => ?_, fun H2 lt => ⟨(lt.fz d fd).trans e, by rw [kl, ← hlen]; simp⟩⟩
    obtain ⟨rfl, k, v, hk, rfl⟩ := y
    exact ⟨_, ki i (.k k) (by rw [List.getElem?_map, hk]; rfl), R.key k, fun _ _ z => z⟩
  · refine .inr ⟨l, rfl, fun H2 i lt hi => ⟨(lt.fz d fd).trans e, by rw [kl, ← hlen] at hi; simpa using hi⟩, fun H2 i x H3 lt hi y => ?_, fun H2 lt => ⟨(lt.fz d fd).trans e, by rw [kl, ← hlen]; simp⟩⟩
    obtain ⟨rfl, k, v, b, hk, rfl, hb⟩ := y
    exact ⟨_, ki i (.t k) (by rw [List.getElem?_map, hk]; rfl), .tup hb (Rs.keys k), fun _ _ z => z⟩
/-- the walk of a dict that is locked -/
theorem keys_go {t : Bool} {d : Addr} {od : Obj} {ob : HO} {kvs : List (DK × V)} {ds : List (DK × VL.D)} {td : TE} {Rw : It → Hp → Prop} (fd : F d) (e : H d = some (.frz od ob)) (o : DHO t ob kvs) (q : kvs.map (·.1) = ds.map (·.1))
    (ht : ∀ Q : VK, Q (.ref d) H → td σ H Q) (h : ∀ J, Yields mg F H J (keysD ds) → Rw J H) : iKeys td σ H Rw := by
  refine ht _ ⟨d, od, rfl, ?_⟩
  rcases yields_keys (mg := mg) fd e o q with ⟨l, rfl, y⟩ | ⟨l, rfl, y⟩
  · exact .inl ⟨l, e, h _ y⟩
  · exact .inr ⟨l, e, h _ y⟩
def noExc (r : SR) : SR := match r with
  | .exc _ _ => .bad
  | r => r
def sForK (z : Src) (t : VL.D → S) (body : S) (fg : List Nat) : S := fun ρ => match z.at ρ with
  | some (_, ds, ρ1) => noExc (loopS t body fg (keysD ds) ρ1)
  | none => .bad
theorem DHO.mut {t : Bool} {o : HO} {kvs : List (DK × V)} (h : DHO t o kvs) : Mut (some o) := by
  rcases h with ⟨_, l, rfl, _⟩ | ⟨_, l, rfl, _⟩ <;> exact True.intro
theorem spst_lock {d : Addr} {u : HO} {od : Obj} {r : SR} {D : Ends} {tt : Bool} {kk : List (DK × V)} (hu : DHO tt u kk) (e : H d = some u) (n : d ∉ fps) (fd : F d) (h : SPst mg W us vs F H fps (noExc r) D) :
    SPst mg W us vs F (upd H d (.frz od u)) fps r ⟨fun σ' H' => H' d = some (.frz od u) ∧ D.nx σ' (upd H' d u), fun v H' => H' d = some (.frz od u) ∧ D.rt v (upd H' d u), fun σ' H' => H' d = some (.frz od u) ∧ D.bk σ' (upd H' d u), fun σ' H' => H' d = some (.frz od u) ∧ D.ct σ' (upd H' d u)⟩ := by
  have key : ∀ {σ' : L2.St} {F' : FS} {H' : Hp} {fps' : List Addr} {ρ' : Env}, RE mg F' H' ρ' σ' fps' → Gd F' H' fps' → Rch F (upd H d (.frz od u)) fps F' H' fps' → H' d = some (.frz od u) ∧ RE mg F' (upd H' d u) ρ' σ' fps' ∧ Gd F' (upd H' d u) fps' ∧ Rch F H fps F' (upd H' d u) fps' := fun {σ' F' H' fps' ρ'} a1 a2 a4 => by
    obtain ⟨z1, z2⟩ := Rch.unlocked e n a4
    have n' : d ∉ fps' := fun m => a2.dis d m (a4.mono d fd)
    exact ⟨z1, a1.swp (Swp.unlock hu z1) n', a2.swp (Swp.unlock hu z1) n', z2⟩
  cases r with
  | nx ρ' => exact fun σ' F' H' fps' a1 a2 a3 a4 => let ⟨z1, z2, z3, z4⟩ := key a1 a2 a4; ⟨z1, h σ' F' _ fps' z2 z3 a3 z4⟩
  | bk ρ' => exact fun σ' F' H' fps' a1 a2 a3 a4 => let ⟨z1, z2, z3, z4⟩ := key a1 a2 a4; ⟨z1, h σ' F' _ fps' z2 z3 a3 z4⟩
  | ct ρ' => exact fun σ' F' H' fps' a1 a2 a3 a4 => let ⟨z1, z2, z3, z4⟩ := key a1 a2 a4; ⟨z1, h σ' F' _ fps' z2 z3 a3 z4⟩
  | rt d0 ρ' =>
    intro v σ' F' H' fp' fps' r1 a1 a2 a3 a4
    obtain ⟨z1, z4⟩ := Rch.unlocked e n a4
    have n' : d ∉ fp' ++ fps' := fun m => a2.dis d m (a4.mono d fd)
    exact ⟨z1, h v σ' F' _ fp' fps' (r1.swp (Swp.unlock hu z1) (nin_l n')) (a1.swp (Swp.unlock hu z1) (nin_r n')) (a2.swp (Swp.unlock hu z1) n') a3 z4⟩
  | exc x ρ' => exact h.elim
  | bad => exact h.elim
theorem vs_forK {tg e : Expr} {body : List Stmt} {t : VL.D → S} {b : S} {pos : Pos} {z : Src} {td : TE} (fg : List Nat) (hp : PassesOwn (model X.prog X.w) X.A X.env X.xe) (hc : X.calm = true) (hz : SrcOk X mg e td z) (hg : PG X tg (vG mg us vs t)) (hb : PSs X body (vS mg W us vs b))
    (hs : ∀ x, foldedSetIterable e X.env x = pure x := by intro _; rfl) : PS X (.For tg e body [] pos) (vS mg W us vs (sForK z t b fg)) := by
  refine ⟨fun pins s σ H D I h => ?_⟩
  obtain ⟨F, ρ, fps, hE, hG, hpn, hP⟩ := h
  unfold sForK at hP
  cases ez : z.at ρ with
  | none => rw [ez] at hP; exact hP.elim
  | some p =>
    obtain ⟨t0, ds, ρ1⟩ := p
    simp only [ez] at hP
    obtain ⟨d, ob, kvs, F1, fps1, fd, rd, od, ek, hE1, hG1, c1, ht⟩ := hz.at' hE hG ez
    have n : d ∉ fps1 := fun m => hG1.dis d m fd
    have hP := hP.trans c1
    rcases rd with e0 | ⟨oo, e0⟩
    · refine (ps_lock (ps_for hp hc (pi_keys hz.pe) hg hb hs)).run pins s σ H D I ⟨d, ob, e0, od.mut, fun o2 => ?_⟩
      have sw : Swp H (upd H d (.frz o2 ob)) d := Swp.lock e0 od
      refine keys_go (mg := mg) (F := F1) fd upd_same od ek (fun Q q => ht _ Q (.inr sw) q) fun J y => ?_
      exact loop_go (fun _ _ _ _ q => q) (fun _ _ _ q => q) y (hE1.swp sw n) (hG1.swp sw n) hpn (spst_lock od e0 n fd hP)
    · refine (ps_for hp hc (pi_keys hz.pe) hg hb hs).run pins s σ H D I ?_
      refine keys_go (mg := mg) (F := F1) fd e0 od ek (fun Q q => ht _ Q (.inl rfl) q) fun J y => ?_
      have hP2 : SPst mg W us vs F1 H fps1 (loopS t b fg (keysD ds) ρ1) D := by
        cases el : loopS t b fg (keysD ds) ρ1 with
        | exc x ρ2 => rw [el] at hP; exact hP.elim
        | _ => rw [el] at hP; exact hP
      exact loop_go (fun _ _ _ _ q => q) (fun _ _ _ q => q) y hE1 hG1 hpn hP2
end
end VL

set_option Elab.async false
set_option linter.all false
set_option maxRecDepth 100000
set_option maxHeartbeats 2000000
namespace VL
open PySem PySem.Spec PyProof.Rows L2 VC
/-! ### comprehensions over the keys of a dict -/
def gCompK {α : Type} (z : Src) (x : Cl) (k : α → M α) (a0 : α) (fin : α → VL.D) : M VL.D := fun ρ => match z.at ρ with
  | some (_, ds, ρ1) => (match loopG x.t x.c x.vs k (keysD ds) a0 (forget x.vs ρ1) with
    | .ok a ρ2 => .ok (fin a) ρ2
    | _ => .bad)
  | none => .bad
def gCompLK (z : Src) (x : Cl) (cls : List Cl) (e : M VL.D) : M VL.D := gCompK z x (goG (emLst e) cls) [] fun ys => .lst true ys
def gCompDK (tup : Bool) (z : Src) (x : Cl) (cls : List Cl) (ek ev : M VL.D) : M VL.D := gCompK z x (goG (emDct tup ek ev) cls) [] fun ys => .dct true tup ys
section
variable {mg : MG} {W : WX} {σ : L2.St} {F F1 : FS} {H H1 : Hp} {fp fps fps1 : List Addr} {X : Cx} {us : List Nat} {vs : List V} {α : Type}
theorem comp_at {x : Cl} {cls : List Cl} {em : α → M α} {emT : Addr → TK} {R : Addr → α → FS → Hp → List Addr → Prop} {a0 : α} {fin : α → VL.D} {o0 : HO} {Q : VK} {J : It} {ds : List VL.D} {ρ1 : Env} (mv : ∀ D, Moves D (R D)) (hem : ∀ D, KOk mg D (R D) [] em (emT D)) (hn : (∀ i ∈ slotsOf cls, i ∈ x.vs) ∧ Nested cls)
    (h0 : ∀ D F H, H D = some o0 → R D a0 F H []) (ho : ∀ xs, o0 ≠ .tup xs) (hfin : ∀ D a F H fa, R D a F H fa → VL.R mg F H (.ref D) (fin a) (D :: fa)) (y : Yields mg F1 H1 J ds) (hE1 : RE mg F1 H1 ρ1 σ fps1) (hG1 : Gd F1 H1 fps1)
    (hP : match loopG x.t x.c x.vs (goG em cls) ds a0 (forget x.vs ρ1) with
      | .ok a ρ2 => ∀ v F' H' fp fps', VL.R mg F' H' v (fin a) fp → RE mg F' H' ρ2 σ fps' → Gd F' H' (fp ++ fps') → Rch F1 H1 fps1 F' H' (fp ++ fps') → Q v H'
      | _ => False) : ∀ D, H1 D = none → tLoop (Cl.parts mg x).2.1 (Cl.parts mg x).2.2.1 x.vs (tGo (emT D) (cls.map (Cl.parts mg))) J σ (upd H1 D o0) fun H' => Q (.ref D) H' := by
  intro D nD
  obtain ⟨gone, fps2, hE2, pm2⟩ := re_wipe (own := x.vs) hE1
  have hG2 := (hG1.perm pm2).right
  have c2 : Rch F1 H1 fps1 F1 H1 fps2 := Rch.refl.sub fun a m => pm2.mem_iff.mpr (List.mem_append_right _ m)
  have g3 : Gd F1 (upd H1 D o0) ((D :: []) ++ fps2) := ⟨List.nodup_cons.mpr ⟨fun m => (hG2.own D (by simpa using m)).trk nD, by simpa using hG2.nd⟩, fun a m f => by
    rcases List.mem_cons.mp m with rfl | m
    · exact hG2.trk a f nD
    · exact hG2.dis a (by simpa using m) f, fun a f => trk_alloc hG2 a (.inl f), fun a m => by
    rcases List.mem_cons.mp m with rfl | m
    · exact ⟨_, upd_same, ho⟩
    · exact (hG2.own a (by simpa using m)).eq (upd_ne fun z => (hG2.own a (by simpa using m)).trk (by rw [z]; exact nD))⟩
  have c3 : Rch F1 H1 fps1 F1 (upd H1 D o0) ((D :: []) ++ fps2) := c2.trans (Rch.alloc nD F1 (fun _ f => f) (fun _ f => .inl f) fun a m => by
    rcases List.mem_cons.mp m with rfl | m
    · exact .inr rfl
    · exact .inl (by simpa using m))
  refine loop_okG (ρ := ρ1) (fa := []) (a := a0) (mv D) (goG_ok (mv D) (hem D) hn.2) hn.1 y ⟨fun a f => upd_ne fun z => hG2.trk a f (by rw [z]; exact nD), fun a xs q => by rw [upd_ne (ne_of_none q nD)]; exact q⟩ (fun _ f => f) (hE2.move (keeps_alloc nD F1 (fun _ f => f) hE2.own)) (h0 D _ _ upd_same) g3 ?_
  cases eg : loopG x.t x.c x.vs (goG em cls) ds a0 (forget x.vs ρ1) with
  | bad => simp only [eg] at hP
  | exc z ρ2 => simp only [eg] at hP
  | ok a' ρ2 =>
    simp only [eg] at hP
    obtain ⟨ρ3, rfl⟩ : ∃ ρ3, ρ2 = forget x.vs ρ3 := loopG_own eg
    exact fun F' H' fps' fa' hE' hR' hG' c' => hP (.ref D) F' H' (D :: fa') fps' (hfin D a' F' H' fa' hR') (re_unwipe hE') hG' (c3.trans c')
/-- a comprehension over a dict's keys: under the lock, or where it is locked already -/
def tCompK (td : TE) (g : TG) (tt : TT) (vs : List Nat) (cs : List (TI × TG × TT × List Nat)) (em : Addr → TK) (o0 : HO) : TE := fun σ H Q => tLockE (tComp (iKeys td) g tt vs cs em o0) σ H Q ∨ tComp (iKeys td) g tt vs cs em o0 σ H Q
theorem compK_ok {e : Expr} {z : Src} {td : TE} {x : Cl} {cls : List Cl} {em : α → M α} {emT : Addr → TK} {R : Addr → α → FS → Hp → List Addr → Prop} {a0 : α} {fin : α → VL.D} {o0 : HO} {Q : VK} (hz : SrcOk X mg e td z) (mv : ∀ D, Moves D (R D)) (hem : ∀ D, KOk mg D (R D) [] em (emT D)) (hn : (∀ i ∈ slotsOf cls, i ∈ x.vs) ∧ Nested cls)
    (h0 : ∀ D F H, H D = some o0 → R D a0 F H []) (ho : ∀ xs, o0 ≠ .tup xs) (hfin : ∀ D a F H fa, R D a F H fa → VL.R mg F H (.ref D) (fin a) (D :: fa))
    (h : vE mg W (gCompK z x (goG em cls) a0 fin) σ H Q) : tCompK td (Cl.parts mg x).2.1 (Cl.parts mg x).2.2.1 x.vs (cls.map (Cl.parts mg)) emT o0 σ H Q := by
  obtain ⟨F, ρ, fps, hE, hG, hP⟩ := h
  unfold gCompK at hP
  cases ez : z.at ρ with
  | none => rw [ez] at hP; exact hP.elim
  | some p =>
    obtain ⟨t0, ds, ρ1⟩ := p
    simp only [ez] at hP
    obtain ⟨d, ob, kvs, F1, fps1, fd, rd, od, ek, hE1, hG1, c1, ht⟩ := hz.at' hE hG ez
    have n : d ∉ fps1 := fun m => hG1.dis d m fd
    cases eg : loopG x.t x.c x.vs (goG em cls) (keysD ds) a0 (forget x.vs ρ1) with
    | bad => rw [eg] at hP; exact hP.elim
    | exc w ρ2 => rw [eg] at hP; exact hP.elim
    | ok a' ρ2 =>
      rw [eg] at hP
      rcases rd with e0 | ⟨oo, e0⟩
      · refine .inl ⟨d, ob, e0, od.mut, fun o2 => ?_⟩
        have sw : Swp H (upd H d (.frz o2 ob)) d := Swp.lock e0 od
        refine keys_go (mg := mg) (F := F1) fd upd_same od ek (fun Q q => ht _ Q (.inr sw) q) fun J y => ?_
        refine comp_at (Q := fun v H' => H' d = some (.frz o2 ob) ∧ Q v (upd H' d ob)) mv hem hn h0 ho hfin y (hE1.swp sw n) (hG1.swp sw n) ?_
        rw [eg]
        intro v F' H' fp fps' r1 a1 a2 a4
        obtain ⟨z1, z4⟩ := Rch.unlocked e0 n a4
        have n' : d ∉ fp ++ fps' := fun m => a2.dis d m (a4.mono d fd)
        exact ⟨z1, hP v F' _ fp fps' (r1.swp (Swp.unlock od z1) (nin_l n')) (a1.swp (Swp.unlock od z1) (nin_r n')) (a2.swp (Swp.unlock od z1) n') (c1.trans z4)⟩
      · refine .inr (keys_go (mg := mg) (F := F1) fd e0 od ek (fun Q q => ht _ Q (.inl rfl) q) fun J y => ?_)
        refine comp_at mv hem hn h0 ho hfin y hE1 hG1 ?_
        rw [eg]
        exact fun v F' H' fp fps' r1 a1 a2 a4 => hP v F' H' fp fps' r1 a1 a2 (c1.trans a4)
theorem pe_either {e : Expr} {t : TE} (h : PE X e t) : PE X e (fun σ H Q => tLockE t σ H Q ∨ t σ H Q) := ⟨fun pins s σ H Q I q => q.elim ((pe_lock h).run pins s σ H Q I) (h.run pins s σ H Q I)⟩
variable {tg e elt kx vx : Expr} {ifs : List Expr} {rest : List Comprehension} {scope : Scope} {own : List (Str × Nat)} {pos : Pos} {z : Src} {td : TE} {x : Cl} {cls : List Cl} {ee ek ev : M VL.D}
theorem ve_compLK (hc : X.calm = true) (hN : X.N.Nodup) (hz : SrcOk X mg e td z) (ok : BlkOk X.N X.env.scope scope own) (ho : x.vs = own.map (·.2)) (hpl : PlainA (⟨tg, e, ifs, 0⟩ :: rest))
    (hg : Blk X scope fun B => ∀ w0, PG B tg (vGp mg (Wp x.vs w0) x.t)) (ht : Blk X scope fun B => PTs B ifs (vT mg W0 x.c)) (hcs : BlkP X scope fun B => Parts B rest (cls.map (Cl.parts mg)) (slotsOf cls)) (hn : (∀ i ∈ slotsOf cls, i ∈ x.vs) ∧ Nested cls) (he : Blk X scope fun B => PE B elt (vE mg W0 ee)) :
    PE X (.ListComp elt (⟨tg, e, ifs, 0⟩ :: rest) scope pos) (vE mg W (gCompLK z x cls ee)) :=
  pe_imp (pe_either (pe_compL hc hN (pi_keys hz.pe) ok ((hpl _ List.mem_cons_self).2 _) (plain1 hpl) ⟨fun s H C cl fp => pg_vC (hg.ok s H C cl fp)⟩ ⟨fun s H C cl fp => ht.ok s H C cl fp⟩ hcs (by rw [← ho]; exact hn.1) ⟨fun s H C cl fp => he.ok s H C cl fp⟩)) fun σ H Q h => by
    rw [← ho]
    exact compK_ok hz (fun _ => moves_lst) (fun _ => em_lst fun _ _ _ z => z) hn (fun D F H z => ⟨[], z, .nil⟩) (fun _ z => nomatch z) (fun D a F H fa ⟨ws, z, r⟩ => .lstO z r) h
theorem ve_compDK {tup : Bool} (hu : X.A.units + 1 < cLine) (hc : X.calm = true) (hN : X.N.Nodup) (hz : SrcOk X mg e td z) (ok : BlkOk X.N X.env.scope scope own) (ho : x.vs = own.map (·.2)) (hpl : PlainA (⟨tg, e, ifs, 0⟩ :: rest))
    (hg : Blk X scope fun B => ∀ w0, PG B tg (vGp mg (Wp x.vs w0) x.t)) (ht : Blk X scope fun B => PTs B ifs (vT mg W0 x.c)) (hcs : BlkP X scope fun B => Parts B rest (cls.map (Cl.parts mg)) (slotsOf cls)) (hn : (∀ i ∈ slotsOf cls, i ∈ x.vs) ∧ Nested cls) (hk : Blk X scope fun B => PE B kx (vE mg W0 ek)) (he : Blk X scope fun B => PE B vx (vE mg W0 ev)) :
    PE X (.DictComp kx vx (⟨tg, e, ifs, 0⟩ :: rest) scope pos) (vE mg W (gCompDK tup z x cls ek ev)) :=
  pe_imp (pe_either (pe_compD tup hu hc hN (pi_keys hz.pe) ok ((hpl _ List.mem_cons_self).2 _) (plain1 hpl) ⟨fun s H C cl fp => pg_vC (hg.ok s H C cl fp)⟩ ⟨fun s H C cl fp => ht.ok s H C cl fp⟩ hcs (by rw [← ho]; exact hn.1) ⟨fun s H C cl fp => hk.ok s H C cl fp⟩ ⟨fun s H C cl fp => he.ok s H C cl fp⟩)) fun σ H Q h => by
    rw [← ho]
    exact compK_ok (R := RDct mg tup) hz (fun _ => moves_dct) (fun _ => em_dct (fun _ _ _ z => z) fun _ _ _ z => z) hn (fun D F H z => ⟨_, [], z, dho_nil tup, rfl, .nil⟩) (fun xs z => by cases tup <;> cases z) (fun D a F H fa ⟨ob, kvs, z, o, q, r⟩ => .dctO z o q r) h
/-- stored -/
theorem ps_either {st : Stmt} {t : TS} (h : PS X st t) : PS X st (fun D σ H => tLock t D σ H ∨ t D σ H) := ⟨fun pins s σ H D I q => q.elim ((ps_lock h).run pins s σ H D I) (h.run pins s σ H D I)⟩
theorem compK_set {e : Expr} {z : Src} {td : TE} {x : Cl} {cls : List Cl} {em : α → M α} {emT : Addr → TK} {R : Addr → α → FS → Hp → List Addr → Prop} {a0 : α} {fin : α → VL.D} {o0 : HO} {D : Ends} {i : Nat} (hz : SrcOk X mg e td z) (mv : ∀ D, Moves D (R D)) (hem : ∀ D, KOk mg D (R D) [] em (emT D)) (hn : (∀ i ∈ slotsOf cls, i ∈ x.vs) ∧ Nested cls)
    (h0 : ∀ D F H, H D = some o0 → R D a0 F H []) (ho : ∀ xs, o0 ≠ .tup xs) (hfin : ∀ D a F H fa, R D a F H fa → VL.R mg F H (.ref D) (fin a) (D :: fa)) (hu : i ∉ us)
    (h : vS mg W us vs (sSet i (gCompK z x (goG em cls) a0 fin)) D σ H) : tLock (fun D σ H => tComp (iKeys td) (Cl.parts mg x).2.1 (Cl.parts mg x).2.2.1 x.vs (cls.map (Cl.parts mg)) emT o0 σ H fun v H1 => D.nx (σ.set i (some v)) H1) D σ H ∨ tComp (iKeys td) (Cl.parts mg x).2.1 (Cl.parts mg x).2.2.1 x.vs (cls.map (Cl.parts mg)) emT o0 σ H fun v H1 => D.nx (σ.set i (some v)) H1 := by
  have h1 : vE mg W (gCompK z x (goG em cls) a0 fin) σ H fun v H1 => D.nx (σ.set i (some v)) H1 := vS.bind (L := rD mg) h fun d ρ v F H' fp fps r hE hG hp hP => store_slot r hE hG hp hu hP
  rcases compK_ok hz mv hem hn h0 ho hfin h1 with q | q
  · obtain ⟨d, u, e1, m, q⟩ := q
    exact .inl ⟨d, u, e1, m, fun od => q od⟩
  · exact .inr q
variable {i : Nat} {y : Str} {py spos : Pos}
theorem vs_setCompLK (hc : X.calm = true) (hN : X.N.Nodup) (hy : X.N[i]? = some y) (hyl : X.env.scope.names.lookup y = some .local) (hu : i ∉ us) (hsw : swapsWith (.ListComp elt (⟨tg, e, ifs, 0⟩ :: rest) scope pos) (some (.Name y py)) spos.line X.env = pure true) (hz : SrcOk X mg e td z) (ok : BlkOk X.N X.env.scope scope own) (ho : x.vs = own.map (·.2)) (hpl : PlainA (⟨tg, e, ifs, 0⟩ :: rest))
    (hg : Blk X scope fun B => ∀ w0, PG B tg (vGp mg (Wp x.vs w0) x.t)) (ht : Blk X scope fun B => PTs B ifs (vT mg W0 x.c)) (hcs : BlkP X scope fun B => Parts B rest (cls.map (Cl.parts mg)) (slotsOf cls)) (hn : (∀ i ∈ slotsOf cls, i ∈ x.vs) ∧ Nested cls) (he : Blk X scope fun B => PE B elt (vE mg W0 ee)) :
    PS X (.Assign [.Name y py] (.ListComp elt (⟨tg, e, ifs, 0⟩ :: rest) scope pos) spos) (vS mg W us vs (sSet i (gCompLK z x cls ee))) :=
  ps_imp (ps_either (ps_setCompL (i := i) hc hN hy hyl hsw (pi_keys hz.pe) ok ((hpl _ List.mem_cons_self).2 _) (plain1 hpl) ⟨fun s H C cl fp => pg_vC (hg.ok s H C cl fp)⟩ ⟨fun s H C cl fp => ht.ok s H C cl fp⟩ hcs (by rw [← ho]; exact hn.1) ⟨fun s H C cl fp => he.ok s H C cl fp⟩)) fun D σ H h => by
    rw [← ho]
    exact compK_set hz (fun _ => moves_lst) (fun _ => em_lst fun _ _ _ z => z) hn (fun D F H z => ⟨[], z, .nil⟩) (fun _ z => nomatch z) (fun D a F H fa ⟨ws, z, r⟩ => .lstO z r) hu h
theorem vs_setCompDK {tup : Bool} (hcl : X.A.units + 1 < cLine) (hc : X.calm = true) (hN : X.N.Nodup) (hy : X.N[i]? = some y) (hyl : X.env.scope.names.lookup y = some .local) (hu : i ∉ us) (hsw : swapsWith (.DictComp kx vx (⟨tg, e, ifs, 0⟩ :: rest) scope pos) (some (.Name y py)) spos.line X.env = pure true) (hz : SrcOk X mg e td z) (ok : BlkOk X.N X.env.scope scope own) (ho : x.vs = own.map (·.2)) (hpl : PlainA (⟨tg, e, ifs, 0⟩ :: rest))
    (hg : Blk X scope fun B => ∀ w0, PG B tg (vGp mg (Wp x.vs w0) x.t)) (ht : Blk X scope fun B => PTs B ifs (vT mg W0 x.c)) (hcs : BlkP X scope fun B => Parts B rest (cls.map (Cl.parts mg)) (slotsOf cls)) (hn : (∀ i ∈ slotsOf cls, i ∈ x.vs) ∧ Nested cls) (hk : Blk X scope fun B => PE B kx (vE mg W0 ek)) (he : Blk X scope fun B => PE B vx (vE mg W0 ev)) :
    PS X (.Assign [.Name y py] (.DictComp kx vx (⟨tg, e, ifs, 0⟩ :: rest) scope pos) spos) (vS mg W us vs (sSet i (gCompDK tup z x cls ek ev))) :=
  ps_imp (ps_either (ps_setCompD (i := i) tup hcl hc hN hy hyl hsw (pi_keys hz.pe) ok ((hpl _ List.mem_cons_self).2 _) (plain1 hpl) ⟨fun s H C cl fp => pg_vC (hg.ok s H C cl fp)⟩ ⟨fun s H C cl fp => ht.ok s H C cl fp⟩ hcs (by rw [← ho]; exact hn.1) ⟨fun s H C cl fp => hk.ok s H C cl fp⟩ ⟨fun s H C cl fp => he.ok s H C cl fp⟩)) fun D σ H h => by
    rw [← ho]
    exact compK_set (R := RDct mg tup) hz (fun _ => moves_dct) (fun _ => em_dct (fun _ _ _ z => z) fun _ _ _ z => z) hn (fun D F H z => ⟨_, [], z, dho_nil tup, rfl, .nil⟩) (fun xs z => by cases tup <;> cases z) (fun D a F H fa ⟨ob, kvs, z, o, q, r⟩ => .dctO z o q r) hu h
end
end VL

set_option Elab.async false
set_option linter.all false
set_option maxRecDepth 100000
set_option maxHeartbeats 2000000
namespace VL
open PySem PySem.Spec PyProof.Rows L2 VC
section
variable {mg : MG} {W : WX} {σ : L2.St} {F F' : FS} {H H' : Hp} {fp fps : List Addr} {X : Cx} {us : List Nat} {vs : List V}
/-! ### max(xs, default=d), max(xs), min(xs) over ints -/
def intsOf : List VL.D → Option (List Int)
  | [] => some []
  | .int i :: l => (intsOf l).map (i :: ·)
  | _ => none
theorem ints_rel : ∀ {ds : List VL.D} {ws : List V} {fp : List Addr} {ns : List Int}, Rs mg F H ws ds fp → intsOf ds = some ns → ws = ns.map V.int
  | [], _, _, ns, .nil, h => by cases h; rfl
  | d :: l, _, _, ns, .cons r rs, h => by
    cases d with
    | int i =>
      obtain ⟨ms, e1, e2⟩ := Option.map_eq_some_iff.mp h
      subst e2
      cases r
      rw [ints_rel rs e1]; rfl
    | _ => cases h
theorem depth_ints : ∀ ns : List Int, PyData.depthAll (ns.map PyData.int) = 0
  | [] => rfl
  | n :: r => by rw [List.map_cons, PyData.depthAll, depth_ints r]; rfl
def rMaxDf (K : PySem.W.Frag) : List V → List V → Hp → VK → Prop := fun xs zs H Q => ∃ (a : Addr) (ns : List Int) (d : Int), xs = [.ref a] ∧ zs = [.int d] ∧ SqL K H a (ns.map V.int) ∧ Q (.int (match ns with | [] => d | n :: r => r.foldl max n)) H
theorem cr_maxDf (hc : X.calm = true) (hu : X.A.units + 64 < cLine) : CallRK X (.builtin "max") [Str.ofString "default"] (rMaxDf X.K) := by
  intro pins s σ H xs zs us ws Q I rv rz h
  obtain ⟨a, ns, d, rfl, rfl, hs, q⟩ := h
  obtain ⟨its, ri, hl, _⟩ := I.list hs
  obtain ⟨w1, rfl, e1⟩ := vals1 rz
  obtain ⟨t, rfl⟩ := (show ∃ t, w1 = Value.int d t from e1)
  rw [Vals.ref1 rv]
  obtain ⟨as, rs⟩ := PySem.W.HoldAll.of_ints (h := s.heap) ri.ints
  have rs : ReadsAll s.heap its (ns.map PyData.int) as := rs
  have al : PySem.W.AlikeAll (ns.map PyData.int) := ⟨fun x hx y hy => by
    obtain ⟨i, _, rfl⟩ := List.mem_map.mp hx
    obtain ⟨j, _, rfl⟩ := List.mem_map.mp hy
    rfl, fun x hx => by
    obtain ⟨i, _, rfl⟩ := List.mem_map.mp hx
    exact fun z => nomatch z⟩
  have dp := depth_ints ns
  refine PySem.W.max_list_default (I.ok.hd hc) hl.isList (by simpa using rs) al (by rw [dp]; omega) (fun e h' tk hk => ?_) fun y ys i v h' tk bs e hi r hk => ?_
  · cases ns with
    | nil => exact ⟨.int d, H, I.kept hk, ⟨t, rfl⟩, q⟩
    | cons n r => cases e
  · cases ns with
    | nil => cases e
    | cons n rr =>
      rw [List.map_cons] at e
      injection e with e1 e2
      subst e1 e2
      rw [PySem.W.maxD_ints] at r
      cases r with
      | int _ t2 => exact ⟨.int _, H, I.kept hk, ⟨t2, rfl⟩, q⟩
def fMaxDf (ds : List VL.D) (z : VL.D) : Option VL.D := match ds, z with
  | [.lst _ xs], .int d => (intsOf xs).map fun ns => .int (match ns with | [] => d | n :: r => r.foldl max n)
  | _, _ => none
/-- f(x, k=d), d a constant int -/
def gCallK (f : List VL.D → VL.D → Option VL.D) (a : M (List Ar)) (d : Int) : M VL.D := gCallB (fun ds => f ds (.int d)) a
theorem ve_maxDf {e : Expr} {x : Str} {p pos kp cp : Pos} {cj : Nat} {d : Int} {a : M (List Ar)} (hc : X.calm = true) (hu : X.A.units + 64 < cLine) (hg : Gl X x) (hm : X.mg x = none) (hv : bootBuiltins x = some (.builtin "max")) (ha : PA X [e] (vA mg W a)) (hn : x ≠ "__name__" := by decide) (hdb : (x == ("__debug__" : Str)) = false := by decide)
    (he : backTo pos (starEach [e] X.env) = (false, eval e X.env) :: backTo pos (starEach [] X.env) := by rfl) (hpl : (backTo pos (starEach [e] X.env)).any (·.1) = false := by rfl)
    (hall : (backToKw pos (keywordEach [⟨some (Str.ofString "default"), .Constant (.int d) cj cp, kp⟩] X.env)).all (·.1.isSome) = true := by rfl) (hnone : (backToKw pos (keywordEach [⟨some (Str.ofString "default"), .Constant (.int d) cj cp, kp⟩] X.env)).any (·.1.isNone) = false := by rfl) (hks : (backToKw pos (keywordEach [⟨some (Str.ofString "default"), .Constant (.int d) cj cp, kp⟩] X.env)).filterMap (·.1) = [Str.ofString "default"] := by rfl) :
    PE X (.Call (.Name x p) [e] [⟨some (Str.ofString "default"), .Constant (.int d) cj cp, kp⟩] pos) (vE mg W (gCallK fMaxDf a d)) :=
  pe_imp (pe_callBK (cr_maxDf hc hu) hg hm hv ha (pk_cons pe_int pk_nil) hn hdb he hpl hall hnone hks) fun σ H Q h => by
    have h2 : vE mg W (a >>= fun as => getAll as >>= fun ds => lift ((fun ds => fMaxDf ds (.int d)) ds)) σ H Q := h
    have key : OpSL mg (fun xs H Q => rMaxDf X.K xs [.int d] H Q) (fun ds => fMaxDf ds (.int d)) := by
      intro F H fps vs ds d' Q g b h q
      have h : fMaxDf ds (.int d) = some d' := h
      unfold fMaxDf at h
      split at h
      · rename_i o xs i ez _
        obtain ⟨ns, e1, rfl⟩ := Option.map_eq_some_iff.mp h
        obtain ⟨v, rfl, b'⟩ := b.one
        obtain ⟨p0, ws, fq, rfl, e2, r⟩ := b'.lst
        have ew := ints_rel r e1
        subst ew
        cases ez
        exact ⟨p0, ns, _, rfl, rfl, .inl e2, q.int g⟩
      · cases h
    exact opL key h
end
end VL

set_option Elab.async false
set_option linter.all false
set_option maxRecDepth 100000
set_option maxHeartbeats 2000000
namespace VL
open PySem PySem.Spec PyProof.Rows L2 VC
/-! ### methods and stores that write an item of what a slot holds -/
inductive Kx where
  | slot (j : Nat) | int (n : Int)
def Kx.val (k : Kx) (ρ : Env) : Option VL.D := match k with
  | .slot j => (ρ[j]?).join
  | .int n => some (.int n)
def Kx.te (k : Kx) : TE := match k with
  | .slot j => tVar j
  | .int n => tC (.int n)
def kix {α : Type} : List (DK × α) → DK → Option Nat
  | [], _ => none
  | p :: l, k => if p.1 = k then some 0 else (kix l k).map (· + 1)
def modK {α : Type} : List (DK × α) → Nat → α → List (DK × α)
  | [], _, _ => []
  | p :: l, 0, x => (p.1, x) :: l
  | p :: l, n + 1, x => p :: modK l n x
def inn : VL.D → VL.D → Option (Nat × VL.D)
  | .lst true xs, .int i => (ixN xs.length i).bind fun n => (xs[n]?).map fun x => (n, x)
  | .dct true t kvs, k => (dkey k).bind fun dk => if dk.isK == !t then (kix kvs dk).bind fun n => ((kvs.map (·.2))[n]?).map fun x => (n, x) else none
  | _, _ => none
def putN : VL.D → Nat → VL.D → VL.D
  | .lst o xs, n, x => .lst o (xs.set n x)
  | .dct o t kvs, n, x => .dct o t (modK kvs n x)
  | d, _, _ => d
theorem modK_fst {α : Type} : ∀ (l : List (DK × α)) (n : Nat) (x : α), (modK l n x).map (·.1) = l.map (·.1)
  | [], _, _ => rfl
  | _ :: _, 0, _ => rfl
  | p :: l, n + 1, x => by simp only [modK, List.map_cons, modK_fst l n x]
theorem modK_snd {α : Type} : ∀ (l : List (DK × α)) (n : Nat) (x : α), (modK l n x).map (·.2) = (l.map (·.2)).set n x
  | [], _, _ => rfl
  | _ :: _, 0, _ => rfl
  | p :: l, n + 1, x => by simp only [modK, List.map_cons, modK_snd l n x, List.set_cons_succ]
theorem kget_kix {α β : Type} : ∀ {l : List (DK × α)} {m : List (DK × β)} {k : DK} {n : Nat} {v : α}, l.map (·.1) = m.map (·.1) → kix m k = some n → (l.map (·.2))[n]? = some v → kget l k = some v
  | [], [], _, _, _, _, h, _ => by cases h
  | [], q :: m, _, _, _, e, _, _ => by simp at e
  | p :: l, [], _, _, _, e, _, _ => by simp at e
  | p :: l, q :: m, k, n, v, e, h, g => by
    simp only [List.map_cons, List.cons.injEq] at e
    unfold kix at h
    by_cases c : q.1 = k
    · rw [if_pos c] at h
      cases h
      have c' : p.1 = k := e.1.trans c
      simp only [List.map_cons, List.getElem?_cons_zero, Option.some.injEq] at g
      simp only [kget, List.find?_cons, c', decide_true, Option.map_some, g]
    · rw [if_neg c] at h
      obtain ⟨i, e1, rfl⟩ := Option.map_eq_some_iff.mp h
      have c' : ¬ p.1 = k := fun z => c (e.1.symm.trans z)
      have := kget_kix e.2 e1 (by simpa using g)
      simp only [kget, List.find?_cons, c', decide_false] at this ⊢
      exact this
section
variable {mg : MG} {W : WX} {σ : L2.St} {F F' : FS} {H H' : Hp} {fp fps fq fk fa : List Addr} {X : Cx} {us : List Nat} {vs : List V}
theorem Kx.get {k : Kx} {ρ : Env} {d : VL.D} (hE : RE mg F H ρ σ fps) (h : k.val ρ = some d) : ∃ y f, R mg F H y d f ∧ ∀ H2 (Q : VK), Q y H2 → k.te σ H2 Q := by
  cases k with
  | slot j =>
    have e : ρ[j]? = some (some d) := by
      exact Option.join_eq_some_iff.mp h
    obtain ⟨v, f, e1, r, _⟩ := hE.get e
    exact ⟨v, f, r, fun H2 Q q => ⟨v, e1, q⟩⟩
  | int n =>
    cases h
    exact ⟨_, [], .int n, fun _ _ q => q⟩
theorem Rs.focus : ∀ {vs : List V} {ds : List VL.D} {fp : List Addr} {n : Nat} {d : VL.D}, Rs mg F H vs ds fp → ds[n]? = some d → ∃ v fx rest, vs[n]? = some v ∧ R mg F H v d fx ∧ fp.Perm (fx ++ rest) ∧
    ∀ {F' : FS} {H' : Hp} {d' : VL.D} {fx' : List Addr}, R mg F' H' v d' fx' → Keeps F F' H H' rest → ∃ f2, Rs mg F' H' vs (ds.set n d') f2 ∧ (fx' ++ rest).Perm f2
  | _, _, _, _, _, .nil, h => by simp at h
  | _, _, _, 0, d, .cons (fp := f1) (fps := f2) r rs, h => by
    cases h
    exact ⟨_, f1, f2, rfl, r, List.Perm.refl _, fun r' k => ⟨_, .cons r' (rs.move k), List.Perm.refl _⟩⟩
  | _, _, _, n + 1, d, .cons (fp := f1) (fps := f2) r rs, h => by
    obtain ⟨v, fx, rest, e1, e2, p, K⟩ := rs.focus (n := n) (by simpa using h)
    refine ⟨v, fx, f1 ++ rest, by simpa using e1, e2, (List.Perm.append_left f1 p).trans perm_mid, fun r' k => ?_⟩
    obtain ⟨f3, h1, h2⟩ := K r' (k.sub fun a m => List.mem_append_right _ m)
    exact ⟨f1 ++ f3, .cons (r.move (k.sub fun a m => List.mem_append_left _ m)) h1, perm_mid.trans (List.Perm.append_left f1 h2)⟩
theorem inn_take {K : PySem.W.Frag} {v y : V} {d k x : VL.D} {n : Nat} (r : R mg F H v d fq) (hk : R mg F H y k fk) (h : inn d k = some (n, x)) : ∃ w fx rest, R mg F H w x fx ∧ fq.Perm (fx ++ rest) ∧ (∀ Q : VK, Q w H → rIxA K v y H Q ∨ ∃ a z, v = .ref a ∧ DGet H a y (some z) ∧ Q z H) ∧
    ∀ {F' : FS} {H' : Hp} {x' : VL.D} {fx' : List Addr}, R mg F' H' w x' fx' → Keeps F F' H H' rest → ∃ f2, R mg F' H' v (putN d n x') f2 ∧ (fx' ++ rest).Perm f2 := by
  unfold inn at h
  split at h
  · rename_i xs i
    obtain ⟨j, e1, h2⟩ := Option.bind_eq_some_iff.mp h
    obtain ⟨x1, e2, e3⟩ := Option.map_eq_some_iff.mp h2
    cases e3
    cases hk
    cases r with
    | lstO e rs =>
      rename_i a ws f0
      obtain ⟨w, fx, rest, g1, g2, p, kk⟩ := rs.focus e2
      refine ⟨w, fx, a :: rest, g2, (List.Perm.cons a p).trans (by simpa using (List.perm_middle (a := a) (l₁ := fx) (l₂ := rest)).symm), fun Q q => .inl (.inl ⟨a, ws, i, w, rfl, rfl, .inl (.inl e), ?_, q⟩), fun r' k => ?_⟩
      · unfold atI
        rw [rs.len, e1]
        exact g1
      · obtain ⟨f3, h1, h2⟩ := kk r' (k.sub fun b m => List.mem_cons_of_mem _ m)
        exact ⟨a :: f3, .lstO ((k.ow a List.mem_cons_self).trans e) h1, by simpa using (List.perm_middle (a := a)).trans (List.Perm.cons a h2)⟩
  · rename_i t kvs k0
    obtain ⟨dk, e0, h2⟩ := Option.bind_eq_some_iff.mp h
    split at h2
    · rename_i ct
      obtain ⟨j, e1, h3⟩ := Option.bind_eq_some_iff.mp h2
      obtain ⟨x1, e2, e3⟩ := Option.map_eq_some_iff.mp h3
      cases e3
      cases r with
      | dctO e o q rs =>
        rename_i a ob l f0
        obtain ⟨w, fx, rest, g1, g2, p, kk⟩ := rs.focus e2
        have dg := dget_of (.inl e) o hk e0 (by simpa using ct)
        rw [kget_kix q e1 g1] at dg
        refine ⟨w, fx, a :: rest, g2, (List.Perm.cons a p).trans (by simpa using (List.perm_middle (a := a) (l₁ := fx) (l₂ := rest)).symm), fun Q q => .inr ⟨a, w, rfl, dg, q⟩, fun r' k => ?_⟩
        obtain ⟨f3, h1, h2⟩ := kk r' (k.sub fun b m => List.mem_cons_of_mem _ m)
        exact ⟨a :: f3, .dctO ((k.ow a List.mem_cons_self).trans e) o (q.trans (modK_fst _ _ _).symm) (by rw [modK_snd]; exact h1), by simpa using (List.perm_middle (a := a)).trans (List.Perm.cons a h2)⟩
    · cases h2
  · cases h
def gMutIx (T : String) (i : Nat) (k : Kx) (f : VL.D → List VL.D → Option (VL.D × VL.D)) (a : M (List Ar)) : M VL.D := fun ρ0 => match ρ0[i]?, k.val ρ0 with
  | some (some d0), some kd => (match inn d0 kd with
    | some (n, x) => if isT T x then (a >>= fun as => fun ρ => match vals as with
      | some ds => (match f x ds with
        | some (res, x') => if i < ρ.length then .ok res (ρ.set i (some (putN d0 n x'))) else .bad
        | none => .bad)
      | none => .bad) (ρ0.set i none) else .bad
    | none => .bad)
  | _, _ => .bad
theorem ve_mutIx {o e : Expr} {es : List Expr} {name : Str} {ap cp : Pos} {T id : String} {r : V → List V → Hp → VK → Prop} {i : Nat} {k : Kx} {f : VL.D → List VL.D → Option (VL.D × VL.D)} {a : M (List Ar)} (hf : OpM mg r f) (pa : PlainAttrs T) (sl : Slot T name id) (ty : typeOf (Value.builtin id) = pure (Value.type "method_descriptor")) (mt : MtR X id r)
    (hx : PE X o (tIxA X.K (tVar i) k.te)) (ha : PA X (e :: es) (vA mg W a)) (h1 : attributeBase o name X.env (eval o X.env) = eval o X.env := by rfl)
    (h2 : (((backTo cp (starEach (e :: es) X.env)).all fun x => !x.1) && ((backToKw cp (keywordEach [] X.env)).all fun x => x.1.isSome) && decide (((e :: es).length + ([] : List Keyword).length + if ([] : List Keyword).isEmpty = true then 0 else 1) < 30)) = true := by rfl)
    (h3 : (ap.endLine == cp.line) = true := by rfl) (h4 : starEach (e :: es) X.env = (false, eval e X.env) :: starEach es X.env := by rfl) (h5 : ((backTo cp (starEach es X.env)).any fun x => x.1) = false := by rfl) :
    PE X (.Call (.Attribute o name ap) (e :: es) [] cp) (vE mg W (gMutIx T i k f a)) := by
  refine pe_imp (pe_bm (apos := ap) pa sl ty mt hx ha h1 h2 h3 h4 h5) fun σ H Q h => ?_
  obtain ⟨F, ρ, fps, hE, hG, hP⟩ := h
  unfold gMutIx at hP
  split at hP
  rotate_left
  · exact hP.elim
  rename_i d0 kd e0 ek
  split at hP
  rotate_left
  · exact hP.elim
  rename_i n x ei
  split at hP
  rotate_left
  · exact hP.elim
  rename_i ct
  obtain ⟨y, fk, rk, ty⟩ := Kx.get hE ek
  obtain ⟨v, fq, rest, ev, rv, hE', pm⟩ := hE.take e0
  obtain ⟨w, fx, restx, rx, px, rd, bk⟩ := inn_take (K := X.K) rv rk ei
  refine ⟨v, ev, ty _ _ (rd (fun w H1 => tyV X.K T w H1 ∧ vA mg W a σ H1 fun xs H2 => r w xs H2 Q) ⟨isT_ok ct rx, ?_⟩)⟩
  -- the footprints
  have g1 : Gd F H (fq ++ rest) := hG.perm pm
  have wide : ∀ {F' : FS} {H' : Hp} {W' : List Addr}, Rch F H rest F' H' W' → Rch F H fps F' H' W' := fun c => ⟨fun b o e m => c.keep b o e fun z => m (pm.mem_iff.mpr (List.mem_append_right _ z)), c.mono, fun b f => (c.new b f).imp_right (Or.imp_left fun z => pm.mem_iff.mpr (List.mem_append_right _ z)), fun b m => (c.fpn b m).imp_left fun z => pm.mem_iff.mpr (List.mem_append_right _ z)⟩
  refine ⟨F, ρ.set i none, rest, hE', g1.right, ?_⟩
  cases ea : a (ρ.set i none) with
  | bad => rw [M.bind_bad ea] at hP; exact hP
  | exc x ρ1 => rw [M.bind_exc ea] at hP; exact fun cls d F' H' fps' er a1 a2 a3 => hP cls d F' H' fps' er a1 a2 (wide a3)
  | ok as ρ1 =>
    rw [M.bind_ok ea] at hP
    intro ws F1 H1 fp1 fps1 ra hE1 hG1 c1
    split at hP
    rotate_left
    · exact hP.elim
    rename_i ds e2
    split at hP
    rotate_left
    · exact hP.elim
    rename_i res x' e3
    split at hP
    rotate_left
    · exact hP.elim
    rename_i hil
    have k1 : Keeps F F1 H H1 fq := c1.keeps g1
    have g2 : Gd F1 H1 (fq ++ (fp1 ++ fps1)) := g1.carry c1 hG1
    have c2 : Rch F H fps F1 H1 (fq ++ (fp1 ++ fps1)) := by
      have z : Rch F H fps F H (fq ++ rest) := ⟨fun _ _ z _ => z, fun _ z => z, fun _ z => .inl z, fun b m => .inl (pm.mem_iff.mpr m)⟩
      exact z.carry c1
    have p1 : (fq ++ (fp1 ++ fps1)).Perm ((restx ++ fps1) ++ (fx ++ fp1)) := by
      refine (List.Perm.append_right _ px).trans ?_
      have q1 : ((fx ++ restx) ++ (fp1 ++ fps1)).Perm ((fp1 ++ fps1) ++ (fx ++ restx)) := List.perm_append_comm
      have q2 : ((restx ++ fps1) ++ (fx ++ fp1)).Perm ((fx ++ fp1) ++ (restx ++ fps1)) := List.perm_append_comm
      refine List.Perm.trans ?_ q2.symm
      rw [List.append_assoc, List.append_assoc]
      exact List.Perm.append_left fx perm_mid
    have g3 := g2.perm p1
    refine hf F1 H1 fx fp1 w ws x ds res x' Q (rx.move (k1.sub fun b m => px.mem_iff.mpr (List.mem_append_left _ m))) (ra.vals e2) g3.right e3 fun yy F2 H2 f1 f2 ry rw2 g4 c3 => ?_
    have k3 : Keeps F1 F2 H1 H2 (restx ++ fps1) := c3.keeps g3
    have g5 := g3.carry c3 g4
    have k2 : Keeps F F2 H H2 restx := ⟨fun b f n => by
        obtain ⟨f1', e1'⟩ := k1.fz b f n
        obtain ⟨f2', e2'⟩ := k3.fz b f1' (by rw [e1']; exact n)
        exact ⟨f2', e2'.trans e1'⟩, fun b m => (k3.ow b (List.mem_append_left _ m)).trans (k1.ow b (px.mem_iff.mpr (List.mem_append_right _ m))), fun b ys z => k3.tp b ys (k1.tp b ys z)⟩
    obtain ⟨f3, rv2, p2⟩ := bk rw2 k2
    obtain ⟨gone, fps', hE3, p3⟩ := (hE1.move (k3.sub fun b m => List.mem_append_right _ m)).put hil rv2
    rw [set_same ev] at hE3
    have p4 : ((restx ++ fps1) ++ (f1 ++ f2)).Perm (gone ++ (f1 ++ fps')) := by
      have q1 : ((restx ++ fps1) ++ (f1 ++ f2)).Perm (f1 ++ ((f2 ++ restx) ++ fps1)) := by
        refine perm_mid.trans (List.Perm.append_left f1 ?_)
        have : ((restx ++ fps1) ++ f2).Perm (f2 ++ (restx ++ fps1)) := List.perm_append_comm
        rw [List.append_assoc f2]
        exact this
      refine q1.trans ?_
      refine (List.Perm.append_left f1 ((List.Perm.append_right fps1 p2).trans p3)).trans perm_mid
    have c4 : Rch F H fps F2 H2 ((restx ++ fps1) ++ (f1 ++ f2)) := by
      have : Rch F H fps F1 H1 ((restx ++ fps1) ++ (fx ++ fp1)) := c2.sub fun b m => p1.mem_iff.mpr m
      exact this.carry c3
    exact hP yy F2 H2 f1 fps' ry hE3 ((g5.perm p4).right) (c4.sub fun b m => p4.mem_iff.mpr (List.mem_append_right _ m))
end
end VL

set_option Elab.async false
set_option linter.all false
set_option maxRecDepth 100000
set_option maxHeartbeats 2000000
namespace VL
open PySem PySem.Spec PyProof.Rows L2 VC
section
variable {mg : MG} {W : WX} {σ : L2.St} {F F' : FS} {H H' : Hp} {fp fps fq fk fa : List Addr} {X : Cx} {us : List Nat} {vs : List V}
/-! ### a display of one item -/
def gDisp1 (ek ev : M VL.D) : M VL.D := fun ρ => match ek ρ with
  | .ok kd ρ1 => (match dkey kd with
    | some dk => if dk.isK then (match ev ρ1 with
      | .ok vd ρ2 => .ok (.dct true false [(dk, vd)]) ρ2
      | _ => .bad) else .bad
    | none => .bad)
  | _ => .bad
theorem ve_disp1 {k v : Expr} {pos : Pos} {ek ev : M VL.D} (hk : PE X k (vE mg W ek)) (hv : PE X v (vE mg W ev)) : PE X (.Dict [some k] [v] pos) (vE mg W (gDisp1 ek ev)) := by
  refine pe_imp (pe_disp (pps_cons hk hv pps_nil) rfl rfl (fun z => nomatch z) (Nat.le_of_ble_eq_true rfl)) fun σ H Q h p np => ?_
  obtain ⟨F, ρ, fps, hE, hG, hP⟩ := h
  have g3 : Gd F (upd H p (.dK [])) ([p] ++ fps) := ⟨List.nodup_cons.mpr ⟨fun m => (hG.own p (by simpa using m)).trk np, by simpa using hG.nd⟩, fun a m f => by
      rcases List.mem_cons.mp m with rfl | m
      · exact hG.trk a f np
      · exact hG.dis a (by simpa using m) f, fun a f => trk_alloc hG a (.inl f), fun a m => by
      rcases List.mem_cons.mp m with rfl | m
      · exact ⟨_, upd_same, fun _ z => nomatch z⟩
      · exact (hG.own a (by simpa using m)).eq (upd_ne fun z => (hG.own a (by simpa using m)).trk (by rw [z]; exact np))⟩
  have c3 : Rch F H fps F (upd H p (.dK [])) ([p] ++ fps) := Rch.alloc np F (fun _ f => f) (fun _ f => .inl f) fun a m => by
      rcases List.mem_cons.mp m with rfl | m
      · exact .inr rfl
      · exact .inl (by simpa using m)
  have hE1 := hE.move (keeps_alloc (o := .dK []) np F (fun _ f => f) hE.own)
  unfold gDisp1 at hP
  show vE mg W ek σ (upd H p (.dK [])) _
  refine ⟨F, ρ, fps, hE1, g3.right, ?_⟩
  cases e1 : ek ρ with
  | bad => simp only [e1] at hP; exact hP
  | exc x ρ1 => simp only [e1] at hP; exact hP.elim
  | ok kd ρ1 =>
    simp only [e1] at hP
    cases hdk : dkey kd with
    | none => simp only [hdk] at hP; exact hP.elim
    | some dk =>
    simp only [hdk] at hP
    by_cases hck : dk.isK = true
    rotate_left
    · simp only [if_neg hck] at hP; exact hP.elim
    simp only [if_pos hck] at hP
    intro kv F1 H1 fk fps1 rk hE2 hG2 c1
    have k1 := c1.keeps g3
    have g4 : Gd F1 H1 ([p] ++ (fk ++ fps1)) := g3.carry c1 hG2
    have c4 : Rch F H fps F1 H1 ([p] ++ (fk ++ fps1)) := c3.carry c1
    have pm1 : ([p] ++ (fk ++ fps1)).Perm ((fk ++ [p]) ++ fps1) := by
      rw [List.append_assoc]; exact perm_mid
    have g5 := g4.perm pm1
    show vE mg W ev σ H1 _
    refine ⟨F1, ρ1, fps1, hE2, g5.right, ?_⟩
    cases e2 : ev ρ1 with
    | bad => simp only [e2] at hP; exact hP
    | exc x ρ2 => simp only [e2] at hP; exact hP.elim
    | ok vd ρ2 =>
      simp only [e2] at hP
      intro vv F2 H2 fv fps2 rv hE3 hG3 c5
      have k2 := c5.keeps g5
      have g6 : Gd F2 H2 ((fk ++ [p]) ++ (fv ++ fps2)) := g5.carry c5 hG3
      have c6 : Rch F H fps F2 H2 ((fk ++ [p]) ++ (fv ++ fps2)) := (c4.sub fun a m => pm1.mem_iff.mpr m).carry c5
      have pp : H2 p = some (.dK []) := by
        rw [k2.ow p (List.mem_append_right _ List.mem_cons_self), k1.ow p List.mem_cons_self]; exact upd_same
      cases dk with
      | t ks => cases hck
      | k k0 =>
        have ek : kv = kV k0 := by
          cases rk <;> first | (unfold dkey at hdk; simp only [Option.some.injEq, DK.k.injEq] at hdk; subst hdk; rfl) | (unfold dkey at hdk; simp at hdk)
        subst ek
        refine ⟨pp, [(k0, vv)], rfl, by simp, ?_⟩
        have pm2 : ((fk ++ [p]) ++ (fv ++ fps2)).Perm (fk ++ (p :: (fv ++ fps2))) := by rw [List.append_assoc]; rfl
        have g7 : Gd F2 H2 (p :: (fv ++ fps2)) := (g6.perm pm2).right
        obtain ⟨kp, gd, rc⟩ := own_upd (p := p) (o := .dK (mergeK [] [(k0, vv)])) (fp := fv ++ fps2) (W2 := p :: (fv ++ fps2)) (g7.own p List.mem_cons_self) g7 (fun _ z => nomatch z) (fun a m => m)
        have cc : Rch F H fps F2 H2 (p :: (fv ++ fps2)) := c6.sub fun a m => pm2.mem_iff.mpr (List.mem_append_right _ m)
        refine hP (.ref p) F2 _ (p :: fv) fps2 (.dctO upd_same (.inl ⟨rfl, [(k0, vv)], rfl, rfl⟩) rfl ?_) (hE3.move (kp.sub fun a m => List.mem_append_right _ m)) (gd g7.nd) (cc.trans rc)
        have := rv.move (kp.sub fun a m => List.mem_append_left _ m)
        have := Rs.cons this .nil
        simpa using this
/-! ### d[k] op= n -/
def fOp (neg : Bool) (m n : Int) : Int := if neg then m - n else m + n
theorem dkey_nil {y : V} {d : VL.D} {dk : DK} (r : R mg F H y d fp) (h : dkey d = some dk) : fp = [] := by
  cases r <;> first | rfl | (unfold dkey at h; simp at h)
def sAugIx (neg : Bool) (i : Nat) (k : Kx) (n : Int) : S := fun ρ => match ρ[i]?, k.val ρ with
  | some (some d), some kd => (match fIx d kd with
    | some (.int m) => putEnd i fPutD [kd, .int (fOp neg m n)] ρ
    | _ => .bad)
  | _, _ => .bad
theorem fPutD_dct {d k v : VL.D} {r : VL.D × VL.D} (h : fPutD d [k, v] = some r) : ∃ t kvs dk, d = .dct true t kvs ∧ dkey k = some dk ∧ dk.isK = !t := by
  unfold fPutD at h
  split at h
  · rename_i t kvs k' v' e
    cases e
    split at h
    · rename_i dk hk
      split at h
      · rename_i hb
        simp only [Bool.and_eq_true, decide_eq_true_eq, beq_iff_eq] at hb
        exact ⟨_, _, dk, rfl, hk, hb.1.1⟩
      · cases h
    · cases h
  · cases h
theorem augIx_core {neg : Bool} {i : Nat} {k : Kx} {n : Int} {rd : V → V → Hp → VK → Prop} {D : Ends} (hr : ∀ {m : Int} {H : Hp} {Q : VK}, Q (.int (fOp neg m n)) H → rd (.int m) (.int n) H Q) (h : vS mg W us vs (sAugIx neg i k n) D σ H) : sDAug (tVar i) k.te (tC (.int n)) rd D σ H := by
  obtain ⟨F, ρ, fps, hE, hG, hp, hP⟩ := h
  unfold sAugIx at hP
  split at hP
  rotate_left
  · exact hP.elim
  rename_i d kd e0 ek
  split at hP
  rotate_left
  · exact hP.elim
  rename_i m ei
  obtain ⟨y, fk, rk, ty⟩ := Kx.get hE ek
  obtain ⟨v, fq, ev, rv, mv⟩ := hE.get e0
  have hP0 := hP
  unfold putEnd at hP
  simp only [e0] at hP
  cases ef : fPutD d [kd, .int (fOp neg m n)] with
  | none => simp only [ef] at hP; exact hP.elim
  | some r =>
    clear hP
    obtain ⟨t, kvs, dk, rfl, hdk, hkt⟩ := fPutD_dct ef
    have fk0 := dkey_nil rk hdk
    subst fk0
    have hb' : Bor mg F H fps v (.dct true t kvs) := ⟨fq, rv, mv⟩
    obtain ⟨p, ob2, ws, f3, rfl, rd2, od2, q2, rs2⟩ := hb'.dct
    unfold fIx at ei
    simp only [hdk, hkt, beq_self_eq_true, if_true] at ei
    obtain ⟨dd, ea, eb⟩ := Option.bind_eq_some_iff.mp ei
    split at eb
    rotate_left
    · cases eb
    cases eb
    obtain ⟨z, fy, ey, ry, my⟩ := kget_rel q2 rs2 ea
    cases ry
    have g := dget_of rd2 od2 rk hdk hkt
    rw [ey] at g
    refine ⟨_, ev, ty _ _ ⟨p, _, rfl, g, hr ?_⟩⟩
    obtain ⟨k', v', a, H4, hkv, ea', q1, q2⟩ := put_end' (ws := [y, .int (fOp neg m n)]) (opm_putD) (.cons rk (.cons (.int _) .nil)) hE (by simpa using hG) hp (by simpa using hP0) _ ev
    cases hkv
    cases ea'
    exact ⟨H4, q1, q2⟩
theorem vs_subIx {o i e : Expr} {tpos pos : Pos} {j : Nat} {k : Kx} {n : Int} (hu : X.A.units + 1 < cLine) (ho : PE X o (tVar j)) (hi : PE X i k.te) (hv : PE X e (tC (.int n)))
    (ha : ∀ ov iv new, augStore i ov iv new = (do holding [new, ov, iv] (setItem ov iv new); release [new, ov, iv] []; pure .next) := by intro _ _ _; rfl) : PS X (.AugAssign (.Subscript o i tpos) .Sub e pos) (vS mg W us vs (sAugIx true j k n)) :=
  ps_imp (ps_daug hu ho hi hv in_sub ha) fun D σ H h => augIx_core (neg := true) (fun {m H Q} q => ⟨m, n, rfl, rfl, q⟩) h
theorem vs_addIx {o i e : Expr} {tpos pos : Pos} {j : Nat} {k : Kx} {n : Int} (hu : X.A.units + 1 < cLine) (ho : PE X o (tVar j)) (hi : PE X i k.te) (hv : PE X e (tC (.int n)))
    (ha : ∀ ov iv new, augStore i ov iv new = (do holding [new, ov, iv] (setItem ov iv new); release [new, ov, iv] []; pure .next) := by intro _ _ _; rfl) : PS X (.AugAssign (.Subscript o i tpos) .Add e pos) (vS mg W us vs (sAugIx false j k n)) :=
  ps_imp (ps_daug hu ho hi hv in_add ha) fun D σ H h => augIx_core (neg := false) (fun {m H Q} q => ⟨m, n, rfl, rfl, q⟩) h
end
end VL

set_option Elab.async false
set_option linter.all false
set_option maxRecDepth 100000
set_option maxHeartbeats 2000000
namespace VL
open PySem PySem.Spec PyProof.Rows L2
/-! ### the newer readings, step by step -/
/-- only what ends well goes on -/
def Ev.tB {α β : Type} (x : Ev α) (f : α → Env → Ev β) (_w : Wit f := .mk) : Ev β := match x with
  | .ok a ρ => f a ρ
  | _ => .bad
theorem tB_ok {α β : Type} {a : α} {ρ : Env} {f : α → Env → Ev β} : (Ev.ok a ρ).tB f = f a ρ := rfl
section
variable {α : Type} {ρ ρ' : Env} {t : D → S} {c : M Bool} {vs : List Nat} {k : α → M α} {a a' : α}
def turnG (t : D → S) (c : M Bool) (vs : List Nat) (k : α → M α) (d : D) (a : α) (ρ : Env) : Ev α := (t d ρ).tE fun ρ => (c ρ).tB fun b ρ => if b = true then (k a ρ).tB fun a ρ => .ok a (forget vs ρ) else .ok a (forget vs ρ)
theorem loopG_nil : loopG t c vs k [] a ρ = .ok a ρ := rfl
theorem loopG_cons {d : D} {r : List D} (h : turnG t c vs k d a ρ = .ok a' ρ') : loopG t c vs k (d :: r) a ρ = loopG t c vs k r a' ρ' := by
  unfold turnG at h
  show (match t d ρ with
    | .nx ρ1 => (match c ρ1 with
      | .ok true ρ2 => (match k a ρ2 with
        | .ok a' ρ3 => loopG t c vs k r a' (forget vs ρ3)
        | _ => .bad)
      | .ok false ρ2 => loopG t c vs k r a (forget vs ρ2)
      | _ => .bad)
    | _ => .bad) = _
  cases et : t d ρ with
  | nx ρ1 =>
    rw [et, tE_nx] at h
    simp only
    cases ec : c ρ1 with
    | ok b ρ2 =>
      rw [ec, tB_ok] at h
      cases b with
      | true =>
        simp only [ec]
        simp only [if_true] at h
        cases ek : k a ρ2 with
        | ok a2 ρ3 => rw [ek, tB_ok] at h; cases h; rfl
        | exc _ _ => rw [ek] at h; cases h
        | bad => rw [ek] at h; cases h
      | false =>
        simp only [ec]
        simp only [Bool.false_eq_true, if_false] at h
        cases h; rfl
    | exc _ _ => rw [ec] at h; cases h
    | bad => rw [ec] at h; cases h
  | rt _ _ => rw [et] at h; cases h
  | bk _ => rw [et] at h; cases h
  | ct _ => rw [et] at h; cases h
  | exc _ _ => rw [et] at h; cases h
  | bad => rw [et] at h; cases h
/-- a walk that leaves the names as they are, and gathers as step says -/
theorem loopG_fold {β : Type} {enc : β → D} {step : α → β → α} {Inv : List β → α → Prop} (h : ∀ x r a, Inv (x :: r) a → turnG t c vs k (enc x) a ρ = .ok (step a x) ρ ∧ Inv r (step a x)) : ∀ (xs : List β) (a : α), Inv xs a → loopG t c vs k (xs.map enc) a ρ = .ok (xs.foldl step a) ρ
  | [], a, _ => rfl
  | x :: xs, a, i => by
    obtain ⟨h1, h2⟩ := h x xs a i
    rw [List.map_cons, loopG_cons h1, loopG_fold h xs _ h2]
    rfl
theorem ev_emLst {e : M D} {xs : List D} : emLst e xs ρ = (e ρ).tB fun y ρ => if xs.length < big then .ok (xs ++ [y]) ρ else .bad := by
  unfold emLst
  cases e ρ <;> rfl
theorem ev_emDct {tup : Bool} {ek ev : M D} {kvs : List (DK × D)} : emDct tup ek ev kvs ρ = (ek ρ).tB fun k ρ => (ev ρ).tB fun v ρ => (opt (dkey k) ρ).tB fun dk ρ => if ((dk.isK == !tup) && (v.fzd || !khas kvs dk) && decide (kvs.length < big)) = true then .ok (kput kvs dk v) ρ else .bad := by
  unfold emDct
  cases ek ρ with
  | ok k ρ1 =>
    simp only [tB_ok]
    cases ev ρ1 with
    | ok v ρ2 =>
      simp only [tB_ok]
      cases dkey k with
      | none => rfl
      | some dk => simp only [opt_some, tB_ok]
    | _ => rfl
  | _ => rfl
theorem goG_nil {em : α → M α} : goG em [] a ρ = em a ρ := rfl
theorem goG_cons {em : α → M α} {x : Cl} {r : List Cl} : goG em (x :: r) a ρ = (x.it ρ).tB fun ds ρ => loopG x.t x.c x.vs (goG em r) ds a (forget x.vs ρ) := by
  show (match x.it ρ with
    | .ok ds ρ1 => loopG x.t x.c x.vs (goG em r) ds a (forget x.vs ρ1)
    | _ => .bad) = _
  cases x.it ρ <;> rfl
theorem ev_gComp {it : M (List D)} {a0 : α} {fin : α → D} : gComp it t c vs k a0 fin ρ = (it ρ).th fun ds ρ => (loopG t c vs k ds a0 (forget vs ρ)).tB fun a ρ => .ok (fin a) ρ := by
  unfold gComp
  cases it ρ with
  | ok ds ρ1 =>
    simp only [th_ok]
    cases loopG t c vs k ds a0 (forget vs ρ1) <;> rfl
  | _ => rfl
theorem ev_compL {it : M (List D)} {x : Cl} {cls : List Cl} {e : M D} : gCompL it x cls e ρ = (it ρ).th fun ds ρ => (loopG x.t x.c x.vs (goG (emLst e) cls) ds [] (forget x.vs ρ)).tB fun a ρ => .ok (.lst true a) ρ := ev_gComp
theorem ev_compD {tup : Bool} {it : M (List D)} {x : Cl} {cls : List Cl} {ek ev : M D} : gCompD tup it x cls ek ev ρ = (it ρ).th fun ds ρ => (loopG x.t x.c x.vs (goG (emDct tup ek ev) cls) ds [] (forget x.vs ρ)).tB fun a ρ => .ok (.dct true tup a) ρ := ev_gComp
theorem ev_compK {z : Src} {x : Cl} {a0 : α} {fin : α → D} : gCompK z x k a0 fin ρ = (opt (z.at ρ) ρ).th fun p _ => (loopG x.t x.c x.vs k (keysD p.2.1) a0 (forget x.vs p.2.2)).tB fun a ρ => .ok (fin a) ρ := by
  unfold gCompK
  cases z.at ρ with
  | none => rfl
  | some p =>
    obtain ⟨t0, ds, ρ1⟩ := p
    simp only [opt_some, th_ok]
    cases loopG x.t x.c x.vs k (keysD ds) a0 (forget x.vs ρ1) <;> rfl
theorem ev_compLK {z : Src} {x : Cl} {cls : List Cl} {e : M D} : gCompLK z x cls e ρ = (opt (z.at ρ) ρ).th fun p _ => (loopG x.t x.c x.vs (goG (emLst e) cls) (keysD p.2.1) [] (forget x.vs p.2.2)).tB fun a ρ => .ok (.lst true a) ρ := ev_compK
theorem ev_compDK {tup : Bool} {z : Src} {x : Cl} {cls : List Cl} {ek ev : M D} : gCompDK tup z x cls ek ev ρ = (opt (z.at ρ) ρ).th fun p _ => (loopG x.t x.c x.vs (goG (emDct tup ek ev) cls) (keysD p.2.1) [] (forget x.vs p.2.2)).tB fun a ρ => .ok (.dct true tup a) ρ := ev_compK
theorem at_sl {i : Nat} {o tt : Bool} {kvs : List (DK × D)} (h : ρ[i]? = some (some (.dct o tt kvs))) : (Src.slot i).at ρ = some (tt, kvs, ρ.set i (some (.dct false tt (fzK kvs)))) := by
  unfold Src.at
  simp only [h]
theorem at_ix {i j : Nat} {o t2 tt : Bool} {kvs2 kvs : List (DK × D)} {kd : D} (h : ρ[i]? = some (some (.dct o t2 kvs2))) (h2 : ρ[j]? = some (some kd)) (h3 : fIx (.dct o t2 kvs2) kd = some (.dct false tt kvs)) : (Src.ix i j).at ρ = some (tt, kvs, ρ) := by
  unfold Src.at
  simp only [h, h2, h3]
theorem es_forK {z : Src} {body : S} {fg : List Nat} {p : Bool × List (DK × D) × Env} (h : z.at ρ = some p) : sForK z t body fg ρ = noExc (loopS t body fg (keysD p.2.1) p.2.2) := by
  unfold sForK
  rw [h]
theorem noExc_nx : noExc (.nx ρ) = .nx ρ := rfl
theorem noExc_rt {d : D} : noExc (.rt d ρ) = .rt d ρ := rfl
theorem ev_mutIx {T : String} {i : Nat} {kx : Kx} {f : D → List D → Option (D × D)} {g : M (List Ar)} : gMutIx T i kx f g ρ = (opt ((ρ[i]?).join) ρ).th fun d0 ρ => (opt (kx.val ρ) ρ).th fun kd ρ => (opt (inn d0 kd) ρ).th fun p ρ => if isT T p.2 = true then (g (ρ.set i none)).th fun as ρ => (opt (vals as) ρ).th fun ds ρ => (opt (f p.2 ds) ρ).th fun q ρ => if i < ρ.length then .ok q.1 (ρ.set i (some (putN d0 p.1 q.2))) else .bad else .bad := by
  unfold gMutIx
  cases e0 : ρ[i]? with
  | none => rfl
  | some o =>
    cases o with
    | none => rfl
    | some d0 =>
      simp only [Option.join_some, opt_some, th_ok]
      cases kx.val ρ with
      | none => rfl
      | some kd =>
        simp only [opt_some, th_ok]
        cases inn d0 kd with
        | none => rfl
        | some p =>
          obtain ⟨n, x⟩ := p
          simp only [opt_some, th_ok]
          split
          · rw [bind_th]
            cases g (ρ.set i none) with
            | ok as ρ1 =>
              simp only [th_ok]
              cases vals as with
              | none => rfl
              | some ds =>
                simp only [opt_some, th_ok]
                cases f x ds with
                | none => rfl
                | some q => rfl
            | exc _ _ => rfl
            | bad => rfl
          · rfl
theorem es_augIx {neg : Bool} {i : Nat} {kx : Kx} {n : Int} : sAugIx neg i kx n ρ = (opt ((ρ[i]?).join) ρ).tS fun d ρ => (opt (kx.val ρ) ρ).tS fun kd ρ => (opt (fIx d kd) ρ).tS fun m ρ => match m with
    | .int m => putEnd i fPutD [kd, .int (fOp neg m n)] ρ
    | _ => .bad := by
  unfold sAugIx
  cases e0 : ρ[i]? with
  | none => rfl
  | some o =>
    cases o with
    | none => rfl
    | some d0 =>
      simp only [Option.join_some, opt_some, tS_ok]
      cases kx.val ρ with
      | none => rfl
      | some kd =>
        simp only [opt_some, tS_ok]
        cases fIx d0 kd with
        | none => rfl
        | some m => cases m <;> rfl
theorem ev_disp1 {ek ev : M D} : gDisp1 ek ev ρ = (ek ρ).tB fun kd ρ => (opt (dkey kd) ρ).tB fun dk ρ => if dk.isK = true then (ev ρ).tB fun vd ρ => .ok (.dct true false [(dk, vd)]) ρ else .bad := by
  unfold gDisp1
  cases ek ρ with
  | ok kd ρ1 =>
    simp only [tB_ok]
    cases dkey kd with
    | none => rfl
    | some dk =>
      simp only [opt_some, tB_ok]
      split
      · cases ev ρ1 <;> rfl
      · rfl
  | _ => rfl
theorem ev_callK {f : List D → D → Option D} {g : M (List Ar)} {d : Int} : gCallK f g d ρ = (g ρ).th fun as ρ => (opt (atAll as ρ) ρ).th fun ds ρ => opt (f ds (.int d)) ρ := ev_callB
end
theorem intsOf_map (l : List Int) : intsOf (l.map D.int) = some l := by
  induction l with
  | nil => rfl
  | cons i l ih => rw [List.map_cons, intsOf, ih]; rfl
def maxDf (d : Int) : List Int → Int
  | [] => d
  | n :: r => r.foldl max n
theorem fMaxDf_l {o : Bool} {l : List Int} {d : Int} : fMaxDf [.lst o (l.map .int)] (.int d) = some (.int (maxDf d l)) := by
  unfold fMaxDf
  simp only [intsOf_map, Option.map_some]
  cases l <;> rfl
theorem fzK_dk {β : Type} {f : β → DK} {g : β → D} (h : ∀ x, (g x).fzd = true) (l : List β) : fzK (l.map fun x => (f x, g x)) = l.map fun x => (f x, g x) := fzK_of _ (by
  induction l with
  | nil => rfl
  | cons x l ih => rw [List.map_cons, fzdK, h x, ih]; rfl)
end VL

set_option Elab.async false
set_option linter.all false
set_option maxRecDepth 100000
set_option maxHeartbeats 2000000
namespace VL
open PySem PySem.Spec PyProof.Rows L2
section
variable {mg : MG}
/-- is, is not, of flags -/
def fIsB (d e : D) : Option D := match d, e with
  | .bl a, .bl b => some (.bl (decide (a = b)))
  | _, _ => none
def fNisB (d e : D) : Option D := match d, e with
  | .bl a, .bl b => some (.bl (!decide (a = b)))
  | _, _ => none
theorem Bor.bl' {F : FS} {H : Hp} {fps : List Addr} {v : V} {b : Bool} (h : Bor mg F H fps v (.bl b)) : v = .bl b := by
  obtain ⟨_, r, _⟩ := h
  cases r; rfl
theorem ops_isB : OpS2 mg (fun x y H Q => ∃ a b, x = .bl a ∧ y = .bl b ∧ Q (.bl (decide (a = b))) H) fIsB := by
  intro F H fps v w d e d' Q g b1 b2 h q
  unfold fIsB at h
  split at h
  · cases h
    exact ⟨_, _, b1.bl', b2.bl', q.bl g⟩
  · cases h
theorem ops_nisB : OpS2 mg (fun x y H Q => ∃ a b, x = .bl a ∧ y = .bl b ∧ Q (.bl (!decide (a = b))) H) fNisB := by
  intro F H fps v w d e d' Q g b1 b2 h q
  unfold fNisB at h
  split at h
  · cases h
    exact ⟨_, _, b1.bl', b2.bl', q.bl g⟩
  · cases h
theorem fIsB_bb {a b : Bool} : fIsB (.bl a) (.bl b) = some (.bl (decide (a = b))) := rfl
theorem fNisB_bb {a b : Bool} : fNisB (.bl a) (.bl b) = some (.bl (!decide (a = b))) := rfl
end
end VL

set_option Elab.async false
set_option linter.all false
set_option maxRecDepth 100000
set_option maxHeartbeats 2000000
/-! ### iterators that hand out tuples of their own: enumerate(tuple) -/
namespace VC
open PySem PySem.Spec PyProof.Rows L2
/-- one item of such a walk, as it is taken and let go: the tuple is new, and is tracked from now on -/
theorem next_tuple {X : Cx} {pins : List (Addr × Obj)} {s : Shared} {σ : L2.St} {H : Hp} {E : Value → Shared → Prop} {J : Addr} {fp wr : List Addr} {m i : Nat} {Pt : Nat → Array Value → Prop} {Sk : Nat → Heap → Prop} {Mid : Nat → Addr → Heap → Prop} {elts : List Expr} {kk : Nat} {pos : Pos} {Q : Value → Shared → Prop}
    (I : Inv X pins σ H s) (W : WalksT X.prog X.w X.A J fp wr m Pt Sk Mid) (free : ∀ b ∈ wr, FpOk X pins H b) (lt : i < m) (st : Sk i s.heap)
    (h : ∀ (vals : Array Value) (T : Addr), Pt i vals → H T = none → ∃ xs : List V, xs.length ≤ sizeLine ∧ Vals xs vals.toList ∧
      ∀ h2 tk, Inv X pins σ (upd H T (.tup xs)) { s with heap := h2, toks := tk } → Sk (i + 1) h2 → (∀ b ∈ wr, upd H T (.tup xs) b = none) → Q (.ref T) { s with heap := h2, toks := tk }) :
    wpAny (model X.prog X.w) X.A (pyNext (.ref J)) (fun r s1 => ∃ v, r = some v ∧ wpAny (model X.prog X.w) X.A (letOwnedTupleGo (.Tuple elts kk pos) (.ref J) v) (fun _ s2 => Q v s2) E s1) E s := by
  refine W.item i s _ _ lt st fun T vals h1 tk pt hT isT mid old => ⟨_, rfl, W.go elts kk pos i T _ _ _ mid fun h2 st2 old2 => ?_⟩
  have fresh : H T = none := I.hok.fresh hT
  have out : T ∉ wr := W.apart i T h1 mid
  obtain ⟨xs, small, rv, go⟩ := h vals T pt fresh
  obtain ⟨o, ho, hc, n, hd⟩ := isT
  have laid : ObjOk X.prog X.w (upd H T (.tup xs)) h2 T (.tup xs) := ⟨small, vals.toList, rv, ⟨o, old2 T o out ho, hc, n, by simpa using hd⟩⟩
  refine go h2 tk (I.turnedNew (t' := tk) (ch := wr) (fun b u nb q => old2 b u nb (old b u nb q)) free hT laid) st2 fun b hb => ?_
  rw [upd_ne (show b ≠ T from fun z => out (by rw [← z]; exact hb))]
  exact (free b hb).1
/-- a new enumerate over anything whose iterator is one new object -/
theorem meets_enumB {v : Value} {o : Obj} {H : Heap → Prop} (B : Begins v o H) :
    Meets (Builtin.«enumerate.__new__» ⟨[.type "enumerate", v], []⟩) (fun _ R s => H s.heap ∧
      R (.ok (.ret (.ref (s.heap.push o).objs.size))) { s with heap := (s.heap.push o).push { cls := .type "enumerate", data := .fields #[.none, .bool false, .ref s.heap.objs.size, rawInt 0, .none, .none] } }) := by
  refine .of_wp fun prog w A R s ⟨there, fin⟩ => ?_
  have sub := sub_enumerate
  have ask : ∀ {A' : Around} {E : Value → Shared → Prop} {Q : Value → Shared → Prop}, Q (.ref s.heap.objs.size) { s with heap := s.heap.push o } → wpAny (model prog w) A' (pyIter v) Q E s := fun {A'} {E} {Q} q => B.iter prog w A' E s Q there q
  cases s
  wp_walk using ask
  refine wpAny_stack_any fun st => wpAny_pure ?_
  split
  rotate_left
  · wp_walk using ask
    exact ⟨_, rfl, fin⟩
  rename_i c _ _ _ _ _
  generalize (c == Value.type "enumerate") = own
  cases own <;> (wp_walk using ask; exact ⟨_, rfl, fin⟩)
theorem call_enumB {prog : Program} {w : World} {A : Around} {E : Value → Shared → Prop} {s : Shared} {v : Value} {o : Obj} {H : Heap → Prop} {Q : Value → Shared → Prop} (B : Begins v o H) (there : H s.heap)
    (h : ∀ h', IsEnum h' (s.heap.objs.size + 1) s.heap.objs.size 0 .none → h'.get? s.heap.objs.size = some o → (∀ b u, s.heap.get? b = some u → h'.get? b = some u) → Q (.ref (s.heap.objs.size + 1)) { s with heap := h' }) :
    wpAny (model prog w) A (call (.type "enumerate") [v]) Q E s := by
  refine callType_new F.called_enumerate (by decide) (F.typeCall_enumerate_1 _) (F.newCall_enumerate_1 _) (fun obj => F.args_object_init_2 obj _) F.entry_enumerate_new (meets_enumB B) ⟨there, ?_⟩
  have sz : (s.heap.push o).objs.size = s.heap.objs.size + 1 := Heap.size_push ..
  rw [sz]
  have top := Heap.get?_push_size (s.heap.push o) (o := { cls := .type "enumerate", data := .fields #[.none, .bool false, .ref s.heap.objs.size, rawInt 0, .none, .none] }) rfl
  rw [sz] at top
  exact ⟨⟨_, top, rfl⟩, h _ top (Heap.get?_push_of_some _ (Heap.get?_push_size _ B.free)) fun b u x => Heap.get?_push_of_some _ (Heap.get?_push_of_some _ x)⟩
/-- the tuple at a as it stands at each turn, each item in a new pair -/
def IteT (K : PySem.W.Frag) (a : Addr) : It :=
  ⟨fun i H => ∃ (xs : List V) (x : V), SqT K H a xs ∧ xs[i]? = some x, fun i H v H' => ∃ T x, v = .ref T ∧ H T = none ∧ H' = upd H T (.tup [.int (i : Nat), x]) ∧ ∀ xs, SqT K H a xs → xs[i]? = some x, fun i H => ∃ xs : List V, SqT K H a xs ∧ xs.length ≤ i⟩
theorem turn_enumT {P : Program} {w : World} {K : PySem.W.Frag} {elts : List Expr} {kk : Nat} {tpos : Pos} (a e it : Addr) (hai : a ≠ it) :
    Turn P w K (.Tuple elts kk tpos) (IteT K a) [e, it] e (fun i h => (∃ old, IsEnum h e it ((i : Nat) : Int) old) ∧ h.IsTupleIter it a i ∧ e ≠ it) where
  mem := by simp
  obj := fun i h ⟨⟨old, he⟩, ⟨o, ho, hc, hd⟩, _⟩ b hb => by
    rcases (show b = e ∨ b = it by simpa using hb) with rfl | rfl
    · exact ⟨_, he, fun v q => nomatch q⟩
    · exact ⟨o, ho, fun v q => by rw [hd] at q; cases q⟩
  keep := fun i h h' ⟨⟨old, he⟩, hi, hne⟩ k => ⟨⟨old, k e (by simp) _ he⟩, hi.at fun o q => k it (by simp) o q, hne⟩
  item := by
    intro X hP hw hK hc i pins s σ H E I hf ⟨⟨old, he⟩, hit, hne⟩ ⟨xs, x, hq, hx⟩
    subst hP hw hK
    obtain ⟨its, rv, p, _⟩ := I.tuple hq
    obtain ⟨u, hu, ru⟩ := rv.get hx
    have ea : e ≠ a := fun z => by
      obtain ⟨o1, q1, c1, _⟩ := p
      have he1 : s.heap.get? e = some _ := he
      rw [z, q1] at he1
      cases he1
      injection c1 with c1
      exact absurd c1 (by decide)
    have W := WalksT.enumFrom (A := X.A) 0 (Draws.tuple (prog := X.prog) (w := X.w) (A := X.A.in1) (I.ok.hd hc) it a hai its.toArray) e hne (by simp [hne, ea]) (List.mem_cons_self ..)
    refine next_tuple I W hf (i := i) (by simpa using (List.getElem?_eq_some_iff.mp hu).1) ⟨⟨old, by simpa using he⟩, hit, p⟩ fun vals T ⟨t, y, hy, ev⟩ fresh => ?_
    have ey : y = u := by
      have e1 : its.toArray[i]? = some y := hy
      simp only [List.getElem?_toArray, hu, Option.some.injEq] at e1
      exact e1.symm
    subst ey ev
    refine ⟨[.int (i : Nat), x], (by show 2 ≤ sizeLine; decide), .cons ⟨t, by simp⟩ (.cons ru .nil), fun h2 tk J st2 dead => ?_⟩
    obtain ⟨⟨old2, he2⟩, it2, _⟩ := st2
    exact ⟨.ref T, _, J, rfl, ⟨T, x, rfl, fresh, rfl, fun l hl => by rw [I.tuple_inj hl hq]; exact hx⟩, ⟨⟨old2, by simpa using he2⟩, it2, hne⟩, dead⟩
  done := by
    intro X hP hw hK hc i pins s σ H E I hf ⟨⟨old, he⟩, hit, hne⟩ ⟨xs, hq, hx⟩
    subst hP hw hK
    obtain ⟨its, rv, p, _⟩ := I.tuple hq
    obtain ⟨f0, f1, f2, f3, f4, f5⟩ := hf it (by simp)
    have none_left : its.toArray[i]? = none := by
      have := rv.length
      simp; omega
    have over : Draws X.prog X.w X.A.in1 it [it, a] i (fun _ _ => True) (fun j h => j = i ∧ h.IsTupleIter it a i ∧ h.IsTuple a its.toArray) := {
      live := fun _ _ ⟨_, ⟨o, ho, _⟩, _⟩ => ⟨o, ho⟩
      frame := fun _ _ _ ⟨z, a1, a2⟩ hk => ⟨z, a1.at fun o q => hk it (by simp) o q, a2.at fun o q => hk a (by simp) o q⟩
      item := fun j s Q E hj ⟨z, _⟩ _ => absurd z (Nat.ne_of_lt hj)
      done := fun s Q E ⟨_, a1, a2⟩ hE => wpAny_nextOf_tuple_end (I.ok.hd hc) a1 a2 none_left hE }
    exact wpAny_pyNext_enum_endD over he ⟨rfl, hit, p⟩ fun h' eb => ⟨rfl, I.turned (t' := s.toks) (fun b o hb q => eb b o hb q) f0 f1 f3 f4 f5⟩
  self := fun A i s Q E ⟨⟨_, he⟩, _⟩ h => wpAny_pyIter_enum he h
/-- enumerate of a list or of a tuple -/
def iEnumA (K : PySem.W.Frag) (ta : TA) : TI := fun σ H R => ta σ H fun vs H1 => ∃ a xs, vs = [.ref a] ∧ ((SqL K H1 a xs ∧ R (Ite K a) H1) ∨ (SqT K H1 a xs ∧ R (IteT K a) H1))
theorem pi_enumA {X : Cx} {e : Expr} {ta : TA} {p pos tpos : Pos} {elts : List Expr} {kk : Nat} (hg : Gl X "enumerate") (hm : X.mg "enumerate" = none) (ha : PA X [e] ta) (hs : starEach [e] X.env = [(false, eval e X.env)] := by rfl) :
    PI X (.Tuple elts kk tpos) (.Call (.Name "enumerate" p) [e] [] pos) (iEnumA X.K ta) := by
  refine ⟨fun pins s σ H R I h => Call_ (ld_blt I hg hm boot_enumerate (PyProof.Rows.callWith_type1 (thn (ha.run pos pins s σ H _ I h) fun us s1 ⟨vs, H1, I1, r1, a, xs, ev, q1⟩ => ?_) hs rfl))⟩
  subst ev
  rw [Vals.ref1 r1]
  have new : ∀ b ∈ [s1.heap.objs.size + 1, s1.heap.objs.size], FpOk X pins H1 b := fun b hb => by
    have hle : s1.heap.objs.size ≤ b := by
      rcases (show b = s1.heap.objs.size + 1 ∨ b = s1.heap.objs.size by simpa using hb) with z | z <;> omega
    exact I1.fpOk hle (I1.hok.fresh hle)
  rcases q1 with ⟨hq, q⟩ | ⟨hq, q⟩
  · obtain ⟨its, rv, pl, _⟩ := I1.list hq
    refine call_enumerate_list pl.isList fun h' he hit hsz hk => wpAny_pyIter_enum he ?_
    exact ⟨_, [s1.heap.objs.size + 1, s1.heap.objs.size], _, _, H1, rfl, I1.kept (t' := s1.toks) hk, turn_enum a _ _, ⟨⟨.none, he⟩, hit, Nat.succ_ne_self _⟩, new, q⟩
  · obtain ⟨its, rv, pl, _⟩ := I1.tuple hq
    refine call_enumB (begins_tuple a its.toArray) pl fun h' he hit hk => wpAny_pyIter_enum he ?_
    exact ⟨_, [s1.heap.objs.size + 1, s1.heap.objs.size], _, _, H1, rfl, I1.kept (t' := s1.toks) hk, turn_enumT a _ _ (Nat.ne_of_lt pl.lt), ⟨⟨.none, he⟩, ⟨_, hit, rfl, rfl⟩, Nat.succ_ne_self _⟩, new, q⟩
end VC

set_option Elab.async false
set_option linter.all false
set_option maxRecDepth 100000
set_option maxHeartbeats 2000000
namespace VL
open PySem PySem.Spec PyProof.Rows L2 VC
/-! ### enumerate of a list, of a tuple -/
def numD (ds : List VL.D) : List VL.D := ds.mapIdx fun i d => .tup [.int i, d]
theorem numD_len (ds : List VL.D) : (numD ds).length = ds.length := by simp [numD]
theorem numD_get {ds : List VL.D} {i : Nat} {d : VL.D} (h : ds[i]? = some d) : (numD ds)[i]? = some (.tup [.int i, d]) := by simp [numD, h]
def iEnumM (g : M VL.D) : M (List VL.D) := g >>= fun d => match d with
  | .lst _ xs => pure (numD (fzL xs))
  | .tup xs => pure (numD (fzL xs))
  | _ => fail
section
variable {mg : MG} {W : WX} {σ : L2.St} {F : FS} {H : Hp} {X : Cx}
theorem yields_enumL {K : PySem.W.Frag} {a : Addr} {xs : List V} {ds : List VL.D} (fa : F a) (e : Rd H a (.lst xs)) (r : Rs mg F H xs ds []) : Yields mg F H (Ite K a) (numD ds) where
  go := fun H2 i l hi => by
    rw [numD_len] at hi
    obtain ⟨v, d, h1, h2, _⟩ := get_len r i hi
    exact ⟨xs, v, .inl (Rd.eq e (l.fz a fa)), h1⟩
  yld := fun H2 i x H3 l hi y => by
    rw [numD_len] at hi
    obtain ⟨T, x1, rfl, nT, rfl, q1⟩ := y
    obtain ⟨v, d, h1, h2, _⟩ := get_len r i hi
    have z1 := q1 xs (.inl (Rd.eq e (l.fz a fa)))
    rw [h1] at z1; cases z1
    exact ⟨.tup [.int i, d], numD_get h2, zip_yld l nT (.int _) (fresh_nil r h1 h2), upd_ext nT⟩
  stop := fun H2 l => ⟨xs, .inl (Rd.eq e (l.fz a fa)), by rw [numD_len, r.len]; exact Nat.le_refl _⟩
theorem yields_enumT {K : PySem.W.Frag} {a : Addr} {xs : List V} {ds : List VL.D} (e : H a = some (.tup xs)) (r : Rs mg F H xs ds []) : Yields mg F H (IteT K a) (numD ds) where
  go := fun H2 i l hi => by
    rw [numD_len] at hi
    obtain ⟨v, d, h1, h2, _⟩ := get_len r i hi
    exact ⟨xs, v, .inl (.inl (l.tp a xs e)), h1⟩
  yld := fun H2 i x H3 l hi y => by
    rw [numD_len] at hi
    obtain ⟨T, x1, rfl, nT, rfl, q1⟩ := y
    obtain ⟨v, d, h1, h2, _⟩ := get_len r i hi
    have z1 := q1 xs (.inl (.inl (l.tp a xs e)))
    rw [h1] at z1; cases z1
    exact ⟨.tup [.int i, d], numD_get h2, zip_yld l nT (.int _) (fresh_nil r h1 h2), upd_ext nT⟩
  stop := fun H2 l => ⟨xs, .inl (.inl (l.tp a xs e)), by rw [numD_len, r.len]; exact Nat.le_refl _⟩
theorem vi_enum {e1 : Expr} {elts : List Expr} {kk : Nat} {tpos : Pos} {g : M VL.D} {p pos : Pos} (hg : Gl X "enumerate") (hm : X.mg "enumerate" = none) (ha : PE X e1 (vE mg W g)) (hs : starEach [e1] X.env = [(false, eval e1 X.env)] := by rfl) (hs1 : starEach (e1 :: []) X.env = (false, eval e1 X.env) :: starEach [] X.env := by rfl) :
    PI X (.Tuple elts kk tpos) (.Call (.Name "enumerate" p) [e1] [] pos) (vI mg W (iEnumM g)) := by
  refine pi_imp (pi_enumA hg hm (pa_cons ha pa_nil hs1) hs) fun σ H Rw h => ?_
  show vX mg W (rD mg) g σ H fun x H1 => ∃ a xs, [x] = [V.ref a] ∧ ((SqL X.K H1 a xs ∧ Rw (Ite X.K a) H1) ∨ (SqT X.K H1 a xs ∧ Rw (IteT X.K a) H1))
  refine vI.then h fun d ρ x F H' fp fps r hE hG hP => ?_
  have r' : R mg (F.add fp) H' x d.fz [] := R.freeze (fun _ f => .inl f) r fun _ m => .inr m
  have hE' := hE.move (keeps_add (fp := fps) fp)
  have c' : Rch F H' (fp ++ fps) (F.add fp) H' fps := Rch.add fun a m => m.elim (List.mem_append_left _) (List.mem_append_right _)
  cases d with
  | lst o xs =>
    cases r' with
    | lstF fa ea ra => exact ⟨_, _, rfl, .inl ⟨.inl ea, hP _ _ _ fps (yields_enumL fa ea ra) hE' hG.add c'⟩⟩
  | tup xs =>
    cases r' with
    | tup ea ra => exact ⟨_, _, rfl, .inr ⟨.inl (.inl ea), hP _ _ _ fps (yields_enumT ea ra) hE' hG.add c'⟩⟩
  | _ => exact hP.elim
end
theorem ei_enum {g : M VL.D} {ρ : Env} : iEnumM g ρ = (g ρ).th fun d ρ => match d with
  | .lst _ xs => .ok (numD (fzL xs)) ρ
  | .tup xs => .ok (numD (fzL xs)) ρ
  | _ => .bad := by
  unfold iEnumM
  rw [bind_th]
  cases g ρ with
  | ok d ρ1 =>
    simp only [th_ok]
    cases d <;> rfl
  | _ => rfl
end VL

set_option Elab.async false
set_option linter.all false
set_option maxRecDepth 100000
set_option maxHeartbeats 2000000
namespace VL
open PySem PySem.Spec PyProof.Rows L2 VC
/-! ### d.get(k) -/
def getD1 (d k : VL.D) : Option VL.D := match d with
  | .dct _ t kvs => (dkey k).bind fun dk => if dk.isK == !t then (match kget kvs dk with
    | some x => if x.fzd then some x else none
    | none => some .non) else none
  | _ => none
def gGet1 (i : Nat) (k : Kx) : M VL.D := fun ρ => match ρ[i]?, k.val ρ with
  | some (some d), some kd => (match getD1 d kd with
    | some x => .ok x ρ
    | none => .bad)
  | _, _ => .bad
section
variable {mg : MG} {W : WX} {σ : L2.St} {F : FS} {H : Hp} {X : Cx} {fps : List Addr}
theorem isD_of {a : Addr} {t : Bool} {ob : HO} {kvs : List (DK × V)} (e : Rd H a ob) (o : DHO t ob kvs) : IsD H a := by
  rcases o with ⟨_, l, rfl, _⟩ | ⟨_, l, rfl, _⟩
  · exact .inl ⟨l, e⟩
  · exact .inr ⟨l, e⟩
theorem ve_get1 {o e : Expr} {apos cpos : Pos} {i : Nat} {k : Kx} (hu : X.A.units + 1 < cLine) (ho : PE X o (tVar i)) (he : PE X e k.te) (m : M1 X o "get" apos e cpos) : PE X (.Call (.Attribute o "get" apos) [e] [] cpos) (vE mg W (gGet1 i k)) := by
  refine pe_imp (pe_dget1 hu ho he m) fun σ H Q h => ?_
  obtain ⟨F, ρ, fps, hE, hG, hP⟩ := h
  unfold gGet1 at hP
  split at hP
  rotate_left
  · exact hP.elim
  rename_i d kd e0 ek
  split at hP
  rotate_left
  · exact hP.elim
  rename_i x ex
  obtain ⟨y, fk, rk, ty⟩ := Kx.get hE ek
  obtain ⟨v, fq, ev, rv, mv⟩ := hE.get e0
  unfold getD1 at ex
  split at ex
  rotate_left
  · cases ex
  rename_i o' t kvs
  obtain ⟨dk, hdk, ex⟩ := Option.bind_eq_some_iff.mp ex
  split at ex
  rotate_left
  · cases ex
  rename_i hk
  have hb : Bor mg F H fps v (.dct o' t kvs) := ⟨fq, rv, mv⟩
  obtain ⟨p, ob, ws, f3, rfl, rd, od, q, rs⟩ := hb.dct
  have g := dget_of rd od rk hdk (by simpa using hk)
  refine ⟨_, ev, p, rfl, isD_of rd od, ty _ _ ⟨_, g, ?_⟩⟩
  cases ekg : kget kvs dk with
  | none =>
    rw [ekg] at ex
    cases ex
    have hn := kget_none (k := dk) q
    rw [ekg] at hn
    have : kget ws dk = none := by
      cases hw : kget ws dk with
      | none => rfl
      | some z => rw [hw] at hn; cases hn
    rw [this]
    exact hP .non F H [] fps .non hE (by simpa using hG) Rch.refl
  | some x0 =>
    rw [ekg] at ex
    simp only at ex
    split at ex
    rotate_left
    · cases ex
    rename_i cf
    cases ex
    obtain ⟨z, fz, e2, r2, _⟩ := kget_rel q rs ekg
    rw [e2]
    exact hP z F H [] fps (r2.nilfp cf) hE (by simpa using hG) Rch.refl
end
theorem ev_get1 {i : Nat} {k : Kx} {ρ : Env} : gGet1 i k ρ = (opt ((ρ[i]?).join) ρ).th fun d ρ => (opt (k.val ρ) ρ).th fun kd ρ => opt (getD1 d kd) ρ := by
  unfold gGet1
  cases ρ[i]? with
  | none => rfl
  | some o =>
    cases o with
    | none => rfl
    | some d =>
      simp only [Option.join_some, opt_some, th_ok]
      cases k.val ρ with
      | none => rfl
      | some kd =>
        simp only [opt_some, th_ok]
        cases getD1 d kd <;> rfl
end VL

set_option Elab.async false
set_option linter.all false
set_option maxRecDepth 100000
set_option maxHeartbeats 2000000
namespace VL
open PySem PySem.Spec PyProof.Rows L2 VC
section
variable {mg : MG} {W : WX} {σ : L2.St} {F : FS} {H : Hp} {X : Cx} {fps : List Addr}
/-! ### xs.index(i), a list of ints -/
def fIndex (d : VL.D) (ds : List VL.D) : Option (VL.D × VL.D) := match d, ds with
  | .lst true xs, [.int i] => (match intsOf xs with
    | some ns => (match ns.findIdx? (fun j => j == i) with
      | some k => some (.int (k : Nat), .lst true xs)
      | none => none)
    | none => none)
  | _, _ => none
theorem flat_ints (ns : List Int) : (ns.map V.int).all flatV = true := by
  rw [List.all_map]
  exact List.all_eq_true.mpr fun _ _ => rfl
theorem opm_index {K : PySem.W.Frag} : OpM mg (rIndex K) fIndex := by
  intro F H fp fa v vs d ds res d' Q r rs g h go
  unfold fIndex at h
  split at h
  rotate_left
  · cases h
  rename_i xs i
  split at h
  rotate_left
  · cases h
  rename_i ns en
  split at h
  rotate_left
  · cases h
  rename_i k ek
  cases h
  cases r with
  | lstO e r =>
    rename_i a ws f0
    have ew := ints_rel r en
    subst ew
    cases rs with
    | cons ry rn =>
      cases rn
      cases ry
      obtain ⟨lk, hk, nk⟩ := List.findIdx?_eq_some_iff_getElem.mp ek
      refine ⟨a, ns.map V.int, .int i, k, .int ns[k], rfl, rfl, .inl (.inl e), rfl, flat_ints ns, by simp [lk], by simpa [eqV] using hk, fun m z' hm hz => ?_, ?_⟩
      · have lm : m < ns.length := Nat.lt_trans hm lk
        rw [List.getElem?_map, List.getElem?_eq_getElem lm] at hz
        cases hz
        simpa [eqV] using nk m hm
      · exact go (.int (k : Nat)) F H [] (a :: f0) (.int _) (.lstO e r) g.left (Rch.refl.sub fun b m => List.mem_append_left _ (by simpa using m))
/-! ### list(range(n)) -/
def gListRg (g : M VL.D) : M VL.D := g >>= fun d => match d with
  | .int j => if decide (0 ≤ j) && decide (j ≤ 16777216) then pure (.lst true (upTo 0 j.toNat)) else fail
  | _ => fail
theorem rg_upTo (F : FS) (H : Hp) (j : Int) : Rs mg F H (rgV 0 j) (upTo 0 j.toNat) [] := by
  unfold rgV upTo
  rw [show (j - 0).toNat = j.toNat by rw [Int.sub_zero]]
  have := Rs.ints (mg := mg) (F := F) (H := H) ((List.range j.toNat).map fun (k : Nat) => (0 : Int) + (k : Int))
  rwa [List.map_map, List.map_map] at this
theorem ve_listRg {a : Expr} {g : M VL.D} {p p2 pos pos2 : Pos} (hc : X.calm = true) (hgl : Gl X "list") (hml : X.mg "list" = none) (hgr : Gl X "range") (hmr : X.mg "range" = none) (ha : PE X a (vE mg W g))
    (na2 : starEach [a] X.env = (false, eval a X.env) :: starEach [] X.env := by rfl) (na : starEach [Expr.Call (.Name "range" p2) [a] [] pos2] X.env = (false, eval (Expr.Call (.Name "range" p2) [a] [] pos2) X.env) :: starEach [] X.env := by rfl) :
    PE X (.Call (.Name "list" p) [.Call (.Name "range" p2) [a] [] pos2] [] pos) (vE mg W (gListRg g)) := by
  refine pe_imp (pe_listRg hc hgl hml (prg_1 hgr hmr ha na2) na) fun σ H Q h => ?_
  show vX mg W (rD mg) g σ H fun x H1 => _
  refine vX.then h fun d ρ x F H' fp fps r hE hG hP => ?_
  cases d with
  | int j =>
    simp only at hP
    split at hP
    · rename_i c
      rw [Bool.and_eq_true, decide_eq_true_eq, decide_eq_true_eq] at c
      cases r
      exact ⟨j, rfl, RgOk.of_le (Int.le_refl _) c.2 (by decide) c.1, Fin.lst (Fin.of hP hE hG) (rg_upTo F H' j) hG.right⟩
    · exact hP.elim
  | _ => exact hP.elim
end
theorem ev_listRg {g : M VL.D} {ρ : Env} : gListRg g ρ = (g ρ).th fun d ρ => opt (match d with | .int j => if decide (0 ≤ j) && decide (j ≤ 16777216) then some (.lst true (upTo 0 j.toNat)) else none | _ => none) ρ := by
  show (M.bind g _) ρ = _
  unfold M.bind
  cases g ρ with
  | ok d ρ1 =>
    cases d with
    | int j =>
      simp only [th_ok]
      by_cases c : (decide (0 ≤ j) && decide (j ≤ 16777216)) = true
      · simp only [c, if_true]; rfl
      · simp only [c]; rfl
    | _ => rfl
  | bad => rfl
  | exc _ _ => rfl
end VL

set_option Elab.async false
set_option linter.all false
set_option maxRecDepth 100000
set_option maxHeartbeats 2000000
/-! ### set comprehensions of ints, any number of clauses; sorted() of one -/
namespace VC
open PySem PySem.Spec PyProof.Rows L2
theorem isComp_set {elt : Expr} {gens : List Comprehension} {scope : Scope} {pos : Pos} {acc : Value} : IsComp (.SetComp elt gens scope pos) gens acc fun env => (do let v ← eval elt env; standAt elt.pos; let _ ← call (.builtin "set.add") [acc, v]) where
  cl := rfl
  quiet := fun _ _ _ => rfl
  undL := fun _ _ _ _ => rfl
  undS := fun _ _ _ _ => rfl
  denL := fun _ _ _ _ _ => rfl
  denS := fun _ _ _ _ _ => rfl
  last := fun d tg iter ifs it env h h1 => by
    unfold compTurn
    simp only [h, h1]
    rfl
  more := fun d tg iter tg1 iter1 ifs ifs1 it env h h1 => by
    unfold compTurn
    simp only [h, h1]
    rfl
def emS (w : World) (te : TE) (D : Addr) : TK := fun σ H N => te σ H fun y H1 => ∃ (k : Int) (S : Int → Bool) (n : Nat), y = V.int k ∧ H1 D = some (SetO w D S n) ∧ n + 1 < scanBound ∧ N (upd H1 D (SetO w D (fun j => S j || decide (j = k)) (if S k = true then n else n + 1)))
theorem emits_set {B : Cx} (hx : B.xe = Fl) {elt : Expr} {te : TE} (he : PE B elt te) (D : Addr) : Emits B (fun env => (do let v ← eval elt env; standAt elt.pos; let _ ← call (.builtin "set.add") [.ref D, v])) (emS B.w te D) := fun pins σ H s N I q => by
  have z := he.run pins s σ H _ I q
  rw [hx] at z
  refine wpAny_bind (thnF z fun u s1 ⟨y, H1, I1, r1, k, S, n, ey, ha, room, nn⟩ => ?_)
  subst ey
  obtain ⟨tk, rfl⟩ := r1
  refine wpAny_bind (wpAny_standAt (wpAny_bind ?_))
  refine setR_add (setO_get I1 ha) room fun h' sb new => ?_
  have hu : ∃ u, h'.get? D = some u := by
    have ⟨o, _, _, _, ho, _⟩ := new
    exact ⟨o, ho⟩
  exact wpAny_pure ⟨_, I1.write (e := D) (t' := s1.toks + 1) (by rw [ha]; trivial) (.inl rfl) (fun b u hb hu => (sb.2 b hb).trans hu) hu (setO_new new), nn⟩
section
variable {X : Cx}
variable {tg iter elt : Expr} {ifs : List Expr} {rest : List Comprehension} {scope : Scope} {own : List (Str × Nat)} {pos : Pos} {wi : TI} {g : TG} {tt : TT} {cs : List (TI × TG × TT × List Nat)} {vs' : List Nat} {te : TE}
theorem pe_compS (hc : X.calm = true) (hN : X.N.Nodup) (hi : PI X tg iter wi) (ok : BlkOk X.N X.env.scope scope own) (hs : ∀ x, foldedSetIterable iter X.env x = pure x) (hpl : BlkP X scope fun B => Plain B.env (⟨tg, iter, ifs, 0⟩ :: rest))
    (hg : BlkP X scope fun B => PG B tg g) (ht : BlkP X scope fun B => PTs B ifs tt) (hcs : BlkP X scope fun B => Parts B rest cs vs') (hv : ∀ i ∈ vs', i ∈ own.map (·.2)) (he : BlkP X scope fun B => PE B elt te) :
    PE X (.SetComp elt (⟨tg, iter, ifs, 0⟩ :: rest) scope pos) (tCompA wi g tt (own.map (·.2)) cs (emS X.w te) fun D => SetO X.w D (fun _ => false) 0) := by
  refine ⟨fun pins s σ H Q I h => ?_⟩
  rw [PpSet.eval_SetComp]
  refine comp_core (o0 := fun D => SetO X.w D (fun _ => false) 0) (ob := { cls := .type "set", dict := none, data := .set #[] 0 (.fresh 0 0 (!X.w.params.followText "set-order")) }) (fun D => isComp_set) hc hN I hi ok hs hpl hg ht hcs hv (fun D => ⟨fun s H C cl fp => emits_set (B := X.blk s H scope (compEnvC scope cl C X.env) fp) rfl (he.at' s H C cl fp) D⟩) (fun s P z => PpSet.newSet_ok z) (fun hp H' hb => setO_new (setR_fresh X.w)) h fun D C t m H' I' q hn f => ⟨m, hn, fun h2 sb => ?_⟩
  obtain ⟨f0, f1, f2, f3, f4, f5⟩ := f
  exact ⟨.ref D, H', I'.turned (t' := t.toks) (fun b o hb z => (sb.2 b hb).trans z) f0 f1 f3 f4 f5, rfl, q⟩
/-- sorted() of a set of ints that is told by an expression -/
def tSortS (w : World) (ts : TE) : TE := fun σ H Q => ts σ H fun x H1 => ∃ (a : Addr) (S : Int → Bool) (n : Nat), x = V.ref a ∧ H1 a = some (SetO w a S n) ∧ n < 60 ∧
  ∀ (p : Addr) (out : List Int), out.Pairwise (· < ·) → (∀ k, k ∈ out ↔ S k = true) → H1 p = none → Q (.ref p) (upd H1 p (.lst (out.map V.int)))
theorem pe_sortS {a : Expr} {ts : TE} {p pos : Pos} (hc : X.calm = true) (hg : Gl X "sorted") (hm : X.mg "sorted" = none) (ha : PE X a ts) (na : starEach [a] X.env = (false, eval a X.env) :: starEach [] X.env := by rfl) : PE X (.Call (.Name "sorted" p) [a] [] pos) (tSortS X.w ts) := by
  refine ⟨fun pins s σ H Q I h => ?_⟩
  refine Call_ (ld_blt I hg hm PyProof.Rows.boot_sorted ?_)
  refine PyProof.Rows.callWith_builtin1 (PyProof.Rows.args_cons (thn (ha.run pins s σ H _ I h) fun v s1 ⟨x, H1, I1, r1, q1⟩ => ?_) na) na rfl
  obtain ⟨l, S, n, rfl, hq, h1, q1⟩ := q1
  cases r1
  have R := setO_get I1 hq
  refine PyProof.Rows.args_nil ?_
  refine sorted_set R (I1.ok.hd hc) (by omega) fun s' p out c2 ns' k g o hp hg' hints up mem len => ?_
  have hlen : (ns'.map V.int).length ≤ sizeLine := by rw [List.length_map, sizeLine_eq, len]; omega
  have hn : H1 p = none := I1.hok.fresh hp
  have hv : Vals (ns'.map V.int) out.toList := vals_of_ints hints
  have J : Inv X pins σ (upd H1 p (.lst (ns'.map V.int))) { s1 with heap := s'.heap, gens := s'.gens, drawn := s'.drawn, toks := s'.toks } :=
    I1.call (ch := []) (Un.laid k hp hn) (I1.hok.laid k hp ⟨hlen, out.toList, c2, hv, hg'⟩) (by rw [g]; exact I1.bare) (fun _ z => nomatch z)
  have e : s' = { s1 with heap := s'.heap, gens := s'.gens, drawn := s'.drawn, toks := s'.toks } := by
    cases s'
    cases o
    rfl
  rw [e]
  exact ⟨.ref p, _, J, rfl, q1 p ns' up mem hn⟩
end
end VC

set_option Elab.async false
set_option linter.all false
set_option maxRecDepth 100000
set_option maxHeartbeats 2000000
namespace VL
open PySem PySem.Spec PyProof.Rows L2 VC
/-! ### sorted({int for ..}) -/
def insU (k : Int) : List Int → List Int
  | [] => [k]
  | x :: xs => if k < x then k :: x :: xs else if k = x then x :: xs else x :: insU k xs
def usort (l : List Int) : List Int := l.foldr insU []
theorem mem_insU {k y : Int} : ∀ {l : List Int}, y ∈ insU k l ↔ y = k ∨ y ∈ l
  | [] => by simp [insU]
  | x :: xs => by
    unfold insU
    split
    · simp
    · split
      · rename_i e
        subst e
        simp
      · rw [List.mem_cons, List.mem_cons, mem_insU]
        constructor
        · rintro (h | h | h) <;> simp [h]
        · rintro (h | h | h) <;> simp [h]
theorem insU_up {k : Int} : ∀ {l : List Int}, l.Pairwise (· < ·) → (insU k l).Pairwise (· < ·)
  | [], _ => by simp [insU]
  | x :: xs, h => by
    rw [List.pairwise_cons] at h
    unfold insU
    split
    · rename_i c
      exact List.pairwise_cons.mpr ⟨fun y m => by
        rcases List.mem_cons.mp m with rfl | m
        · exact c
        · have := h.1 y m; omega, List.pairwise_cons.mpr h⟩
    · split
      · exact List.pairwise_cons.mpr h
      · exact List.pairwise_cons.mpr ⟨fun y m => by
          rcases mem_insU.mp m with rfl | m
          · omega
          · exact h.1 y m, insU_up h.2⟩
theorem mem_usort {y : Int} : ∀ {l : List Int}, y ∈ usort l ↔ y ∈ l
  | [] => by simp [usort]
  | x :: l => by
    show y ∈ insU x (usort l) ↔ _
    rw [mem_insU, mem_usort, List.mem_cons]
theorem usort_up : ∀ {l : List Int}, (usort l).Pairwise (· < ·)
  | [] => List.Pairwise.nil
  | x :: l => insU_up usort_up
theorem usort_of {a l : List Int} (ha : a.Pairwise (· < ·)) (h : ∀ x, x ∈ a ↔ x ∈ l) : a = usort l := by
  have na : a.Nodup := ha.imp fun h => Int.ne_of_lt h
  have nb : (usort l).Nodup := (usort_up (l := l)).imp fun h => Int.ne_of_lt h
  exact List.Perm.eq_of_pairwise (le := (· < ·)) (fun x y _ _ h1 h2 => by omega) ha usort_up ((List.perm_ext_iff_of_nodup na nb).mpr fun x => (h x).trans mem_usort.symm)
def emInt (e : M VL.D) (ns : List Int) : M (List Int) := fun ρ => match e ρ with
  | .ok (.int k) ρ1 => if ns.length < 59 then .ok (ns ++ [k]) ρ1 else .bad
  | _ => .bad
def gSortSC (it : M (List VL.D)) (x : Cl) (cls : List Cl) (e : M VL.D) : M VL.D := gComp it x.t x.c x.vs (goG (emInt e) cls) [] fun ns => .lst true ((usort ns).map .int)
section
variable {mg : MG} {W : WX} {σ : L2.St} {F F' F1 : FS} {H H' H1 : Hp} {fp fps fq : List Addr} {X : Cx} {α : Type}
def RSet (w : World) (D : Addr) (ns : List Int) (F : FS) (H : Hp) (fa : List Addr) : Prop := fa = [] ∧ ∃ S n, H D = some (SetO w D S n) ∧ (∀ k, S k = true ↔ k ∈ ns) ∧ n ≤ ns.length ∧ ns.length < 60
theorem moves_set {w : World} {D : Addr} : Moves D (RSet w D) := fun a F F' H H' fa ⟨z, S, n, h, q, r⟩ k => ⟨z, S, n, (k.ow D List.mem_cons_self).trans h, q, r⟩
theorem em_int {w : World} {D : Addr} {e : M VL.D} {te : TE} (he : ∀ σ H Q, vE mg W0 e σ H Q → te σ H Q) : KOk mg D (RSet w D) [] (emInt e) (emS w te D) := by
  intro σ F H ρ fps fa a N hE hR hG hf
  refine he _ _ _ ⟨F, ρ, fps, hE, hG.right, ?_⟩
  unfold emInt at hf
  cases ee : e ρ with
  | bad => simp only [ee] at hf
  | exc x ρ1 => simp only [ee] at hf
  | ok y ρ1 =>
    simp only [ee] at hf
    cases y with
    | int k =>
      simp only at hf
      split at hf
      rotate_left
      · rename_i q; split at q <;> first | cases q | exact hf.elim
      rename_i a' ρ' q
      split at q
      rotate_left
      · cases q
      cases q
      rename_i hl
      intro v F1 H1 fy fps1 ry hE1 hG1 c1
      have g1 := hG.carry c1 hG1
      obtain ⟨z, S, n, hD1, qS, qn, q60⟩ := moves_set _ _ _ _ _ _ hR (c1.keeps hG)
      subst z
      have cc : Rch F H ((D :: []) ++ fps) F1 H1 ((D :: []) ++ (fy ++ fps1)) := Rch.refl.carry c1
      have fy0 : fy = [] := (R.fzd ry).mp rfl
      subst fy0
      cases ry
      have sb : (59 : Nat) + 2 < scanBound := by decide
      refine ⟨k, S, n, rfl, hD1, by omega, ?_⟩
      obtain ⟨kp, gd, rc⟩ := own_step (o := SetO w D (fun j => S j || decide (j = k)) (if S k = true then n else n + 1)) (p := D) (fa := []) (fp := []) (gone := []) (fa2 := []) (by simpa using g1) (by simp) (fun _ z => nomatch z)
      refine hf σ F1 _ fps1 [] (hE1.move (kp.sub fun a m => List.mem_append_right _ m)) rfl ⟨rfl, _, _, upd_same, fun j => ?_, ?_, ?_⟩ gd ((by simpa using cc : Rch F H ((D :: []) ++ fps) F1 H1 ((D :: []) ++ fps1)).trans (by simpa using rc))
      · rw [Bool.or_eq_true, qS, decide_eq_true_eq, List.mem_append, List.mem_singleton]
      · rw [List.length_append, List.length_singleton]
        split <;> omega
      · rw [List.length_append, List.length_singleton]
        omega
    | _ => exact hf.elim
/-- as comp_ok, with an end of its own -/
theorem comp_okS {it : M (List VL.D)} {x : Cl} {cls : List Cl} {em : α → M α} {emT : Addr → TK} {R : Addr → α → FS → Hp → List Addr → Prop} {a0 : α} {fin : α → VL.D} {o0 : Addr → HO} {Q Q' : VK} (mv : ∀ D, Moves D (R D)) (hem : ∀ D, KOk mg D (R D) [] em (emT D)) (hn : (∀ i ∈ slotsOf cls, i ∈ x.vs) ∧ Nested cls)
    (h0 : ∀ D F H, H D = some (o0 D) → R D a0 F H []) (ho : ∀ D xs, o0 D ≠ .tup xs)
    (hfin : ∀ D a ρ F' H' fa' fps' F H fps, R D a F' H' fa' → RE mg F' H' ρ σ fps' → Gd F' H' ((D :: fa') ++ fps') → Rch F H fps F' H' ((D :: fa') ++ fps') → Pst mg W σ (rD mg) F H fps (.ok (fin a) ρ) Q → Q' (.ref D) H')
    (h : vE mg W (gComp it x.t x.c x.vs (goG em cls) a0 fin) σ H Q) : tCompA (vI mg W it) (Cl.parts mg x).2.1 (Cl.parts mg x).2.2.1 x.vs (cls.map (Cl.parts mg)) emT o0 σ H Q' := by
  obtain ⟨F, ρ, fps, hE, hG, hP⟩ := h
  refine ⟨F, ρ, fps, hE, hG, ?_⟩
  unfold gComp at hP
  cases ei : it ρ with
  | bad => rw [ei] at hP; exact hP
  | exc z ρ1 => rw [ei] at hP; exact hP
  | ok ds ρ1 =>
    simp only [ei] at hP
    intro J F1 H1 fps1 y hE1 hG1 c1 D nD
    obtain ⟨gone, fps2, hE2, pm2⟩ := re_wipe (own := x.vs) hE1
    have hG2 := (hG1.perm pm2).right
    have c2 : Rch F H fps F1 H1 fps2 := c1.sub fun a m => pm2.mem_iff.mpr (List.mem_append_right _ m)
    have g3 : Gd F1 (upd H1 D (o0 D)) ((D :: []) ++ fps2) := ⟨List.nodup_cons.mpr ⟨fun m => (hG2.own D (by simpa using m)).trk nD, by simpa using hG2.nd⟩, fun a m f => by
      rcases List.mem_cons.mp m with rfl | m
      · exact hG2.trk a f nD
      · exact hG2.dis a (by simpa using m) f, fun a f => trk_alloc hG2 a (.inl f), fun a m => by
      rcases List.mem_cons.mp m with rfl | m
      · exact ⟨_, upd_same, ho _⟩
      · exact (hG2.own a (by simpa using m)).eq (upd_ne fun z => (hG2.own a (by simpa using m)).trk (by rw [z]; exact nD))⟩
    have c3 : Rch F H fps F1 (upd H1 D (o0 D)) ((D :: []) ++ fps2) := c2.trans (Rch.alloc nD F1 (fun _ f => f) (fun _ f => .inl f) fun a m => by
      rcases List.mem_cons.mp m with rfl | m
      · exact .inr rfl
      · exact .inl (by simpa using m))
    refine loop_okG (ρ := ρ1) (fa := []) (a := a0) (mv D) (goG_ok (mv D) (hem D) hn.2) hn.1 y ⟨fun a f => upd_ne fun z => hG2.trk a f (by rw [z]; exact nD), fun a xs q => by rw [upd_ne (ne_of_none q nD)]; exact q⟩ (fun _ f => f) (hE2.move (keeps_alloc nD F1 (fun _ f => f) hE2.own)) (h0 D _ _ upd_same) g3 ?_
    cases eg : loopG x.t x.c x.vs (goG em cls) ds a0 (forget x.vs ρ1) with
    | bad => simp only [eg] at hP; exact hP
    | exc z ρ2 => simp only [eg] at hP; exact hP
    | ok a' ρ2 =>
      simp only [eg] at hP
      obtain ⟨ρ3, rfl⟩ : ∃ ρ3, ρ2 = forget x.vs ρ3 := loopG_own eg
      exact fun F' H' fps' fa' hE' hR' hG' c' => hfin D a' _ F' H' fa' fps' F H fps hR' (re_unwipe hE') hG' (c3.trans c') hP
variable {tg iter elt : Expr} {ifs : List Expr} {rest : List Comprehension} {scope : Scope} {own : List (Str × Nat)} {pos p pos2 : Pos} {it : M (List VL.D)} {x : Cl} {cls : List Cl} {e : M VL.D}
theorem sortSC_ok {w : World} {σ : L2.St} {H : Hp} {Q : VK} (hn : (∀ i ∈ slotsOf cls, i ∈ x.vs) ∧ Nested cls) (h : vE mg W (gSortSC it x cls e) σ H Q) : tSortS w (tCompA (vI mg W it) (Cl.parts mg x).2.1 (Cl.parts mg x).2.2.1 x.vs (cls.map (Cl.parts mg)) (emS w (vE mg W0 e)) fun D => SetO w D (fun _ => false) 0) σ H Q :=
  comp_okS (R := RSet w) (o0 := fun D => SetO w D (fun _ => false) 0) (fun _ => moves_set) (fun _ => em_int fun _ _ _ z => z) hn (fun D F H z => ⟨rfl, _, 0, z, fun k => by simp, Nat.le_refl _, by simp⟩) (fun _ _ z => nomatch z)
    (fun D ns ρ F' H' fa' fps' F H fps ⟨z, S, n, hD, qS, qn, q60⟩ hE hG c hP => by
      subst z
      refine ⟨D, S, n, rfl, hD, by omega, fun p out up mem np => ?_⟩
      have eo : out = usort ns := usort_of up fun k => (mem k).trans (qS k)
      subst eo
      have hG' : Gd F' H' ([D] ++ fps') := hG
      have c' : Rch F H fps F' H' ([D] ++ fps') := c
      have hP' : Pst mg W σ (rD mg) F' H' ([D] ++ fps') (.ok (.lst true ((usort ns).map .int)) ρ) Q := fun x F2 H2 fp2 fps2 r e g c2 => hP x F2 H2 fp2 fps2 r e g (c'.trans c2)
      exact (Fin.of hP' hE hG').lst (Rs.ints _) hG' p np) h
theorem ve_sortSC (hm : X.mg "sorted" = none) (hgl : Gl X "sorted") (hc : X.calm = true) (hN : X.N.Nodup) (hi : PI X tg iter (vI mg W it)) (ok : BlkOk X.N X.env.scope scope own) (ho : x.vs = own.map (·.2)) (hpl : PlainA (⟨tg, iter, ifs, 0⟩ :: rest))
    (hg : Blk X scope fun B => ∀ w0, PG B tg (vGp mg (Wp x.vs w0) x.t)) (ht : Blk X scope fun B => PTs B ifs (vT mg W0 x.c)) (hcs : BlkP X scope fun B => Parts B rest (cls.map (Cl.parts mg)) (slotsOf cls)) (hn : (∀ i ∈ slotsOf cls, i ∈ x.vs) ∧ Nested cls) (he : Blk X scope fun B => PE B elt (vE mg W0 e)) (na : starEach [Expr.SetComp elt (⟨tg, iter, ifs, 0⟩ :: rest) scope pos] X.env = (false, eval (.SetComp elt (⟨tg, iter, ifs, 0⟩ :: rest) scope pos) X.env) :: starEach [] X.env := by rfl) :
    PE X (.Call (.Name "sorted" p) [.SetComp elt (⟨tg, iter, ifs, 0⟩ :: rest) scope pos] [] pos2) (vE mg W (gSortSC it x cls e)) :=
  pe_imp (pe_sortS hc hgl hm (pe_compS hc hN hi ok ((hpl _ List.mem_cons_self).2 _) (plain1 hpl) ⟨fun s H C cl fp => pg_vC (hg.ok s H C cl fp)⟩ ⟨fun s H C cl fp => ht.ok s H C cl fp⟩ hcs (by rw [← ho]; exact hn.1) ⟨fun s H C cl fp => he.ok s H C cl fp⟩) na) fun σ H Q h => by
    rw [← ho]; exact sortSC_ok hn h
end
theorem ev_emInt {e : M VL.D} {ns : List Int} {ρ : Env} : emInt e ns ρ = (e ρ).tB fun d ρ => match d with
    | .int k => if ns.length < 59 then .ok (ns ++ [k]) ρ else .bad
    | _ => .bad := by
  unfold emInt
  cases e ρ with
  | ok d ρ1 => cases d <;> rfl
  | _ => rfl
theorem ev_sortSC {it : M (List VL.D)} {x : Cl} {cls : List Cl} {e : M VL.D} {ρ : Env} : gSortSC it x cls e ρ = (it ρ).th fun ds ρ => (loopG x.t x.c x.vs (goG (emInt e) cls) ds [] (forget x.vs ρ)).tB fun a ρ => .ok (.lst true ((usort a).map .int)) ρ := ev_gComp
end VL
set_option Elab.async false
set_option linter.all false
set_option maxRecDepth 100000
set_option maxHeartbeats 3200000
/-! ### set(x), x a list or a tuple, of ints or of tuples of ints -/
namespace VC
open PySem PySem.W PySem.Calls PySem.Spec PyProof.Rows L2
/-- what set() lays -/
abbrev noSet (w : World) : Obj := { cls := .type "set", dict := none, data := .set #[] 0 (.fresh 0 0 (!w.params.followText "set-order")) }
theorem off_heap {h : Heap} {b : Addr} (hb : h.objs.size ≤ b) : h.get? b = none := by
  cases q : h.get? b with
  | none => rfl
  | some o => exact absurd (Heap.lt_size q) (Nat.not_lt.mpr hb)
section
variable {P : Program} {w : World} {A : Around} {E : Value → Shared → Prop} {s : Shared}
/-- set(x): a new one, and what its __init__ does -/
theorem set_made {x : Value} {Post : Heap → Nat → Prop} {Q : Value → Shared → Prop}
    (init : wpAny (model P w) A.in1.in1 (Builtin.«set.__init__» ⟨[.ref s.heap.objs.size, x], []⟩) (fun r s2 => r = .done (.ret .none) ∧ ∃ h' tk, s2 = { s with heap := h', toks := tk } ∧ Post h' tk) E { s with heap := s.heap.push (noSet w) })
    (go : ∀ h' tk, Post h' tk → Q (.ref s.heap.objs.size) { s with heap := h', toks := tk }) : wpAny (model P w) A (call (.type "set") [x]) Q E s := by
  obtain ⟨_, _, hmro⟩ := F.called_set.mro
  have k1 := F.called_set.made
  have k2 := F.called_set.sub
  refine wpAny_call (codeAny_of_tree ?_)
  show wpAny _ _ (callAny (.type "set") _) _ _ _
  refine wpAny_pure ⟨Code.quiet_builtin _ (by decide +kernel), codeAny_builtin F.entry_type_call ?_⟩
  rw [Around.under_plain (weight_type_call_type "set" [x] []) rfl]
  have k3 := F.called_set.notType
  have k4 := F.called_set.canCreate
  have k5 := F.typeCall_set_1 x
  repeat (any_goals (first | assumption | wp_step))
  refine codeAny_mono (code_set_led1 x (E := E) (Q₁ := fun v s1 => v = .ref s.heap.objs.size ∧ s1 = { s with heap := s.heap.push (noSet w) }) ⟨rfl, rfl⟩) fun r s1 hr => ?_
  cases r with
  | error e => exact hr
  | ok fl =>
    cases fl with
    | ret v =>
      obtain ⟨rfl, rfl⟩ := hr
      have at_ : (s.heap.push (noSet w)).get? s.heap.objs.size = some (noSet w) := Heap.get?_push_size _ rfl
      have ty : Shared.TypeIs { s with heap := s.heap.push (noSet w) } (.ref s.heap.objs.size) "set" := ⟨_, at_, rfl⟩
      have k6 := F.called_set.init.lookup
      have k7 := F.called_set.init.bind (.ref s.heap.objs.size)
      repeat (any_goals (first | assumption | wp_step))
      refine codeAny_mono (codeAny_call_builtin (R := wants (fun r s2 => r = .none ∧ ∃ h' tk, s2 = { s with heap := h', toks := tk } ∧ Post h' tk) E) F.called_set.init.plain F.entry_set_init (check_set_init_1 ty ?_)) fun r2 s2 hr2 => ?_
      · refine wpAny_mono init (fun r s' z => ?_) fun _ _ z => z
        obtain ⟨rfl, z⟩ := z
        exact ⟨rfl, z⟩
      · cases r2 with
        | error e => exact hr2
        | ok fl2 =>
          cases fl2 with
          | ret r =>
            obtain ⟨rfl, h', tk, rfl, p⟩ := hr2
            repeat (any_goals (first | assumption | wp_step))
            exact go _ _ p
          | _ => exact hr2.elim
    | _ => exact hr.elim

/-- what the loop of set() has to do: it walks by I over items and leaves a set for which Post holds -/
def SetLoop (P : Program) (w : World) (A : Around) (s : Shared) (l : Addr) (items : Array Value) (Post : Heap → Prop) : Prop :=
  ∀ (I : Addr) (St : Nat → Shared → Prop) (s1 : Shared) (R : Result → Shared → Prop), WalksS P w A.in1.in1.in1 I [I, l] [I] (fun a b => b = a) items.size (fun i v => items[i]? = some v) St → St 0 s1 → s.heap.objs.size ∉ [I, l] → s.heap.get? I = none →
    (∀ b o, s.heap.get? b = some o → s1.heap.get? b = some o) → s1.heap.get? s.heap.objs.size = some (noSet w) →
    (∀ s2, Moved [s.heap.objs.size, I] (fun a b => b = a) s1 s2 → Post s2.heap → (∀ b o, s.heap.get? b = some o → s2.heap.get? b = some o) → R (.ok (.ret .none)) s2) →
    codeAny (model P w) A.in1.in1 (.builtin "set.update.loop" ⟨[.ref s.heap.objs.size, .ref I], []⟩) R s1

/-- the walk that set() makes over a list -/
theorem set_of_list {l : Addr} {items : Array Value} {Post : Heap → Prop} {Q : Value → Shared → Prop} (hh : A.handled = none) (hl : s.heap.IsList l items) (loop : SetLoop P w A s l items Post)
    (go : ∀ h' tk, Post h' → (∀ b o, s.heap.get? b = some o → h'.get? b = some o) → Q (.ref s.heap.objs.size) { s with heap := h', toks := tk }) : wpAny (model P w) A (call (.type "set") [.ref l]) Q E s := by
  refine set_made (Post := fun h' _ => Post h' ∧ ∀ b o, s.heap.get? b = some o → h'.get? b = some o) ?_ fun h' tk p => go h' tk p.1 p.2
  obtain ⟨⟨_, od, _, osl⟩, hol, hc, n, hd⟩ := hl
  simp only at hc hd
  subst hc; subst hd
  have at_ : (s.heap.push (noSet w)).get? s.heap.objs.size = some (noSet w) := Heap.get?_push_size _ rfl
  have hol1 := Heap.get?_push_of_some (noSet w) hol
  have k1 := F.sub_list_set
  have k2 := F.sub_list_frozenset
  have k3 : (Value.type "list" == Value.type "dict") = false := by decide
  have hl1 : (s.heap.push (noSet w)).IsList l items := ⟨_, hol1, rfl, n, rfl⟩
  unfold Builtin.«set.__init__» noKeywords Builtin.Frozenset.updateFrom
  generalize hPI : pyIter = PI
  wp_walk
  subst hPI
  refine wpAny_pyIter_list hl1 ?_
  refine wpAny_bind (wpAny_runValue ?_)
  have ls : l < s.heap.objs.size := Heap.lt_size hol
  have sz : (s.heap.push (noSet w)).objs.size = s.heap.objs.size + 1 := Heap.size_push ..
  have ne : l ≠ (s.heap.push (noSet w)).objs.size := by rw [sz]; exact Nat.ne_of_lt (Nat.lt_succ_of_lt ls)
  refine loop _ _ _ _ ((Walks.list (by simp [hh]) _ l ne items).toS) ⟨⟨_, Heap.get?_push_size _ rfl, rfl, rfl⟩, hl1.push _⟩ ?_ (off_heap (by rw [sz]; exact Nat.le_succ _)) (fun b o e => Heap.get?_push_of_some _ (Heap.get?_push_of_some _ e)) (Heap.get?_push_of_some _ at_) fun s2 mv p kp => ?_
  · rw [sz]
    simp only [List.mem_cons, List.not_mem_nil, or_false, not_or]
    exact ⟨Nat.ne_of_lt (Nat.lt_succ_self _), Nat.ne_of_gt ls⟩
  · obtain ⟨h', g2, d2, tk', os'⟩ := s2
    have e1 : g2 = s.gens := mv.gens
    have e2 : d2 = s.drawn := mv.drawn
    have e3 : os' = s.os := mv.os
    subst e1 e2 e3
    show wpAny _ _ _ _ _ _
    refine wpAny_pure ?_
    show wpAny _ _ (ret Value.none) _ _ _
    exact wpAny_pure ⟨rfl, h', tk', rfl, p, kp⟩

/-- the walk that set() makes over a tuple -/
theorem set_of_tuple {l : Addr} {items : Array Value} {Post : Heap → Prop} {Q : Value → Shared → Prop} (hh : A.handled = none) (hl : s.heap.IsTuple l items) (loop : SetLoop P w A s l items Post)
    (go : ∀ h' tk, Post h' → (∀ b o, s.heap.get? b = some o → h'.get? b = some o) → Q (.ref s.heap.objs.size) { s with heap := h', toks := tk }) : wpAny (model P w) A (call (.type "set") [.ref l]) Q E s := by
  refine set_made (Post := fun h' _ => Post h' ∧ ∀ b o, s.heap.get? b = some o → h'.get? b = some o) ?_ fun h' tk p => go h' tk p.1 p.2
  obtain ⟨⟨_, od, _, osl⟩, hol, hc, n, hd⟩ := hl
  simp only at hc hd
  subst hc; subst hd
  have at_ : (s.heap.push (noSet w)).get? s.heap.objs.size = some (noSet w) := Heap.get?_push_size _ rfl
  have hol1 := Heap.get?_push_of_some (noSet w) hol
  have k1 := F.sub_tuple_set
  have k2 := F.sub_tuple_frozenset
  have k3 : (Value.type "tuple" == Value.type "dict") = false := by decide
  have hl1 : (s.heap.push (noSet w)).IsTuple l items := ⟨_, hol1, rfl, n, rfl⟩
  unfold Builtin.«set.__init__» noKeywords Builtin.Frozenset.updateFrom
  generalize hPI : pyIter = PI
  wp_walk
  subst hPI
  refine wpAny_pyIter_tuple hl1 ?_
  refine wpAny_bind (wpAny_runValue ?_)
  have ls : l < s.heap.objs.size := Heap.lt_size hol
  have sz : (s.heap.push (noSet w)).objs.size = s.heap.objs.size + 1 := Heap.size_push ..
  have ne : l ≠ (s.heap.push (noSet w)).objs.size := by rw [sz]; exact Nat.ne_of_lt (Nat.lt_succ_of_lt ls)
  refine loop _ _ _ _ ((Walks.tuple (by simp [hh]) _ l ne items).toS) ⟨⟨_, Heap.get?_push_size _ rfl, rfl, rfl⟩, hl1.push _⟩ ?_ (off_heap (by rw [sz]; exact Nat.le_succ _)) (fun b o e => Heap.get?_push_of_some _ (Heap.get?_push_of_some _ e)) (Heap.get?_push_of_some _ at_) fun s2 mv p kp => ?_
  · rw [sz]
    simp only [List.mem_cons, List.not_mem_nil, or_false, not_or]
    exact ⟨Nat.ne_of_lt (Nat.lt_succ_self _), Nat.ne_of_gt ls⟩
  · obtain ⟨h', g2, d2, tk', os'⟩ := s2
    have e1 : g2 = s.gens := mv.gens
    have e2 : d2 = s.drawn := mv.drawn
    have e3 : os' = s.os := mv.os
    subst e1 e2 e3
    show wpAny _ _ _ _ _ _
    refine wpAny_pure ?_
    show wpAny _ _ (ret Value.none) _ _ _
    exact wpAny_pure ⟨rfl, h', tk', rfl, p, kp⟩

/-- ints -/
theorem loop_ints {l : Addr} {items : Array Value} (ns : List Int) (hi : IntsAre items.toList ns) (hb : ns.length + 1 < scanBound) : SetLoop P w A s l items fun h' => ∃ c, c ≤ ns.length ∧ SetR w h' s.heap.objs.size (fun j => decide (j ∈ ns)) c := by
  intro I St s1 R W st nm nI kp at_ fin
  have sz : items.size = ns.length := by
    have := IntsAre.length hi
    rwa [Array.length_toList] at this
  refine set_update_ints W s.heap.objs.size nm ns sz hb (fun i v hv => ?_) items.size 0 s1 (by omega) (Nat.zero_le _) st ⟨0, Nat.le_refl 0, setR_new_at at_⟩ fun s2 c mv hc hS => fin s2 mv ⟨c, by omega, hS⟩ fun b o e => ?_
  · have li : i < ns.length := by rw [← sz]; exact (Array.getElem?_eq_some_iff.mp hv).1
    obtain ⟨t, e⟩ := PyProof.Rows.IntsAre.int_at hi i v (by rw [Array.getElem?_toList]; exact hv)
    exact ⟨ns[i], t, List.getElem?_eq_getElem li, by rw [e, List.getD_eq_getElem?_getD, List.getElem?_eq_getElem li]; rfl⟩
  · have := Heap.lt_size e
    refine mv.heap b o (fun m => ?_) (kp b o e)
    rcases List.mem_cons.mp m with rfl | m
    · exact absurd this (Nat.lt_irrefl _)
    · rw [List.mem_singleton.mp m, nI] at e
      cases e
/-- tuples of ints -/
theorem loop_tups {l : Addr} {items : Array Value} (ks : List (Addr × List Int)) (hi : items.toList = ks.map fun p => Value.ref p.1) (hk : ∀ p ∈ ks, IsT P w s.heap p.2 p.1) (few : ks.length < 64) (hu : A.units + 3 < cLine) :
    SetLoop P w A s l items fun h' => ∃ L es ep t, SetTR P w h' s.heap.objs.size L es ep t ∧ Got ks ks.length L := by
  intro I St s1 R W st nm nI kp at_ fin
  have sz : items.size = ks.length := by
    have := congrArg List.length hi
    rwa [Array.length_toList, List.length_map] at this
  refine set_update_tups W s.heap.objs.size nm ks sz few (fun i v hv => ?_) s.heap hk (off_heap (Nat.le_refl _)) (fun b hb => by rw [List.mem_singleton.mp hb]; exact nI) hu items.size 0 s1 (by omega) (Nat.zero_le _) st kp ⟨[], #[], 0, _, setTR_fresh at_, Got.zero ks⟩ fun s2 L es ep t mv hS g kp2 => fin s2 mv ⟨L, es, ep, t, hS, by rw [← sz]; exact g⟩ kp2
  have q : items.toList[i]? = some v := by rw [Array.getElem?_toList]; exact hv
  rw [hi, List.getElem?_map] at q
  obtain ⟨p, e1, e2⟩ := Option.map_eq_some_iff.mp q
  exact ⟨p, e1, e2.symm⟩
end
/-- set() of what x is, sorted: ints, or pairs of ints in [0, 64) -/
def rSortSet (K : PySem.W.Frag) : V → Hp → VK → Prop := fun x H Q => ∃ l : Addr, x = V.ref l ∧
  ((∃ ns : List Int, (SqT K H l (ns.map V.int) ∨ SqL K H l (ns.map V.int)) ∧ ns.length < 60 ∧
      ∀ (p : Addr) (out : List Int), out.Pairwise (· < ·) → (∀ k, k ∈ out ↔ k ∈ ns) → H p = none → Q (.ref p) (upd H p (.lst (out.map V.int)))) ∨
   ∃ ks : List (Addr × List Int), (SqT K H l (ks.map fun q => V.ref q.1) ∨ SqL K H l (ks.map fun q => V.ref q.1)) ∧ (∀ q ∈ ks, SqT K H q.1 (q.2.map V.int)) ∧ ks.length < 60 ∧ (∀ q ∈ ks, q.2.length = 2 ∧ TS.Bd 64 q.2) ∧
      ∀ (p : Addr) (L : List (Addr × List Int)), (∀ q ∈ L, q ∈ ks) → (∀ q ∈ ks, q.2 ∈ L.map (·.2)) → (L.map (·.2)).Nodup → L.Pairwise (fun q r => TS.code 64 q.2 ≤ TS.code 64 r.2) → H p = none → Q (.ref p) (upd H p (.lst (L.map fun q => V.ref q.1))))
section
variable {X : Cx}
theorem pe_sortSet {a : Expr} {ta : TE} {p p2 q pos : Pos} (hc : X.calm = true) (hu : X.A.units + 64 < cLine) (hg : Gl X "sorted") (hm : X.mg "sorted" = none) (hg2 : Gl X "set") (hm2 : X.mg "set" = none) (ha : PE X a ta)
    (na : starEach [a] X.env = (false, eval a X.env) :: starEach [] X.env := by rfl) : PE X (.Call (.Name "sorted" p) [.Call (.Name "set" p2) [a] [] q] [] pos) (tUn (rSortSet X.K) ta) := by
  refine ⟨fun pins s σ H Q I h => ?_⟩
  refine Call_ (ld_blt I hg hm PyProof.Rows.boot_sorted ?_)
  refine PyProof.Rows.callWith_builtin1 (PyProof.Rows.args_cons ?_ rfl) rfl rfl
  refine Call_ (ld_blt I hg2 hm2 PyProof.Rows.boot_set ?_)
  refine PyProof.Rows.callWith_type1 (PyProof.Rows.args_cons (thn (ha.run pins s σ H _ I h) fun v s1 ⟨x, H1, I1, r1, q1⟩ => PyProof.Rows.args_nil ?_) na) na rfl
  obtain ⟨l, rfl, q1⟩ := q1
  cases r1
  have hd := I1.ok.hd hc
  rcases q1 with ⟨ns, hs, hn60, q1⟩ | ⟨ks, hs, hk, hn60, hB, q1⟩
  · have fin : ∀ (h' : Heap) (tk : Nat), (∃ c, c ≤ ns.length ∧ SetR X.w h' s1.heap.objs.size (fun j => decide (j ∈ ns)) c) → (∀ b o, s1.heap.get? b = some o → h'.get? b = some o) →
        wpAny (model X.prog X.w) X.A (call (.builtin "sorted") [.ref s1.heap.objs.size]) (EP X pins σ Q) X.xe { s1 with heap := h', toks := tk } := fun h' tk ⟨c, hc', R⟩ hk => by
      have I2 : Inv X pins σ H1 { s1 with heap := h', toks := tk } := I1.kept hk
      refine sorted_set (s := { s1 with heap := h', toks := tk }) R hd (by omega) fun s' p out c2 ns' k g o hp hg' hints up mem len => ?_
      have hlen : (ns'.map V.int).length ≤ sizeLine := by rw [List.length_map, sizeLine_eq, len]; omega
      have hn : H1 p = none := I2.hok.fresh hp
      have J : Inv X pins σ (upd H1 p (.lst (ns'.map V.int))) { ({ s1 with heap := h', toks := tk } : Shared) with heap := s'.heap, gens := s'.gens, drawn := s'.drawn, toks := s'.toks } :=
        I2.call (ch := []) (Un.laid k hp hn) (I2.hok.laid k hp ⟨hlen, out.toList, c2, vals_of_ints hints, hg'⟩) (by rw [g]; exact I2.bare) (fun _ z => nomatch z)
      have e : s' = { ({ s1 with heap := h', toks := tk } : Shared) with heap := s'.heap, gens := s'.gens, drawn := s'.drawn, toks := s'.toks } := by
        cases s'
        cases o
        rfl
      rw [e]
      exact ⟨.ref p, _, J, rfl, q1 p ns' up (fun k => (mem k).trans decide_eq_true_iff) hn⟩
    have sb : (60 : Nat) + 1 < scanBound := by decide
    rcases hs with hs | hs
    · obtain ⟨its, r, pl, hz⟩ := I1.tuple hs
      exact set_of_tuple hd pl (loop_ints ns (by simpa using r.ints) (by omega)) fun h' tk z k => PyProof.Rows.args_nil (fin h' tk z k)
    · obtain ⟨its, r, pl, hz⟩ := I1.list hs
      exact set_of_list hd pl.isList (loop_ints ns (by simpa using r.ints) (by omega)) fun h' tk z k => PyProof.Rows.args_nil (fin h' tk z k)
  · have fin : ∀ (h' : Heap) (tk : Nat), (∃ L es ep t, SetTR X.prog X.w h' s1.heap.objs.size L es ep t ∧ Got ks ks.length L) → (∀ b o, s1.heap.get? b = some o → h'.get? b = some o) →
        wpAny (model X.prog X.w) X.A (call (.builtin "sorted") [.ref s1.heap.objs.size]) (EP X pins σ Q) X.xe { s1 with heap := h', toks := tk } := fun h' tk ⟨L, es, ep, t, R, got⟩ hkp => by
      have I2 : Inv X pins σ H1 { s1 with heap := h', toks := tk } := I1.kept hkp
      have sub : ∀ p ∈ L, p ∈ ks := fun p hp => List.mem_of_mem_take (got.sub p hp)
      refine sorted_setT (s := { s1 with heap := h', toks := tk }) R hd (show 1 ≤ 2 by decide) (fun p hp => hB p (sub p hp)) fun s' p out c L' k g o hp hg' hout pm pw => ?_
      have few : L'.length < 64 := by rw [pm.length_eq]; exact R.few
      have hlen : (L'.map fun q => V.ref q.1).length ≤ sizeLine := by rw [List.length_map, sizeLine_eq]; omega
      have hn : H1 p = none := I2.hok.fresh hp
      have J : Inv X pins σ (upd H1 p (.lst (L'.map fun q => V.ref q.1))) { ({ s1 with heap := h', toks := tk } : Shared) with heap := s'.heap, gens := s'.gens, drawn := s'.drawn, toks := s'.toks } :=
        I2.call (ch := []) (Un.laid k hp hn) (I2.hok.laid k hp ⟨hlen, out.toList, c, by rw [hout]; exact vals_of_refs L', hg'⟩) (by rw [g]; exact I2.bare) (fun _ z => nomatch z)
      have e : s' = { ({ s1 with heap := h', toks := tk } : Shared) with heap := s'.heap, gens := s'.gens, drawn := s'.drawn, toks := s'.toks } := by
        cases s'
        cases o
        rfl
      rw [e]
      refine ⟨.ref p, _, J, rfl, q1 p L' (fun q m => sub q (pm.mem_iff.mp m)) (fun q m => ?_) ((pm.map (·.2)).nodup_iff.mpr R.nd) pw hn⟩
      have := got.all q (by rw [List.take_length]; exact m)
      exact (pm.map (·.2)).mem_iff.mpr this
    rcases hs with hs | hs
    · obtain ⟨its, r, pl, hz⟩ := I1.tuple hs
      exact set_of_tuple hd pl (loop_tups ks (by simpa using refs_of_vals r) (fun p hp => I1.isT (hk p hp)) (by omega) (by omega)) fun h' tk z k => PyProof.Rows.args_nil (fin h' tk z k)
    · obtain ⟨its, r, pl, hz⟩ := I1.list hs
      exact set_of_list hd pl.isList (loop_tups ks (by simpa using refs_of_vals r) (fun p hp => I1.isT (hk p hp)) (by omega) (by omega)) fun h' tk z k => PyProof.Rows.args_nil (fin h' tk z k)
end
end VC

set_option Elab.async false
set_option linter.all false
set_option maxRecDepth 100000
set_option maxHeartbeats 2000000
namespace VL
open PySem PySem.Spec PyProof.Rows L2 VC
/-! ### sorted(set(x)), x a list or tuple of ints, or of pairs of ints -/
def ltP (p q : Int × Int) : Prop := p.1 < q.1 ∨ (p.1 = q.1 ∧ p.2 < q.2)
instance (p q : Int × Int) : Decidable (ltP p q) := by unfold ltP; exact inferInstance
def insP (k : Int × Int) : List (Int × Int) → List (Int × Int)
  | [] => [k]
  | x :: xs => if ltP k x then k :: x :: xs else if k = x then x :: xs else x :: insP k xs
def psort (l : List (Int × Int)) : List (Int × Int) := l.foldr insP []
theorem mem_insP {k y : Int × Int} : ∀ {l : List (Int × Int)}, y ∈ insP k l ↔ y = k ∨ y ∈ l
  | [] => by simp [insP]
  | x :: xs => by
    unfold insP
    split
    · simp
    · split
      · rename_i e
        subst e
        simp
      · rw [List.mem_cons, List.mem_cons, mem_insP]
        constructor
        · rintro (h | h | h) <;> simp [h]
        · rintro (h | h | h) <;> simp [h]
theorem ltP.trans {p q r : Int × Int} (h : ltP p q) (k : ltP q r) : ltP p r := by
  unfold ltP at *
  omega
theorem ltP.tri {p q : Int × Int} (h : ¬ ltP p q) (n : ¬ p = q) : ltP q p := by
  obtain ⟨a, b⟩ := p
  obtain ⟨c, d⟩ := q
  unfold ltP at *
  simp only [Prod.mk.injEq] at n
  simp only at *
  omega
theorem ltP.ne {p q : Int × Int} (h : ltP p q) : p ≠ q := fun e => by
  subst e
  unfold ltP at h
  omega
theorem insP_up {k : Int × Int} : ∀ {l : List (Int × Int)}, l.Pairwise ltP → (insP k l).Pairwise ltP
  | [], _ => by simp [insP]
  | x :: xs, h => by
    rw [List.pairwise_cons] at h
    unfold insP
    split
    · rename_i c
      exact List.pairwise_cons.mpr ⟨fun y m => by
        rcases List.mem_cons.mp m with rfl | m
        · exact c
        · exact c.trans (h.1 y m), List.pairwise_cons.mpr h⟩
    · split
      · exact List.pairwise_cons.mpr h
      · rename_i c1 c2
        exact List.pairwise_cons.mpr ⟨fun y m => by
          rcases mem_insP.mp m with rfl | m
          · exact ltP.tri c1 c2
          · exact h.1 y m, insP_up h.2⟩
theorem mem_psort {y : Int × Int} : ∀ {l : List (Int × Int)}, y ∈ psort l ↔ y ∈ l
  | [] => by simp [psort]
  | x :: l => by
    show y ∈ insP x (psort l) ↔ _
    rw [mem_insP, mem_psort, List.mem_cons]
theorem psort_up : ∀ {l : List (Int × Int)}, (psort l).Pairwise ltP
  | [] => List.Pairwise.nil
  | x :: l => insP_up psort_up
theorem psort_of {a l : List (Int × Int)} (ha : a.Pairwise ltP) (h : ∀ x, x ∈ a ↔ x ∈ l) : a = psort l := by
  have na : a.Nodup := ha.imp fun h => h.ne
  have nb : (psort l).Nodup := (psort_up (l := l)).imp fun h => h.ne
  exact List.Perm.eq_of_pairwise (le := ltP) (fun x y _ _ h1 h2 => absurd rfl (h1.trans h2).ne) ha psort_up ((List.perm_ext_iff_of_nodup na nb).mpr fun x => (h x).trans mem_psort.symm)
def pairD (p : Int × Int) : VL.D := .tup [.int p.1, .int p.2]
def pairsOf : List VL.D → Option (List (Int × Int))
  | [] => some []
  | .tup [.int a, .int b] :: r => (pairsOf r).map ((a, b) :: ·)
  | _ => none
theorem pairsOf_map : ∀ ps : List (Int × Int), pairsOf (ps.map pairD) = some ps
  | [] => rfl
  | (a, b) :: ps => by
    show (pairsOf (ps.map pairD)).map _ = _
    rw [pairsOf_map ps]
    rfl
/-- what sorted(set()) makes of these things -/
def sortSet (xs : List VL.D) : Option VL.D := match intsOf xs with
  | some ns => if ns.length < 60 then some (.lst true ((usort ns).map .int)) else none
  | none => match pairsOf xs with
    | some ps => if ps.length < 60 && ps.all fun p => decide (0 ≤ p.1) && decide (p.1 < 64) && decide (0 ≤ p.2) && decide (p.2 < 64) then some (.lst true ((psort ps).map pairD)) else none
    | none => none
def fSortSet : VL.D → Option VL.D
  | .tup xs => sortSet xs
  | .lst _ xs => sortSet xs
  | _ => none
section
variable {mg : MG} {W : WX} {σ : L2.St} {F : FS} {H : Hp} {X : Cx}
theorem pairs_rel : ∀ {ds : List VL.D} {ws : List V} {fp : List Addr} {ps : List (Int × Int)}, Rs mg F H ws ds fp → pairsOf ds = some ps →
    ∃ ks : List (Addr × List Int), ws = ks.map (fun q => V.ref q.1) ∧ ks.map (·.2) = ps.map (fun p => [p.1, p.2]) ∧ ∀ q ∈ ks, H q.1 = some (.tup (q.2.map V.int))
  | [], _, _, _, .nil, h => by
    cases h
    exact ⟨[], rfl, rfl, fun _ m => nomatch m⟩
  | d :: ds, _, _, ps, .cons r rs, h => by
    unfold pairsOf at h
    split at h
    · rename_i q; cases q
    · rename_i a b r' q
      cases q
      obtain ⟨ps', e1, e2⟩ := Option.map_eq_some_iff.mp h
      subst e2
      obtain ⟨ks, e3, e4, e5⟩ := pairs_rel rs e1
      cases r with
      | tup e r2 =>
        have ew : _ = [a, b].map V.int := ints_rel r2 (ns := [a, b]) rfl
        subst ew
        refine ⟨(_, [a, b]) :: ks, by rw [e3]; rfl, by rw [List.map_cons, e4]; rfl, fun q m => ?_⟩
        rcases List.mem_cons.mp m with rfl | m
        · exact e
        · exact e5 q m
    · cases h
theorem rs_pairs : ∀ {L : List (Addr × List Int)} {ps : List (Int × Int)}, L.map (·.2) = ps.map (fun p => [p.1, p.2]) → (∀ q ∈ L, H q.1 = some (.tup (q.2.map V.int))) → Rs mg F H (L.map fun q => V.ref q.1) (ps.map pairD) []
  | [], [], _, _ => .nil
  | [], _ :: _, h, _ => by cases h
  | _ :: _, [], h, _ => by cases h
  | q :: L, p :: ps, h, k => by
    rw [List.map_cons, List.map_cons, List.cons.injEq] at h
    have e := k q List.mem_cons_self
    rw [h.1] at e
    exact .cons (fp := []) (fps := []) (.tup e (.cons (fp := []) (fps := []) (.int _) (.cons (fp := []) (fps := []) (.int _) .nil))) (rs_pairs h.2 fun q m => k q (List.mem_cons_of_mem _ m))
theorem code_two (x y : Int) : TS.code 64 [x, y] = x * 64 + y := code_pair x y
/-- the core, for whatever holds the things -/
theorem sortSet_ok {K : PySem.W.Frag} {l : Addr} {ws : List V} {xs : List VL.D} {fp fps : List Addr} {d' : VL.D} {Q : VK} (hs : SqT K H l ws ∨ SqL K H l ws) (r : Rs mg F H ws xs fp) (g : Gd F H fps) (h : sortSet xs = some d') (q : Fin mg F H d' Q) : rSortSet K (.ref l) H Q := by
  refine ⟨l, rfl, ?_⟩
  unfold sortSet at h
  split at h
  · rename_i ns en
    split at h
    rotate_left
    · cases h
    rename_i c
    cases h
    have ew := ints_rel r en
    subst ew
    refine .inl ⟨ns, hs, c, fun p out up mem np => ?_⟩
    have eo : out = usort ns := usort_of up mem
    subst eo
    exact q.lst (Rs.ints _) g p np
  · split at h
    rotate_left
    · cases h
    rename_i ps ep
    split at h
    rotate_left
    · cases h
    rename_i c
    cases h
    rw [Bool.and_eq_true, decide_eq_true_eq] at c
    obtain ⟨ks, e1, e2, e3⟩ := pairs_rel r ep
    subst e1
    have el : ks.length = ps.length := by have := congrArg List.length e2; simpa using this
    have two : ∀ q ∈ ks, ∃ p ∈ ps, q.2 = [p.1, p.2] ∧ (0 ≤ p.1 ∧ p.1 < 64) ∧ (0 ≤ p.2 ∧ p.2 < 64) := fun q m => by
      have : q.2 ∈ ps.map (fun p => [p.1, p.2]) := by rw [← e2]; exact List.mem_map_of_mem m
      obtain ⟨p, mp, e⟩ := List.mem_map.mp this
      have := List.all_eq_true.mp c.2 p mp
      simp only [Bool.and_eq_true, decide_eq_true_eq] at this
      exact ⟨p, mp, e.symm, ⟨this.1.1.1, this.1.1.2⟩, ⟨this.1.2, this.2⟩⟩
    refine .inr ⟨ks, hs, fun q m => .inl (.inl (e3 q m)), by omega, fun q m => ?_, fun p L sub all nd pw np => ?_⟩
    · obtain ⟨p, _, e, b1, b2⟩ := two q m
      rw [e]
      refine ⟨rfl, fun x mx => ?_⟩
      simp only [List.mem_cons, List.not_mem_nil, or_false] at mx
      rcases mx with rfl | rfl <;> assumption
    · -- L.map (·.2) is psort ps
      let dec : List Int → Int × Int := fun z => (z.getD 0 0, z.getD 1 0)
      have hL : L.map (·.2) = (L.map fun q => dec q.2).map fun p => [p.1, p.2] := by
        rw [List.map_map]
        refine List.map_congr_left fun q m => ?_
        obtain ⟨p, _, e, _⟩ := two q (sub q m)
        show q.2 = [(dec q.2).1, (dec q.2).2]
        rw [e]
        rfl
      have hP : (L.map fun q => dec q.2).Pairwise ltP := by
        rw [List.pairwise_map]
        have nd' : L.Pairwise fun q r => q.2 ≠ r.2 := by
          have := nd
          unfold List.Nodup at this
          rwa [List.pairwise_map] at this
        refine (List.Pairwise.and_mem.mp (pw.and nd')).imp fun {q r} ⟨mq, mr, hc, hn⟩ => ?_
        obtain ⟨p1, _, e1, b1, b2⟩ := two q (sub q mq)
        obtain ⟨p2, _, e2, b3, b4⟩ := two r (sub r mr)
        rw [e1, e2] at hc hn
        rw [e1, e2]
        have := pair_lt hc hn b1 b2 b3 b4
        exact this
      have hM : ∀ x, x ∈ (L.map fun q => dec q.2) ↔ x ∈ ps := fun x => by
        constructor
        · intro m
          obtain ⟨q, mq, rfl⟩ := List.mem_map.mp m
          obtain ⟨p, mp, e, _⟩ := two q (sub q mq)
          have : dec q.2 = p := by rw [e]; rfl
          rw [this]
          exact mp
        · intro m
          have : [x.1, x.2] ∈ ks.map (·.2) := by rw [e2]; exact List.mem_map.mpr ⟨x, m, rfl⟩
          obtain ⟨q, mq, e⟩ := List.mem_map.mp this
          obtain ⟨q', mq', e'⟩ := List.mem_map.mp (all q mq)
          refine List.mem_map.mpr ⟨q', mq', ?_⟩
          show dec q'.2 = x
          rw [e', e]
          rfl
      have ep := psort_of hP hM
      rw [ep] at hL
      exact q.lst (rs_pairs hL fun q m => e3 q (sub q m)) g p np
theorem ops_sortSet : OpS1 mg (rSortSet mg.K) fSortSet := by
  intro F H fps v d d' Q g b h q
  obtain ⟨fq, r, hs⟩ := b
  unfold fSortSet at h
  split at h
  · cases r with
    | tup e r => exact sortSet_ok (.inl (.inl (.inl e))) r g h q
  · cases r with
    | lstF f e r => exact sortSet_ok (.inr (.inl e)) r g h q
    | lstO e r => exact sortSet_ok (.inr (.inl (.inl e))) r g h q
  · cases h
theorem ve_sortSet {a : Expr} {o : M Ar} {p p2 q pos : Pos} (hc : X.calm = true) (hu : X.A.units + 64 < cLine) (hg : Gl X "sorted") (hm : X.mg "sorted" = none) (hg2 : Gl X "set") (hm2 : X.mg "set" = none) (ha : PE X a (vO (mG X) W o))
    (na : starEach [a] X.env = (false, eval a X.env) :: starEach [] X.env := by rfl) : PE X (.Call (.Name "sorted" p) [.Call (.Name "set" p2) [a] [] q] [] pos) (vE (mG X) W (gOp1 fSortSet o)) :=
  pe_imp (pe_sortSet hc hu hg hm hg2 hm2 ha na) fun _ _ _ h => op1 ops_sortSet h
end
theorem fSortSet_t (xs : List VL.D) : fSortSet (.tup xs) = sortSet xs := rfl
theorem fSortSet_l (o : Bool) (xs : List VL.D) : fSortSet (.lst o xs) = sortSet xs := rfl
theorem sortSet_ints {ns : List Int} (h : ns.length < 60) : sortSet (ns.map .int) = some (.lst true ((usort ns).map .int)) := by
  unfold sortSet
  rw [intsOf_map]
  simp only [h, if_true]
theorem sortSet_pairs {ps : List (Int × Int)} (h0 : ps ≠ []) (h : ps.length < 60) (hb : ∀ p ∈ ps, (0 ≤ p.1 ∧ p.1 < 64) ∧ (0 ≤ p.2 ∧ p.2 < 64)) : sortSet (ps.map pairD) = some (.lst true ((psort ps).map pairD)) := by
  unfold sortSet
  have e : intsOf (ps.map pairD) = none := by
    cases ps with
    | nil => exact absurd rfl h0
    | cons p ps => rfl
  have c : (decide (ps.length < 60) && ps.all fun p => decide (0 ≤ p.1) && decide (p.1 < 64) && decide (0 ≤ p.2) && decide (p.2 < 64)) = true := by
    rw [Bool.and_eq_true]
    refine ⟨decide_eq_true h, List.all_eq_true.mpr fun p m => ?_⟩
    have := hb p m
    simp only [Bool.and_eq_true, decide_eq_true_eq]
    omega
  rw [e, pairsOf_map]
  simp only [c, if_true]
end VL

set_option Elab.async false
set_option linter.all false
set_option maxRecDepth 100000
set_option maxHeartbeats 4000000
/-! ### min(xs), xs a list of tuples of ints; t * 1 -/
namespace VC
open PySem PySem.W PySem.Calls PySem.Spec PyProof.Rows L2
def datT (ns : List Int) : PyData := .tuple (ns.map .int)
theorem ints_reads {h : Heap} : ∀ {ns : List Int} {us : List Value} {xs : List PyData} {as : List Addr}, Vals (ns.map V.int) us → ReadsAll h us xs as → xs = ns.map .int
  | [], _, _, _, .nil, .nil => rfl
  | n :: ns, _, _, _, .cons r t, .cons rd rs => by
    obtain ⟨tk, rfl⟩ := r
    cases rd
    rw [ints_reads t rs]
    rfl
theorem datT_inj {a b : List Int} (h : datT a = datT b) : a = b := by
  unfold datT at h
  injection h with h
  induction a generalizing b with
  | nil =>
    cases b with
    | nil => rfl
    | cons y b => cases h
  | cons x a ih =>
    cases b with
    | nil => cases h
    | cons y b =>
      rw [List.map_cons, List.map_cons] at h
      injection h with h1 h2
      injection h1 with h1
      rw [h1, ih h2]
def rMinT (K : PySem.W.Frag) : List V → Hp → VK → Prop := fun vs H Q => ∃ (a : Addr) (ks : List (Addr × List Int)), vs = [V.ref a] ∧ SqL K H a (ks.map fun q => V.ref q.1) ∧ (∀ q ∈ ks, SqT K H q.1 (q.2.map V.int)) ∧ ks ≠ [] ∧
  ∀ q ∈ ks, (∀ r ∈ ks, dataLt (datT r.2) (datT q.2) = false) → Q (.ref q.1) H
theorem minD_mem (x : PyData) : ∀ xs : List PyData, minD x xs ∈ x :: xs := fun xs => by
  unfold minD
  induction xs generalizing x with
  | nil => exact List.mem_cons_self
  | cons y ys ih =>
    rw [List.foldl_cons]
    split
    · have := ih y
      rcases List.mem_cons.mp this with e | m
      · rw [e]; simp
      · exact List.mem_cons_of_mem _ (List.mem_cons_of_mem _ m)
    · have := ih x
      rcases List.mem_cons.mp this with e | m
      · rw [e]; simp
      · exact List.mem_cons_of_mem _ (List.mem_cons_of_mem _ m)
theorem minD_le (nt : ∀ {a b c : PyData}, dataLt b a = false → dataLt c b = false → dataLt c a = false) (ti : ∀ {a b : PyData}, dataLt a b = true → dataLt b a = false) (ir : ∀ a : PyData, dataLt a a = false) (x : PyData) : ∀ xs : List PyData, ∀ y ∈ x :: xs, dataLt y (minD x xs) = false := fun xs => by
  unfold minD
  induction xs generalizing x with
  | nil =>
    intro y m
    rw [List.mem_singleton.mp m]
    exact ir x
  | cons z zs ih =>
    intro y m
    rw [List.foldl_cons]
    by_cases c : dataLt z x = true
    · rw [if_pos c]
      rcases List.mem_cons.mp m with rfl | m
      · exact nt (ih z z List.mem_cons_self) (ti c)
      · exact ih z y m
    · rw [if_neg c]
      have c : dataLt z x = false := by simpa using c
      rcases List.mem_cons.mp m with rfl | m
      · exact ih y y List.mem_cons_self
      · rcases List.mem_cons.mp m with rfl | m
        · exact nt (ih x x List.mem_cons_self) c
        · exact ih x y (List.mem_cons_of_mem _ m)
section
variable {X : Cx}
theorem cr_minT (hc : X.calm = true) (hu : X.A.units + 64 < cLine) (nt : ∀ {a b c : PyData}, dataLt b a = false → dataLt c b = false → dataLt c a = false) (ti : ∀ {a b : PyData}, dataLt a b = true → dataLt b a = false) (ir : ∀ a : PyData, dataLt a a = false) : CallR X (.builtin "min") (rMinT X.K) := by
  intro pins s σ H vs us Q I r h
  obtain ⟨a, ks, rfl, hs, hk, hne, q⟩ := h
  obtain ⟨its, rv, pl, hz⟩ := I.list hs
  rw [Vals.ref1 r]
  have eq1 := refs_of_vals rv
  have er : ∀ p ∈ ks, ∃ as, Reads s.heap (.ref p.1) (datT p.2) as := fun p m => by
    obtain ⟨us, ru, ⟨o, ho, hc, n, hd⟩, _⟩ := I.tuple (hk p m)
    have key : ∀ {ns : List Int} {us : List Value}, Vals (ns.map V.int) us → ∃ as, ReadsAll s.heap us (ns.map .int) as := fun {ns} => by
      induction ns with
      | nil => intro us r; cases r; exact ⟨_, .nil⟩
      | cons n ns ih =>
        intro us r
        cases r with
        | cons r t =>
          obtain ⟨tk, rfl⟩ := r
          obtain ⟨as, ra⟩ := ih t
          exact ⟨_, .cons (.int n tk) ra⟩
    obtain ⟨as, ra⟩ := key ru
    exact ⟨as, .tuple ho hc hd (by simpa using ra)⟩
  have ra : ∃ as, ReadsAll s.heap its (ks.map fun p => datT p.2) as := by
    rw [eq1]
    clear eq1 rv q hne hs pl hz
    induction ks with
    | nil => exact ⟨_, .nil⟩
    | cons p ks ih =>
      obtain ⟨as, r1⟩ := er p List.mem_cons_self
      obtain ⟨bs, r2⟩ := ih (fun q m => hk q (List.mem_cons_of_mem _ m)) fun q m => er q (List.mem_cons_of_mem _ m)
      exact ⟨_, .cons r1 r2⟩
  obtain ⟨as, ra⟩ := ra
  cases ks with
  | nil => exact absurd rfl hne
  | cons k0 ks =>
    have dp : ∀ l : List (Addr × List Int), PyData.depthAll (l.map fun p => datT p.2) ≤ 2 := fun l => by
      induction l with
      | nil => exact Nat.zero_le _
      | cons p l ih =>
        have d1 : (datT p.2).depth ≤ 2 := by
          unfold datT
          rw [PyData.depth]
          have : ∀ ns : List Int, PyData.depthAll (ns.map .int) ≤ 0 := fun ns => by
            induction ns with
            | nil => exact Nat.le_refl _
            | cons n ns ih => rw [List.map_cons, PyData.depthAll]; exact Nat.max_le.mpr ⟨Nat.le_refl _, ih⟩
          have := this p.2
          omega
        rw [List.map_cons, PyData.depthAll]
        exact Nat.max_le.mpr ⟨d1, ih⟩
    have al : AlikeAll ((k0 :: ks).map fun p => datT p.2) := by
      have ai : ∀ a b : List Int, alike (datT a) (datT b) = true := fun a b => by
        unfold datT
        rw [alike]
        induction a generalizing b with
        | nil => cases b <;> simp [alikeAll]
        | cons x a ih =>
          cases b with
          | nil => simp [alikeAll]
          | cons y b => simp [alikeAll, alike, ih b]
      refine ⟨fun x mx y my => ?_, fun x mx e => ?_⟩
      · obtain ⟨p, _, rfl⟩ := List.mem_map.mp mx
        obtain ⟨p', _, rfl⟩ := List.mem_map.mp my
        exact ai _ _
      · obtain ⟨p, _, rfl⟩ := List.mem_map.mp mx
        cases e
    have hd := dp (k0 :: ks)
    rw [List.map_cons] at ra al hd
    refine min_list_data (I.ok.hd hc) pl.isList (by simpa using ra) al (by omega) fun i v h' tk bs hv hr kp => ?_
    rw [eq1] at hv
    rw [List.getElem?_toArray, List.getElem?_map] at hv
    obtain ⟨p, e1, e2⟩ := Option.map_eq_some_iff.mp hv
    subst e2
    have mp : p ∈ k0 :: ks := List.mem_of_getElem? e1
    obtain ⟨us, ru, ⟨o, ho, hcl, n, hdt⟩, _⟩ := I.tuple (hk p mp)
    have ep : datT p.2 = minD (datT k0.2) (ks.map fun p => datT p.2) := by
      have m := minD_mem (datT k0.2) (ks.map fun p => datT p.2)
      rw [← List.map_cons (f := fun p : Addr × List Int => datT p.2)] at m
      obtain ⟨p2, _, e⟩ := List.mem_map.mp m
      rw [← e] at hr ⊢
      unfold datT at hr ⊢
      cases hr with
      | tuple g1 g2 g3 g4 =>
        have eo := kp _ _ ho
        rw [eo] at g1
        cases g1
        rw [hdt] at g3
        cases g3
        exact (congrArg PyData.tuple (ints_reads ru (by simpa using g4))).symm
    refine ⟨.ref p.1, H, I.kept kp, rfl, q p mp fun r mr => ?_⟩
    rw [ep]
    exact minD_le nt ti ir _ _ _ (by
      rw [← List.map_cons (f := fun p : Addr × List Int => datT p.2)]
      exact List.mem_map.mpr ⟨r, mr, rfl⟩)
/-! ### t * 1 -/
theorem tuple_mul1 (l : Addr) (items : Array Value) (n : Nat) (dd : Option Addr) (sl : Array (Option Value)) (u : Tok) :
    Meets (Builtin.«tuple.__mul__» ⟨[.ref l, .int 1 u], []⟩) (fun _ R s => s.heap.get? l = some { cls := .type "tuple", dict := dd, data := .seq items n, slots := sl } ∧ R (.ok (.ret (Value.ref l))) s) :=
  .of_wp fun prog w A R s h => by
    obtain ⟨hp, g, d, tk, os⟩ := s
    obtain ⟨hl, h⟩ := h
    have f1 := AutoSeq1.idx_int
    wp_walk using wpAny_loadPart' hl
    exact ⟨_, rfl, h⟩
def rRep1 (K : PySem.W.Frag) : R2 := fun x y H Q => ∃ l xs, x = .ref l ∧ y = .int 1 ∧ SqT K H l xs ∧ Q (.ref l) H
theorem op_rep1 : OpR X (binaryOp .Mult) (rRep1 X.K) := by
  intro pins s σ H x y v u Q I rx ry h
  obtain ⟨l, xs, rfl, rfl, ht, q⟩ := h
  cases rx
  obtain ⟨t, rfl⟩ := ry
  obtain ⟨its, r, ⟨⟨_, dd, _, sl⟩, ho, hc, n, hd⟩, _⟩ := I.tuple ht
  simp only at hc hd
  subst hc hd
  exact wpAny_binaryOp_repeat_ref (T := "tuple") (U := "int") (by decide) ⟨_, ho, rfl⟩ (fun s' => typeIs_int s' 1 t) noFill_tuple_mul F.fills_int_mul F.slot_int_rmul repeat_tuple F.slot_int_index.lookup
    (call_meets F.slot_int_rmul (typeIs_int s 1 t) F.entry_int_rmul (F.args_int_rmul_2 _ _) (int_rmul_tuple 1 t l its.toArray n dd sl)
      ⟨ho, rfl, ⟨_, ho, rfl⟩, call_meets F.slot_tuple_mul ⟨_, ho, rfl⟩ F.entry_tuple_mul (F.args_tuple_mul_2 _ _) (tuple_mul1 l its.toArray n dd sl t) ⟨ho, ⟨.ref l, H, I, rfl, q⟩⟩⟩)
end
end VC

set_option Elab.async false
set_option linter.all false
set_option maxRecDepth 100000
set_option maxHeartbeats 2000000
namespace VL
open PySem PySem.W PySem.Spec PyProof.Rows L2 VC
/-! ### min of a list of tuples of ints; tuple * int -/
theorem o_irr (a : PyData) : dataLt a a = false := (listOrd itemOrd).irrefl _
theorem o_nt {a b c : PyData} (h1 : dataLt b a = false) (h2 : dataLt c b = false) : dataLt c a = false := by
  cases e : dataLt c a with
  | false => rfl
  | true =>
    rcases (listOrd itemOrd).negTrans (keyToks c) (keyToks b) (keyToks a) e with h | h
    · rw [show dataLt c b = true from h] at h2; cases h2
    · rw [show dataLt b a = true from h] at h1; cases h1
theorem o_ti {a b : PyData} (h : dataLt a b = true) : dataLt b a = false := by
  cases e : dataLt b a with
  | false => rfl
  | true =>
    have := (listOrd itemOrd).trans _ _ _ h e
    rw [(listOrd itemOrd).irrefl] at this
    cases this
theorem toks_inj : ∀ {a b : List Int}, keyToksAll (a.map .int) = keyToksAll (b.map .int) → a = b
  | [], [], _ => rfl
  | [], y :: b, h => by simp [keyToksAll] at h
  | x :: a, [], h => by simp [keyToksAll] at h
  | x :: a, y :: b, h => by
    rw [List.map_cons, List.map_cons, keyToksAll, keyToksAll, keyToks, keyToks] at h
    simp only [List.cons_append, List.nil_append, List.cons.injEq, true_and, Sum.inl.injEq] at h
    rw [h.1, toks_inj h.2]
theorem o_eq {a b : List Int} (h1 : dataLt (datT a) (datT b) = false) (h2 : dataLt (datT b) (datT a) = false) : a = b := by
  have : keyToks (datT a) = keyToks (datT b) := by
    apply Classical.byContradiction
    intro n
    have := (listOrd itemOrd).total _ _ h1 h2
    exact n this
  unfold datT at this
  rw [keyToks, keyToks] at this
  exact toks_inj this
def minT (x : List Int) (xs : List (List Int)) : List Int := xs.foldl (fun a y => if dataLt (datT y) (datT a) = true then y else a) x
theorem minT_D (x : List Int) (xs : List (List Int)) : datT (minT x xs) = minD (datT x) (xs.map datT) := by
  unfold minT minD
  induction xs generalizing x with
  | nil => rfl
  | cons y ys ih =>
    rw [List.foldl_cons, List.map_cons, List.foldl_cons, ih]
    split <;> rfl
theorem minT_mem (x : List Int) (xs : List (List Int)) : minT x xs ∈ x :: xs := by
  have := minD_mem (datT x) (xs.map datT)
  rw [← minT_D, ← List.map_cons (f := datT)] at this
  obtain ⟨y, m, e⟩ := List.mem_map.mp this
  rw [← datT_inj e]
  exact m
theorem minT_le (x : List Int) (xs : List (List Int)) : ∀ y ∈ x :: xs, dataLt (datT y) (datT (minT x xs)) = false := fun y m => by
  rw [minT_D]
  exact minD_le o_nt o_ti o_irr _ _ _ (by rw [← List.map_cons (f := datT)]; exact List.mem_map_of_mem m)
/-- the least one of a list, by what it is -/
theorem minT_of {x m : List Int} {xs : List (List Int)} (h : m ∈ x :: xs) (le : ∀ y ∈ x :: xs, dataLt (datT y) (datT m) = false) : m = minT x xs := o_eq (minT_le x xs m h) (le _ (minT_mem x xs))
def tupsOf : List VL.D → Option (List (List Int))
  | [] => some []
  | .tup xs :: r => (intsOf xs).bind fun ns => (tupsOf r).map (ns :: ·)
  | _ => none
theorem tupsOf_map : ∀ nss : List (List Int), tupsOf (nss.map fun ns => .tup (ns.map .int)) = some nss
  | [] => rfl
  | ns :: nss => by
    show (intsOf (ns.map .int)).bind _ = _
    rw [intsOf_map]
    show (tupsOf (nss.map fun ns => .tup (ns.map .int))).map _ = _
    rw [tupsOf_map nss]
    rfl
def fMinT (ds : List VL.D) : Option VL.D := match ds with
  | [.lst _ xs] => (match tupsOf xs with
    | some (x :: xs) => some (.tup ((minT x xs).map .int))
    | _ => none)
  | _ => none
def fMulT (d e : VL.D) : Option VL.D := match d, e with
  | .tup xs, .int k => if !xs.isEmpty && decide (1 ≤ k) && decide (k ≤ 1000) && decide (xs.length ≤ 1000) then some (.tup (List.replicate k.toNat xs).flatten) else none
  | _, _ => none
section
variable {mg : MG} {W : WX} {σ : L2.St} {F : FS} {H : Hp} {X : Cx}
theorem tups_rel : ∀ {ds : List VL.D} {ws : List V} {fp : List Addr} {nss : List (List Int)}, Rs mg F H ws ds fp → tupsOf ds = some nss →
    ∃ ks : List (Addr × List Int), ws = ks.map (fun q => V.ref q.1) ∧ ks.map (·.2) = nss ∧ ∀ q ∈ ks, H q.1 = some (.tup (q.2.map V.int))
  | [], _, _, _, .nil, h => by
    cases h
    exact ⟨[], rfl, rfl, fun _ m => nomatch m⟩
  | d :: ds, _, _, nss, .cons r rs, h => by
    unfold tupsOf at h
    split at h
    · rename_i q; cases q
    · rename_i xs r' q
      cases q
      obtain ⟨ns, e0, h⟩ := Option.bind_eq_some_iff.mp h
      obtain ⟨nss', e1, e2⟩ := Option.map_eq_some_iff.mp h
      subst e2
      obtain ⟨ks, e3, e4, e5⟩ := tups_rel rs e1
      cases r with
      | tup e r2 =>
        have ew := ints_rel r2 e0
        subst ew
        refine ⟨(_, ns) :: ks, by rw [e3]; rfl, by rw [List.map_cons, e4], fun q m => ?_⟩
        rcases List.mem_cons.mp m with rfl | m
        · exact e
        · exact e5 q m
    · cases h
theorem ops_minT : OpSL mg (rMinT mg.K) fMinT := by
  intro F H fps vs ds d' Q g b h q
  unfold fMinT at h
  split at h
  rotate_left
  · cases h
  rename_i o xs
  split at h
  rotate_left
  · cases h
  rename_i x xs' et
  cases h
  cases b with
  | cons b bn =>
    cases bn
    obtain ⟨fq, r, hs⟩ := b
    have fin : ∀ {a : Addr} {ws : List V} {fp : List Addr}, SqL mg.K H a ws → Rs mg F H ws xs fp → rMinT mg.K [.ref a] H Q := fun {a ws fp} hs r => by
      obtain ⟨ks, e1, e2, e3⟩ := tups_rel r et
      subst e1
      refine ⟨a, ks, rfl, hs, fun q m => .inl (.inl (e3 q m)), (fun z => by rw [z] at e2; cases e2), fun p m le => ?_⟩
      have ep : p.2 = minT x xs' := minT_of (by rw [← e2]; exact List.mem_map_of_mem m) fun y my => by
        rw [← e2] at my
        obtain ⟨p', m', rfl⟩ := List.mem_map.mp my
        exact le p' m'
      have := e3 p m
      rw [ep] at this
      exact q.flat (.tup this (Rs.ints _)) g
    cases r with
    | lstF f e r => exact fin (.inl e) r
    | lstO e r => exact fin (.inl (.inl e)) r
theorem rs_app0 {vs ws : List V} {ds es : List VL.D} (r : Rs mg F H vs ds []) (q : Rs mg F H ws es []) : Rs mg F H (vs ++ ws) (ds ++ es) [] := by
  have := r.app q
  simpa using this
theorem rs_rep {vs : List V} {ds : List VL.D} (r : Rs mg F H vs ds []) : ∀ k : Nat, Rs mg F H (List.replicate k vs).flatten (List.replicate k ds).flatten []
  | 0 => .nil
  | k + 1 => by
    rw [List.replicate_succ, List.replicate_succ, List.flatten_cons, List.flatten_cons]
    exact rs_app0 r (rs_rep r k)
theorem ops_mulT : OpS2 mg (fun x y H Q => rRep1 mg.K x y H Q ∨ rRepT mg.K x y H Q) fMulT := by
  intro F H fps v w d e d' Q g b1 b2 h q
  unfold fMulT at h
  split at h
  rotate_left
  · cases h
  rename_i xs k
  split at h
  rotate_left
  · cases h
  rename_i c
  cases h
  simp only [Bool.and_eq_true, decide_eq_true_eq, Bool.not_eq_true', List.isEmpty_eq_false_iff] at c
  obtain ⟨a, ws, rfl, e1, r⟩ := b1.tup
  obtain rfl := b2.int
  by_cases h1 : k = 1
  · subst h1
    refine .inl ⟨a, ws, rfl, rfl, .inl (.inl e1), q.flat ?_ g⟩
    have : (List.replicate (1 : Int).toNat xs).flatten = xs := by simp
    rw [this]
    exact .tup e1 r
  · refine .inr ⟨a, k, ws, rfl, rfl, .inl (.inl e1), fun z => ?_, by omega, c.1.2, by rw [r.len]; exact c.2, fun p np => q.tup (rs_rep r _) g p np⟩
    have := r.len
    rw [z] at this
    exact c.1.1.1 (List.eq_nil_of_length_eq_zero (by simpa using this.symm))
theorem call_minT (hc : X.calm = true) (hu : X.A.units + 64 < cLine) : CallR X (.builtin "min") (rMinT X.K) := cr_minT hc hu o_nt o_ti o_irr
theorem op_mulT : OpR X (binaryOp .Mult) (fun x y H Q => rRep1 X.K x y H Q ∨ rRepT X.K x y H Q) := op_rep1.or op_repT
end
theorem fMinT_t {x : List Int} {xs : List (List Int)} {o : Bool} : fMinT [.lst o ((x :: xs).map fun ns => .tup (ns.map .int))] = some (.tup ((minT x xs).map .int)) := by
  show (match tupsOf ((x :: xs).map fun ns => D.tup (ns.map .int)) with
    | some (x :: xs) => some (D.tup ((minT x xs).map .int))
    | _ => none) = _
  rw [tupsOf_map]
theorem fMulT_t {xs : List VL.D} {k : Int} (h0 : xs ≠ []) (h1 : 1 ≤ k) (h2 : k ≤ 1000) (h3 : xs.length ≤ 1000) : fMulT (.tup xs) (.int k) = some (.tup (List.replicate k.toNat xs).flatten) := by
  have e : xs.isEmpty = false := by
    cases xs with
    | nil => exact absurd rfl h0
    | cons => rfl
  show (if _ then _ else _) = _
  rw [if_pos (by simp only [e, decide_eq_true h1, decide_eq_true h2, decide_eq_true h3]; rfl)]
end VL

set_option Elab.async false
set_option linter.all false
set_option maxRecDepth 100000
set_option maxHeartbeats 2000000
namespace VL
open PySem PySem.Spec PyProof.Rows L2
/-! ### own exceptions without fields: raised -/
structure XcOk (K : PySem.W.Frag) (mg : MG) (c : Str) : Prop where
  at_ : ∃ C, mg c = some (.ref C) ∧ PySem.W.excIn K C He.veBase "ValueError.__new__" = true ∧ PySem.W.keepIn K (.ref C) = true ∧ PySem.W.subIn K (.ref C) (.type "BaseException") = some true ∧ PySem.W.typeIn K (.ref C) = some (.type "type")
def sRaise (c : Str) : S := fun ρ => .exc ⟨c, []⟩ ρ
section
variable {mg : MG} {W : WX} {X : Cx} {us : List Nat} {vs : List V}
theorem pmk_own0 {C : Addr} {bmB : List Value} {B newId initId : String} {x : Str} {p pos : Pos} (F : ExcBaseFacts B newId initId bmB) (q : PySem.W.excIn X.K C bmB newId = true) (gC : X.mg x = some (.ref C))
    (kC : PySem.W.keepIn X.K (.ref C) = true) (r : Raises X (.ref C)) (hg : Gl X x) (hdb : (x == ("__debug__" : Str)) = false := by decide) :
    PMk X (.Call (.Name x p) [] [] pos) (fun σ H Q => Q (.ref C) none H) := by
  intro pins s σ H Q I h
  refine wpAny_Call_Name_kw (ld_glob I hg gC ?_ hdb)
  refine PySem.W.callWith_K0 I.kIn kC ?_
  show wpAny _ _ (call (.ref C) []) _ _ _
  obtain ⟨bm, N, nm, qn, bs, hdct, sn, sub, ab, col, dd, k0, k1, k2, k3, k5, mN, hC, hN, hni, T⟩ := exc_obj I.kIn q
  refine wpAny_call_exc_subT F T hC hN hni (fun h' e hm => ?_) (by show 0 ≤ sizeLine; exact Nat.zero_le _)
  exact mk_of I hm r h (I.hok.gone hm.new)
theorem vs_raise0 {c : Str} {p p2 pos : Pos} (hc : X.calm = true) (tk : Takes X W) (ok : XcOk X.K (mG X) c) (hg : Gl X c) (hdb : (c == ("__debug__" : Str)) = false := by decide) :
    PS X (.Raise (some (.Call (.Name c p) [] [] p2)) none pos) (vS (mG X) W us vs (sRaise c)) := by
  obtain ⟨C, h1, h2, h3, h4, h5⟩ := ok.at_
  refine ps_imp (ps_raise hc tk (pmk_own0 F.excBase_ValueError h2 h1 h3 (raises_own h4 h5) hg hdb)) fun D σ H ⟨F, ρ, fps, hE, hG, hp, hP⟩ => ?_
  exact hP (.ref C) none σ F H fps ⟨C, h1, rfl, .inl ⟨rfl, rfl⟩⟩ hE hG hp Rch.refl
/-! ### try, without a name -/
/-- which exceptions the class c takes -/
def ExM (K : PySem.W.Frag) (mg : MG) (c : Value) (l : List (Str × Bool)) : Prop := ∀ x b, l.lookup x = some b → ∃ C, mg x = some (.ref C) ∧ PySem.W.exmOne K (.ref C) c = some b
def noX : SR → SR
  | .exc _ _ => .bad
  | r => r
def sHand (hs : List (List (Str × Bool) × S)) (e : Ex) (ρ : Env) : SR := match hs with
  | [] => .exc e ρ
  | (l, h) :: r => match l.lookup e.c with
    | some true => noX (h ρ)
    | some false => sHand r e ρ
    | none => .bad
def sTry (b : S) (hs : List (List (Str × Bool) × S)) : S := fun ρ => match b ρ with
  | .exc e ρ' => sHand hs e ρ'
  | r => r
abbrev WF : WX := fun _ _ _ _ => False
theorem SPst.noX {F : FS} {H : Hp} {fps : List Addr} {r : SR} {D : Ends} (h : SPst mg W us vs F H fps (noX r) D) : SPst mg WF us vs F H fps r D := by
  cases r with
  | nx ρ' => exact h
  | bk ρ' => exact h
  | ct ρ' => exact h
  | rt d ρ' => exact h
  | exc e ρ' => exact h.elim
  | bad => exact h
inductive HsOk (X : Cx) (mg : MG) (us : List Nat) (vs : List V) : List ExceptHandler → List (Value × (List (Str × Bool) × S)) → Prop
  | nil : HsOk X mg us vs [] []
  | cons {x : Str} {c : Value} {l : List (Str × Bool)} {h : S} {b₀ : Stmt} {suite : List Stmt} {np pos' : Pos} {hds : List ExceptHandler} {r : List (Value × (List (Str × Bool) × S))} (hc : Names X x c) (hx : ExM X.K mg c l)
      (hsu : ∀ (a : Addr) (oe : Obj) (pn : List (Addr × Obj)), PSs (X.suite a ((a, oe) :: pn)) (b₀ :: suite) (vS mg WF us vs h)) (rest : HsOk X mg us vs hds r) :
      HsOk X mg us vs (.ExceptHandler (some (.Name x np)) none (b₀ :: suite) pos' :: hds) ((c, (l, h)) :: r)
theorem HsOk.hds {mg : MG} : ∀ {hds : List ExceptHandler} {r : List (Value × (List (Str × Bool) × S))}, HsOk X mg us vs hds r → HdsOk X hds (r.map fun p => (p.1, fun _ _ _ => vS mg WF us vs p.2.2))
  | _, _, .nil => .nil
  | _, _, .cons hc hx hsu rest => .cons hc (fun a oe cls d pn _ _ => hsu a oe pn) rest.hds
theorem try_want {F F' : FS} {H H' : Hp} {fps fps' : List Addr} {D : Ends} {e : Ex} {ρ' : Env} {cls : Value} {dd : Option Addr} {σ' : L2.St} (x : ExR mg F' H' e cls dd) (hE : RE mg F' H' ρ' σ' fps') (hG : Gd F' H' fps') (hp : Pn us vs σ') (c : Rch F H fps F' H' fps') :
    ∀ {hds : List ExceptHandler} {r : List (Value × (List (Str × Bool) × S))}, HsOk X mg us vs hds r → SPst mg W us vs F H fps (sHand (r.map (·.2)) e ρ') D → wMany X.K W D (r.map fun p => (p.1, fun _ _ _ => vS mg WF us vs p.2.2)) cls dd σ' H'
  | _, _, .nil, hP => hP cls dd σ' F' H' fps' x hE hG hp c
  | _, _, .cons (l := l) (h := h) hc hx hsu rest, hP => by
    simp only [List.map_cons, sHand] at hP
    obtain ⟨C, e1, e2, _⟩ := id x
    cases q : l.lookup e.c with
    | none => rw [q] at hP; exact hP.elim
    | some b =>
      obtain ⟨C', e3, e4⟩ := hx _ _ q
      rw [e1] at e3
      cases e3
      rw [q] at hP
      subst e2
      refine ⟨b, e4, fun hb a _ => ?_, fun hb => ?_⟩
      · subst hb
        exact ⟨F', ρ', fps', hE, hG, hp, (SPst.noX (W := W) hP).trans c⟩
      · subst hb
        exact try_want x hE hG hp c rest hP
theorem vs_try {body : List Stmt} {h₀ : ExceptHandler} {hds : List ExceptHandler} {r : List (Value × (List (Str × Bool) × S))} {b : S} {pos : Pos} (hs : X.stack = X.env :: X.outer) (hf : X.env.frame = some X.env.locals) (tk : Takes X W)
    (hb : ∀ (W : WX) (pn : List (Addr × Obj)) (xe : Value → Shared → Prop), Takes (X.tr pn xe) W → PSs (X.tr pn xe) body (vS mg W us vs b)) (hh : HsOk X mg us vs (h₀ :: hds) r) :
    PS X (.Try body (h₀ :: hds) [] [] pos) (vS mg W us vs (sTry b (r.map (·.2)))) := by
  refine ps_imp (ps_try_many hs hf tk (tb := fun W => vS mg W us vs b) (fun W pn xe t _ => hb W pn xe t) hh.hds) fun D σ H ⟨F, ρ, fps, hE, hG, hp, hP⟩ => ⟨F, ρ, fps, hE, hG, hp, ?_⟩
  unfold sTry at hP
  cases q : b ρ with
  | exc e ρ' =>
    rw [q] at hP
    exact fun cls dd σ' F' H' fps' x a1 a2 a3 a4 => try_want x a1 a2 a3 a4 hh hP
  | nx ρ' => rw [q] at hP; exact hP
  | bk ρ' => rw [q] at hP; exact hP
  | ct ρ' => rw [q] at hP; exact hP
  | rt d ρ' => rw [q] at hP; exact hP
  | bad => rw [q] at hP; exact hP
end
/-! ### the readings, step by step -/
section
variable {ρ : Env}
theorem es_raise {c : Str} : sRaise c ρ = .exc ⟨c, []⟩ ρ := rfl
def SR.thX (r : SR) (k : Ex → Env → SR) : SR := match r with
  | .exc e ρ => k e ρ
  | r => r
theorem es_try {b : S} {hs : List (List (Str × Bool) × S)} : sTry b hs ρ = (b ρ).thX (sHand hs) := by
  unfold sTry SR.thX
  cases b ρ <;> rfl
theorem thX_nx {k : Ex → Env → SR} : (SR.nx ρ).thX k = .nx ρ := rfl
theorem thX_rt {k : Ex → Env → SR} {d : D} : (SR.rt d ρ).thX k = .rt d ρ := rfl
theorem thX_bk {k : Ex → Env → SR} : (SR.bk ρ).thX k = .bk ρ := rfl
theorem thX_ct {k : Ex → Env → SR} : (SR.ct ρ).thX k = .ct ρ := rfl
theorem thX_exc {k : Ex → Env → SR} {e : Ex} : (SR.exc e ρ).thX k = k e ρ := rfl
end
end VL

set_option Elab.async false
set_option linter.all false
set_option maxRecDepth 100000
set_option maxHeartbeats 2000000
namespace VL
open PySem PySem.Spec PyProof.Rows L2
/-! ### except C as e: a suite that looks at e and stores atoms -/
def D.atom : D → Option V
  | .non => some .non | .bl b => some (.bl b) | .int i => some (.int i) | .str s => some (.str s)
  | _ => none
theorem D.atom_rel {mg : MG} {F : FS} {H : Hp} : ∀ {d : D} {v : V}, d.atom = some v → R mg F H v d []
  | .non, _, h => by cases h; exact .non
  | .bl b, _, h => by cases h; exact .bl b
  | .int i, _, h => by cases h; exact .int i
  | .str s, _, h => by cases h; exact .str s
  | .tup _, _, h => by cases h
  | .ptp _, _, h => by cases h
  | .tab _, _, h => by cases h
  | .lst _ _, _, h => by cases h
  | .dct _ _ _, _, h => by cases h
  | .ins _ _ _, _, h => by cases h
  | .ty _, _, h => by cases h
  | .cls _, _, h => by cases h
  | .scr _, _, h => by cases h
abbrev Ups : Type := List (Nat × D)
def setU : Ups → L2.St → Option L2.St
  | [], σ => some σ
  | (i, d) :: r, σ => match d.atom with
    | some v => setU r (σ.set i (some v))
    | none => none
theorem setU_cons {i : Nat} {d : D} {r : Ups} {σ : L2.St} : setU ((i, d) :: r) σ = match d.atom with
    | some v => setU r (σ.set i (some v))
    | none => none := rfl
def envU : Ups → Env → Env
  | [], ρ => ρ
  | (i, d) :: r, ρ => envU r (ρ.set i (some d))
theorem setU_app : ∀ {u w : Ups} {σ σ' : L2.St}, setU u σ = some σ' → setU (u ++ w) σ = setU w σ'
  | [], _, _, _, h => by cases h; rfl
  | (i, d) :: r, w, σ, σ', h => by
    rw [setU_cons] at h
    rw [List.cons_append, setU_cons]
    cases e : d.atom with
    | none => rw [e] at h; cases h
    | some v =>
      rw [e] at h
      exact setU_app (u := r) h
theorem setU_app_some : ∀ {u w : Ups} {σ σ2 : L2.St}, setU (u ++ w) σ = some σ2 → ∃ σ1, setU u σ = some σ1 ∧ setU w σ1 = some σ2
  | [], _, σ, _, h => ⟨σ, rfl, h⟩
  | (i, d) :: r, w, σ, σ2, h => by
    rw [List.cons_append, setU_cons] at h
    rw [setU_cons]
    cases e : d.atom with
    | none => rw [e] at h; cases h
    | some v =>
      rw [e] at h
      exact setU_app_some (u := r) h
theorem setU_keep : ∀ {u : Ups} {σ σ' : L2.St} {i : Nat}, setU u σ = some σ' → (u.all fun p => p.1 != i) = true → σ'[i]? = σ[i]?
  | [], _, _, _, h, _ => by cases h; rfl
  | (j, d) :: r, σ, σ', i, h, n => by
    unfold setU at h
    rw [List.all_cons, Bool.and_eq_true] at n
    cases e : d.atom with
    | none => rw [e] at h; cases h
    | some v =>
      rw [e] at h
      have hj : j ≠ i := by simpa using n.1
      rw [setU_keep (u := r) h n.2, List.getElem?_set_ne hj]
/-- the suite stores what f says of the exception -/
def tU (mg : MG) (i a : Nat) (cls : Value) (dd : Option Addr) (f : Ex → Option Ups) : TS := fun D σ H =>
  ∃ e F u σ', ExR mg F H e cls dd ∧ σ[i]? = some (some (.ref a)) ∧ f e = some u ∧ setU u σ = some σ' ∧ D.nx σ' H
def tUE (mg : MG) (i a : Nat) (cls : Value) (dd : Option Addr) (f : Ex → Option D) : TE := fun σ H Q =>
  ∃ e F d v, ExR mg F H e cls dd ∧ σ[i]? = some (some (.ref a)) ∧ f e = some d ∧ d.atom = some v ∧ Q v H
def tUT (mg : MG) (i a : Nat) (cls : Value) (dd : Option Addr) (f : Ex → Option Bool) : TT := fun σ H Q =>
  ∃ e F b, ExR mg F H e cls dd ∧ σ[i]? = some (some (.ref a)) ∧ f e = some b ∧ Q b H
/-- which class an exception is of, asked by isinstance -/
def ExI (K : PySem.W.Frag) (mg : MG) (cv : Value) (l : List (Str × Bool)) : Prop := ∀ x b, l.lookup x = some b → ∃ C, mg x = some (.ref C) ∧ ExcC K C ∧ PySem.W.kitOne K (.ref C) cv = some b
section
variable {X : Cx} {mg : MG} {i a : Nat} {cls : Value} {dd : Option Addr} {oe : Obj} {pn : List (Addr × Obj)}
theorem tu_const {Y : Cx} {e : Expr} {v : V} {d : D} (h : PE Y e (tC v)) (hd : d.atom = some v) : PE Y e (tUE mg i a cls dd fun _ => some d) := pe_imp h fun σ H Q ⟨_, _, _, v', _, _, e1, e2, q⟩ => by
  cases e1
  rw [hd] at e2
  cases e2
  exact q
theorem tu_ife {Y : Cx} {c x y : Expr} {g : Ex → Option Bool} {f1 f2 : Ex → Option D} {pos : Pos} (hc : PT Y c (tUT mg i a cls dd g)) (h1 : PE Y x (tUE mg i a cls dd f1)) (h2 : PE Y y (tUE mg i a cls dd f2)) :
    PE Y (.IfExp c x y pos) (tUE mg i a cls dd fun e => (g e).bind fun b => if b then f1 e else f2 e) := pe_imp (pe_ifExp hc h1 h2) fun σ H Q ⟨e, F, d, v, e1, e2, e3, e4, q⟩ => by
  obtain ⟨b, e5, e6⟩ := Option.bind_eq_some_iff.mp e3
  refine ⟨e, F, b, e1, e2, e5, ?_⟩
  cases b with
  | true => exact ⟨e, F, d, v, e1, e2, e6, e4, q⟩
  | false => exact ⟨e, F, d, v, e1, e2, e6, e4, q⟩
theorem tu_set {Y : Cx} {j : Nat} {x : Str} {e : Expr} {f : Ex → Option D} {pos pos' : Pos} (hN : Y.N.Nodup) (hi : Y.N[j]? = some x) (hx : Loc Y.env.scope x) (he : PE Y e (tUE mg i a cls dd f)) (hs : swapsWith e (some (.Name x pos')) pos.line Y.env = pure false := by rfl) (hf : Y.fn x = true ∨ Y.env.scope.names.lookup x = some .local := by first | exact .inl rfl | exact .inr rfl) :
    PS Y (.Assign [.Name x pos'] e pos) (tU mg i a cls dd fun e => (f e).map fun d => [(j, d)]) :=
  ps_imp (ps_set hN hi hx he hs hf) fun D σ H ⟨e, F, u, σ', e1, e2, e3, e4, q⟩ => by
    obtain ⟨d, e5, rfl⟩ := Option.map_eq_some_iff.mp e3
    unfold setU at e4
    cases e6 : d.atom with
    | none => rw [e6] at e4; cases e4
    | some v =>
      rw [e6] at e4
      cases e4
      exact ⟨e, F, d, v, e1, e2, e5, e6, q⟩
theorem tu_one {Y : Cx} {st : Stmt} {f : Ex → Option Ups} (h : PS Y st (tU mg i a cls dd f)) : PSs Y [st] (tU mg i a cls dd f) := pss_one h
theorem tu_nil {Y : Cx} : PSs Y [] (tU mg i a cls dd fun _ => some []) := pss_imp pss_nil fun D σ H ⟨_, _, _, _, _, _, e1, e2, q⟩ => by
  cases e1
  cases e2
  exact q
theorem tu_cons {Y : Cx} {st : Stmt} {rest : List Stmt} {f g : Ex → Option Ups} (h1 : PS Y st (tU mg i a cls dd f)) (h2 : PSs Y rest (tU mg i a cls dd g)) :
    PSs Y (st :: rest) (tU mg i a cls dd fun e => (f e).bind fun u => if (u.all fun p => p.1 != i) = true then (g e).map fun w => u ++ w else none) := pss_imp (pss_cons h1 h2) fun D σ H ⟨e, F, u, σ', e1, e2, e3, e4, q⟩ => by
  obtain ⟨u1, e5, e6⟩ := Option.bind_eq_some_iff.mp e3
  split at e6
  · rename_i hn
    obtain ⟨w, e7, rfl⟩ := Option.map_eq_some_iff.mp e6
    obtain ⟨σ1, e8, e9⟩ := setU_app_some e4
    exact ⟨e, F, u1, σ1, e1, e2, e5, e8, e, F, w, σ', e1, (setU_keep e8 hn).trans e2, e7, e9, q⟩
  · cases e6
theorem tu_if {Y : Cx} {c : Expr} {s1 s2 : List Stmt} {g : Ex → Option Bool} {f1 f2 : Ex → Option Ups} {pos : Pos} (hc : PT Y c (tUT mg i a cls dd g)) (h1 : PSs Y s1 (tU mg i a cls dd f1)) (h2 : PSs Y s2 (tU mg i a cls dd f2)) :
    PS Y (.If c s1 s2 pos) (tU mg i a cls dd fun e => (g e).bind fun b => if b then f1 e else f2 e) := ps_imp (ps_if hc h1 h2) fun D σ H ⟨e, F, u, σ', e1, e2, e3, e4, q⟩ => by
  obtain ⟨b, e5, e6⟩ := Option.bind_eq_some_iff.mp e3
  refine ⟨e, F, b, e1, e2, e5, ?_⟩
  cases b with
  | true => exact ⟨e, F, u, σ', e1, e2, e6, e4, q⟩
  | false => exact ⟨e, F, u, σ', e1, e2, e6, e4, q⟩
theorem tu_and {Y : Cx} {x y : Expr} {rest : List Expr} {f g : Ex → Option Bool} {pos : Pos} (h1 : PT Y x (tUT mg i a cls dd f)) (h2 : PW Y (.BoolOp .And (y :: rest) pos) (tUT mg i a cls dd g)) :
    PW Y (.BoolOp .And (x :: y :: rest) pos) (tUT mg i a cls dd fun e => (f e).bind fun b => if b then g e else some false) := pw_imp (pw_and h1 h2) fun σ H Q ⟨e, F, b, e1, e2, e3, q⟩ => by
  obtain ⟨c, e5, e6⟩ := Option.bind_eq_some_iff.mp e3
  refine ⟨e, F, c, e1, e2, e5, ?_⟩
  cases c with
  | true => exact ⟨e, F, b, e1, e2, e6, q⟩
  | false => cases e6; exact q
theorem tu_not {Y : Cx} {x : Expr} {f : Ex → Option Bool} {pos : Pos} (h : PT Y x (tUT mg i a cls dd f)) : PT Y (.UnaryOp .Not x pos) (tUT mg i a cls dd fun e => (f e).map (!·)) := pt_imp (pt_not h) fun σ H Q ⟨e, F, b, e1, e2, e3, q⟩ => by
  obtain ⟨c, e5, rfl⟩ := Option.map_eq_some_iff.mp e3
  exact ⟨e, F, c, e1, e2, e5, q⟩
/-- isinstance(e, c), e the exception that the suite holds -/
def rIsX (K : PySem.W.Frag) (D a : Addr) (dd : Option Addr) : List V → Hp → VK → Prop := fun xs H Q => ∃ (c : V) (cv : Value) (b : Bool), xs = [.ref a, c] ∧ (∀ u, RelV c u → u = cv) ∧ PySem.W.kitOne K (.ref D) cv = some b ∧ (∀ dx, dd = some dx → ∃ fs, H dx = some (.xd fs)) ∧ Q (.bl b) H
theorem call_isX {D : Addr} (C : ExcC X.K D) (hz : Zc (.ref D) dd oe) (hf : ∃ vs, oe.data = .fields vs) : CallR (X.suite a ((a, oe) :: pn)) (.builtin "isinstance") (rIsX X.K D a dd) := by
  intro pins s σ H xs us Q I r h
  obtain ⟨c, cv, b, rfl, hcv, e, hdx, q⟩ := h
  cases r with
  | cons rx rr =>
    cases rr with
    | cons rt rr =>
      cases rr
      cases rx
      have ec := hcv _ rt
      subst ec
      obtain ⟨hget, _⟩ := I.pin (a, oe) (List.mem_append.mpr (.inl List.mem_cons_self))
      obtain ⟨vs, hv⟩ := hf
      have J : ∃ od, PySem.W.InstAt s.heap a oe D od := by
        obtain ⟨oc, od, oda, osl⟩ := oe
        obtain ⟨h1, h2⟩ := hz
        dsimp only at h1 h2 hv
        subst h1 h2 hv
        cases od with
        | none => exact ⟨none, hget, rfl, rfl, trivial⟩
        | some dx =>
          obtain ⟨fs, ea⟩ := hdx dx rfl
          have hx : ObjOk X.prog X.w H s.heap dx (.xd fs) := I.hok dx _ ea
          obtain ⟨mA, hns, hr⟩ := hx
          obtain ⟨od, ho, hl⟩ := lookIn_ns hns
          exact ⟨some od, hget, rfl, rfl, ho⟩
      obtain ⟨od, J⟩ := J
      have hcl : (PySem.W.clsIn X.K D).isSome = true := by
        obtain ⟨cd, hc, _⟩ := PySem.W.any_some C.hd
        rw [hc]; rfl
      exact PySem.W.kia_one (PySem.W.kitx_exc hcl C.hg C.hk C.hs C.ha C.hn C.ht C.hm) I.kIn J e (fun z => nomatch z) fun tk => ⟨.bl b, H, I.kept (t' := tk) fun _ _ z => z, rfl, q⟩
theorem ExR.dict {F : FS} {H : Hp} {e : Ex} (x : ExR mg F H e cls dd) : ∀ dx, dd = some dx → ∃ fs, H dx = some (.xd fs) := fun dx h => by
  obtain ⟨C, _, _, h2⟩ := x
  rcases h2 with ⟨_, h3⟩ | ⟨dx', vs, h3, h4, _⟩
  · rw [h3] at h; cases h
  · rw [h3] at h; cases h; exact ⟨vs, h4⟩
/-- isinstance(e, C) -/
theorem tu_isi {n : Str} {c : Expr} {l : List (Str × Bool)} {cv : Value} {cc : V} {p1 p2 pos : Pos} (hz : Zc cls dd oe) (hf : ∃ vs, oe.data = .fields vs) (hx : ExI X.K mg cv l) (hN : (X.suite a ((a, oe) :: pn)).N[i]? = some n) (hv : Vis X.env.scope n)
    (hc : PE (X.suite a ((a, oe) :: pn)) c (tC cc)) (hcv : ∀ u, RelV cc u → u = cv) (hg : Gl X "isinstance") (hm : X.mg "isinstance" = none)
    (hd : (n == ("__debug__" : Str)) = false := by decide) (hcd : (n == ("__classdict__" : Str)) = false := by decide)
    (hsc : starEach [c] X.env = (false, eval c X.env) :: starEach [] X.env := by rfl) (hpl : (backTo pos (starEach [c] X.env)).any (·.1) = false := by rfl) :
    PE (X.suite a ((a, oe) :: pn)) (.Call (.Name "isinstance" p1) [.Name n p2, c] [] pos) (tUE mg i a cls dd fun e => (l.lookup e.c).map .bl) := by
  refine ⟨fun pins s σ H Q I h => ?_⟩
  obtain ⟨e, F, d, v, x, e2, e3, e4, q⟩ := h
  have hdx := ExR.dict x
  obtain ⟨C, g1, rfl, g2⟩ := x
  have e3 : (l.lookup e.c).map .bl = some d := e3
  obtain ⟨b, e5, rfl⟩ := Option.map_eq_some_iff.mp e3
  cases e4
  obtain ⟨C', g3, g4, g5⟩ := hx _ _ e5
  rw [g1] at g3
  cases g3
  have ha : PA (X.suite a ((a, oe) :: pn)) [.Name n p2, c] (tCons (tVar i) (tCons (tC cc) tNil)) := pa_cons (pe_var hN hv hd hcd) (pa_cons hc pa_nil hsc)
  exact (pe_callB (pos := pos) (p := p1) (call_isX g4 hz hf) hg hm rfl ha (hpl := hpl)).run pins s σ H Q I ⟨_, e2, cc, cv, b, rfl, hcv, g5, hdx, q⟩
/-- such a test -/
theorem tu_tru {Y : Cx} {e : Expr} {f : Ex → Option D} (he : PE Y e (tUE mg i a cls dd f)) (hi : ∀ whole, PySem.isTrue e Y.env whole = (do let v ← whole; standAt e.pos; holding [v] (truthy v)) := by intro _; rfl) :
    PT Y e (tUT mg i a cls dd fun x => (f x).bind fun d => match d with | .bl b => some b | _ => none) := pt_imp (pt_val he hi) fun σ H Q ⟨x, F, b, e1, e2, e3, q⟩ => by
  obtain ⟨d, e4, e5⟩ := Option.bind_eq_some_iff.mp e3
  refine ⟨x, F, d, ?_⟩
  cases d with
  | bl c => cases e5; exact ⟨_, e1, e2, e4, rfl, _, rfl, q⟩
  | _ => cases e5
/-- e.f -/
theorem tu_fld {n f : Str} {p2 pos : Pos} (hz : Zc cls dd oe) (hf : ∃ vs, oe.data = .fields vs) (hno : ∀ C, cls = .ref C → XfC X.K C ∧ PySem.W.findIn X.K (.ref C) f = some none) (hN : (X.suite a ((a, oe) :: pn)).N[i]? = some n) (hv : Vis X.env.scope n)
    (hd : (n == ("__debug__" : Str)) = false := by decide) (hcd : (n == ("__classdict__" : Str)) = false := by decide) (hb : attributeBase (.Name n p2) f X.env (eval (.Name n p2) X.env) = eval (.Name n p2) X.env := by rfl) :
    PE (X.suite a ((a, oe) :: pn)) (.Attribute (.Name n p2) f pos) (tUE mg i a cls dd fun e => e.fs.lookup f) := by
  refine ⟨fun pins s σ H Q I h => ?_⟩
  obtain ⟨e, F, d, v, x, e2, e3, e4, q⟩ := h
  obtain ⟨C, g1, rfl, g2⟩ := x
  obtain ⟨T, no⟩ := hno C rfl
  have e3 : e.fs.lookup f = some d := e3
  rcases g2 with ⟨h3, _⟩ | ⟨dx, vs, h3, h4, _, h5, h6⟩
  · rw [h3] at e3; cases e3
  · obtain ⟨v', fq, h7, h8, _⟩ := lookup_rel h5 h6 e3
    have ev : v' = v := by
      have r := D.atom_rel (mg := mg) (F := F) (H := H) e4
      cases d <;> cases e4 <;> cases r <;> cases h8 <;> rfl
    subst ev
    exact (pe_xf T no hz hf (pe_var (pos := p2) hN hv hd hcd) hb).run pins s σ H Q I ⟨_, e2, rfl, rfl, dx, vs, v', h3, h4, h7, q⟩
end
/-! ### try: .. except C as e: .. -/
def sHandA (us : List Nat) (i : Nat) (l : List (Str × Bool)) (f : Ex → Option Ups) (e : Ex) (ρ : Env) : SR := match l.lookup e.c with
  | some true => (match f e with
    | some u => if (decide (i < ρ.length) && u.all fun p => (p.2.atom).isSome && decide (p.1 < ρ.length)) = true then (if (u.all fun p => !us.contains p.1) = true then .nx ((envU u ρ).set i none) else .bad) else .bad
    | none => .bad)
  | some false => .exc e ρ
  | none => .bad
def sTryA (us : List Nat) (i : Nat) (b : S) (l : List (Str × Bool)) (f : Ex → Option Ups) : S := fun ρ => match b ρ with
  | .exc e ρ' => sHandA us i l f e ρ'
  | r => r
section
variable {X : Cx} {mg : MG} {W : WX} {us : List Nat} {vs : List V}
theorem RE.setAny {F : FS} {H : Hp} : ∀ {ρ : Env} {σ : L2.St} {fps : List Addr} {i : Nat} {s : Option V}, RE mg F H ρ σ fps → ρ[i]? = some none → RE mg F H ρ (σ.set i s) fps
  | _, _, _, i, _, .nil, h => by simp at h
  | _, _, _, 0, _, .skip r, _ => .skip r
  | _, _, _, i + 1, _, .skip r, h => .skip (r.setAny (by simpa using h))
  | _, _, _, 0, _, .cons r rs, h => by simp at h
  | _, _, _, i + 1, _, .cons r rs, h => .cons r (rs.setAny (by simpa using h))
theorem RE.ups {F : FS} {H : Hp} : ∀ {u : Ups} {ρ : Env} {σ : L2.St} {fps : List Addr}, RE mg F H ρ σ fps → Gd F H fps → (u.all fun p => (p.2.atom).isSome && decide (p.1 < ρ.length)) = true → ∃ σ' fps', setU u σ = some σ' ∧ RE mg F H (envU u ρ) σ' fps' ∧ Gd F H fps' ∧ ∀ a ∈ fps', a ∈ fps
  | [], _, _, _, hE, hG, _ => ⟨_, _, rfl, hE, hG, fun _ m => m⟩
  | (i, d) :: r, ρ, σ, fps, hE, hG, h => by
    rw [List.all_cons, Bool.and_eq_true, Bool.and_eq_true] at h
    obtain ⟨⟨h1, h2⟩, h3⟩ := h
    obtain ⟨v, hv⟩ := Option.isSome_iff_exists.mp h1
    obtain ⟨gone, fps1, e1, e2⟩ := hE.put (of_decide_eq_true h2) (D.atom_rel (mg := mg) (F := F) (H := H) hv)
    have g1 : Gd F H fps1 := (hG.perm (by simpa using e2)).right
    obtain ⟨σ', fps', e3, e4, e5, e6⟩ := RE.ups (u := r) e1 g1 (by simpa using h3)
    refine ⟨σ', fps', ?_, e4, e5, fun a m => ?_⟩
    · unfold setU
      rw [hv]
      exact e3
    · exact (by simpa using e2 : fps.Perm (gone ++ fps1)).mem_iff.mpr (List.mem_append_right _ (e6 a m))
theorem envU_len : ∀ {u : Ups} {ρ : Env}, (envU u ρ).length = ρ.length
  | [], _ => rfl
  | (i, d) :: r, ρ => by unfold envU; rw [envU_len]; simp
theorem Pn.ups : ∀ {u : Ups} {σ σ' : L2.St}, Pn us vs σ → (∀ p ∈ u, p.1 ∉ us) → setU u σ = some σ' → Pn us vs σ'
  | [], _, _, h, _, e => by cases e; exact h
  | (i, d) :: r, σ, σ', h, n, e => by
    unfold setU at e
    cases q : d.atom with
    | none => rw [q] at e; cases e
    | some v =>
      rw [q] at e
      exact Pn.ups (u := r) (h.set (n (i, d) List.mem_cons_self)) (fun p m => n p (List.mem_cons_of_mem _ m)) e
theorem vs_tryA {x n : Str} {c : Value} {l : List (Str × Bool)} {i : Nat} {f : Ex → Option Ups} {b₀ : Stmt} {body suite : List Stmt} {b : S} {np pos pos' : Pos} (hs : X.stack = X.env :: X.outer) (hf : X.env.frame = some X.env.locals) (hN : X.N.Nodup) (hi : X.N[i]? = some n) (hln : X.env.kindOf n = some .local)
    (hc : Names X x c) (hx : ExM X.K mg c l) (tk : Takes X W) (hiu : i ∉ us)
    (hb : ∀ (W : WX) (pn : List (Addr × Obj)) (xe : Value → Shared → Prop), Takes (X.tr pn xe) W → PSs (X.tr pn xe) body (vS mg W us vs b))
    (hsu : ∀ (a : Addr) (oe : Obj) (cls : Value) (d : Option Addr) (pn : List (Addr × Obj)), Zc cls d oe → (∃ vs, oe.data = .fields vs) → PSs (X.suite a ((a, oe) :: pn)) (b₀ :: suite) (tU mg i a cls d f)) :
    PS X (.Try body [.ExceptHandler (some (.Name x np)) (some n) (b₀ :: suite) pos'] [] [] pos) (vS mg W us vs (sTryA us i b l f)) := by
  refine ps_imp (ps_try_as hs hf hN hi hln hc tk (tb := fun W => vS mg W us vs b) (ts := fun a cls d => tU mg i a cls d f) (fun W pn xe t _ => hb W pn xe t) hsu) fun D σ H ⟨F, ρ, fps, hE, hG, hp, hP⟩ => ⟨F, ρ, fps, hE, hG, hp, ?_⟩
  unfold sTryA at hP
  cases q : b ρ with
  | exc e ρ' =>
    rw [q] at hP
    intro cls dd σ' F' H' fps' xx a1 a2 a3 a4
    replace hP : SPst mg W us vs F H fps (sHandA us i l f e ρ') D := hP
    unfold sHandA at hP
    obtain ⟨C, e1, e2, _⟩ := id xx
    cases q1 : l.lookup e.c with
    | none => rw [q1] at hP; exact hP.elim
    | some bb =>
      obtain ⟨C', e3, e4⟩ := hx _ _ q1
      rw [e1] at e3
      cases e3
      rw [q1] at hP
      subst e2
      refine ⟨bb, e4, fun hb1 a na => ?_, fun hb1 => ?_⟩
      · subst hb1
        cases q2 : f e with
        | none => simp only [q2] at hP; exact hP.elim
        | some u =>
          simp only [q2] at hP
          split at hP
          · rename_i hall
            -- slot i is forgotten first
            obtain ⟨g0, r0, b1, b2⟩ := a1.drop i
            have gr0 : Gd F' H' r0 := (a2.perm b2).right
            have hlen : ρ'.length = σ'.length := a1.len
            split at hP
            case isFalse => exact hP.elim
            rename_i hus
            rw [Bool.and_eq_true] at hall
            have hil : i < ρ'.length := of_decide_eq_true hall.1
            replace hall := hall.2
            · have hn : (ρ'.set i none)[i]? = some none := List.getElem?_set_self hil
              have b3 := b1.setAny (s := some (.ref a)) hn
              have hall2 : (u.all fun p => (p.2.atom).isSome && decide (p.1 < (ρ'.set i none).length)) = true := by simpa using hall
              obtain ⟨σ2, fps2, c1, c2, c3, c4⟩ := RE.ups b3 gr0 hall2
              have p0 : Pn us vs (σ'.set i (some (.ref a))) := a3.set hiu
              have p1 := Pn.ups p0 (fun p m => by simpa using List.all_eq_true.mp hus p m) c1
              refine ⟨e, F', u, σ2, xx, List.getElem?_set_self (by rw [← hlen]; exact hil), q2, c1, ?_⟩
              obtain ⟨g3, r3, d1, d2⟩ := c2.drop i
              have d3 : RE mg F' H' ((envU u ρ').set i none) (σ2.set i none) r3 := by
                have e5 : (envU u (ρ'.set i none)).set i none = (envU u ρ').set i none := by
                  have : ∀ (u : Ups) (ρ1 ρ2 : Env), ρ1.length = ρ2.length → (∀ j, j ≠ i → ρ1[j]? = ρ2[j]?) → (envU u ρ1).set i none = (envU u ρ2).set i none := by
                    intro u
                    induction u with
                    | nil =>
                      intro ρ1 ρ2 hl hj
                      refine List.ext_getElem? fun j => ?_
                      show (ρ1.set i none)[j]? = (ρ2.set i none)[j]?
                      by_cases h : i = j
                      · subst h
                        by_cases hh : i < ρ1.length
                        · rw [List.getElem?_set_self hh, List.getElem?_set_self (by omega)]
                        · rw [List.getElem?_eq_none (by simp; omega), List.getElem?_eq_none (by simp; omega)]
                      · rw [List.getElem?_set_ne h, List.getElem?_set_ne h]
                        exact hj j (Ne.symm h)
                    | cons p r ih =>
                      intro ρ1 ρ2 hl hj
                      obtain ⟨k, d⟩ := p
                      refine ih _ _ (by simpa using hl) fun j hh => ?_
                      by_cases h : k = j
                      · subst h
                        by_cases hk : k < ρ1.length
                        · rw [List.getElem?_set_self hk, List.getElem?_set_self (by omega)]
                        · rw [List.getElem?_eq_none (by simp; omega), List.getElem?_eq_none (by simp; omega)]
                      · rw [List.getElem?_set_ne h, List.getElem?_set_ne h]
                        exact hj j hh
                  exact this u _ _ (by simp) fun j hh => List.getElem?_set_ne (Ne.symm hh)
                rw [e5] at d1
                refine d1.setAny ?_
                have : i < (envU u ρ').length := by rw [envU_len]; exact hil
                exact List.getElem?_set_self this
              exact hP _ F' H' r3 d3 (c3.perm d2).right (p1.set hiu) (a4.trans (Rch.refl.sub fun z m => b2.mem_iff.mpr (List.mem_append_right _ (c4 z (d2.mem_iff.mpr (List.mem_append_right _ m))))))
          · exact hP.elim
      · subst hb1
        exact hP (.ref C) dd σ' F' H' fps' xx a1 a2 a3 a4
  | nx ρ' => rw [q] at hP; exact hP
  | bk ρ' => rw [q] at hP; exact hP
  | ct ρ' => rw [q] at hP; exact hP
  | rt d ρ' => rw [q] at hP; exact hP
  | bad => rw [q] at hP; exact hP
end
section
variable {ρ : Env}
theorem es_tryA {us : List Nat} {i : Nat} {b : S} {l : List (Str × Bool)} {f : Ex → Option Ups} : sTryA us i b l f ρ = (b ρ).thX (sHandA us i l f) := by
  unfold sTryA SR.thX
  cases b ρ <;> rfl
end
end VL
namespace VL
open PySem PySem.Spec PyProof.Rows L2
abbrev uSet (j : Nat) (f : Ex → Option D) : Ex → Option Ups := fun e => (f e).map fun d => [(j, d)]
abbrev uNil : Ex → Option Ups := fun _ => some []
abbrev uSeq (i : Nat) (f g : Ex → Option Ups) : Ex → Option Ups := fun e => (f e).bind fun u => if (u.all fun p => p.1 != i) = true then (g e).map fun w => u ++ w else none
abbrev uIf (g : Ex → Option Bool) (f1 f2 : Ex → Option Ups) : Ex → Option Ups := fun e => (g e).bind fun b => if b then f1 e else f2 e
abbrev uC (d : D) : Ex → Option D := fun _ => some d
abbrev uIfE (g : Ex → Option Bool) (f1 f2 : Ex → Option D) : Ex → Option D := fun e => (g e).bind fun b => if b then f1 e else f2 e
abbrev uIsi (l : List (Str × Bool)) : Ex → Option D := fun e => (l.lookup e.c).map .bl
abbrev uFld (f : Str) : Ex → Option D := fun e => e.fs.lookup f
abbrev uTru (f : Ex → Option D) : Ex → Option Bool := fun x => (f x).bind fun d => match d with | .bl b => some b | _ => none
abbrev uAnd (f g : Ex → Option Bool) : Ex → Option Bool := fun e => (f e).bind fun b => if b then g e else some false
abbrev uNot (f : Ex → Option Bool) : Ex → Option Bool := fun e => (f e).map (!·)
section
variable {K : PySem.W.Frag} {mg : MG}
theorem exm_nil {c : Value} : ExM K mg c [] := fun x b h => nomatch h
theorem exm_cons {c : Value} {x : Str} {b : Bool} {C : Addr} {l : List (Str × Bool)} (h1 : mg x = some (.ref C)) (h2 : PySem.W.exmOne K (.ref C) c = some b) (h : ExM K mg c l) : ExM K mg c ((x, b) :: l) := fun y d e => by
  rw [List.lookup_cons] at e
  split at e
  · rename_i q
    cases e
    rw [beq_iff_eq.mp q]
    exact ⟨C, h1, h2⟩
  · exact h y d e
theorem exi_nil {c : Value} : ExI K mg c [] := fun x b h => nomatch h
theorem exi_cons {c : Value} {x : Str} {b : Bool} {C : Addr} {l : List (Str × Bool)} (h1 : mg x = some (.ref C)) (h2 : ExcC K C) (h3 : PySem.W.kitOne K (.ref C) c = some b) (h : ExI K mg c l) : ExI K mg c ((x, b) :: l) := fun y d e => by
  rw [List.lookup_cons] at e
  split at e
  · rename_i q
    cases e
    rw [beq_iff_eq.mp q]
    exact ⟨C, h1, h2, h3⟩
  · exact h y d e
/-- what the head looks up for isinstance of an exception -/
def excB (K : PySem.W.Frag) (x : Str) : Bool :=
  He.eqO (PySem.W.findIn K (.ref (He.ga K x)) "__getattribute__") (some (some (.builtin "BaseException.__getattribute__"))) && (He.eqO (PySem.W.findIn K (.ref (He.ga K x)) "__getattr__") (some none) &&
  (decide (PySem.W.subIn K (.ref (He.ga K x)) (.type "BaseException") = some true) && (PySem.W.hasDictIn K (He.ga K x) && (He.eqO (PySem.W.findIn K (.ref (He.ga K x)) "__class__") (some (some (.builtin "object.__class__"))) &&
  (He.eqO (PySem.W.specialIn K (.builtin "object.__class__") "__get__") (some (some (.builtin "getset_descriptor.__get__"))) && (decide (PySem.W.takesIn K (.builtin "object.__class__") = some true) && decide (PySem.W.mroIn K (He.ga K x) (.type "object") = some true)))))))
theorem excB_ok {x : Str} (h : excB K x = true) : ExcC K (He.ga K x) := by
  obtain ⟨h1, h⟩ := He.ba h
  obtain ⟨h2, h⟩ := He.ba h
  obtain ⟨h3, h⟩ := He.ba h
  obtain ⟨h4, h⟩ := He.ba h
  obtain ⟨h5, h⟩ := He.ba h
  obtain ⟨h6, h⟩ := He.ba h
  obtain ⟨h7, h8⟩ := He.ba h
  exact ⟨He.eqO_ok h1, He.eqO_ok h2, of_decide_eq_true h3, h4, He.eqO_ok h5, He.eqO_ok h6, of_decide_eq_true h7, of_decide_eq_true h8⟩
end
end VL

set_option Elab.async false
set_option linter.all false
set_option maxRecDepth 100000
set_option maxHeartbeats 2000000
namespace VE
open PySem PySem.Spec PyProof.Rows L2 LamX
/-! ### the law's own call, at the caller's surroundings: no guard stands, the tables of its code are its own -/
def RunAt (P : Program) (w : World) (K : PySem.W.Frag) (mg : Str → Option Value) (base : Heap) (CX : CXT) (A : Around) (f : Addr) (fd : FuncData) (ps : List Str) (sp : Sp) : Prop :=
  ∀ (s : Shared) (H : Hp) (args : Args) (us : List Value) (vs : List V) (Q : VK) (E : XK), Env0 P w K mg base A [] s H → BindsTo s fd args (ps.zip us) → Vals vs us → sp vs H Q E → codeAny (model P w) A (.call (.ref f) args) (CR CX [] P w H s Q E) s
/-- what is tracked when the law begins -/
def topH (fz : Bool) (sc : Addr) (ob : Obj) (ns : List Int) (ts : List Addr) : Hp := fun b =>
  if b ∈ ts then some (.tbl #[]) else if fz = true ∧ b = sc then some (.frz ob (.lst (ns.map V.int))) else none
section
variable {fz : Bool} {sc : Addr} {ob : Obj} {ns : List Int} {ts : List Addr}
theorem topH_tab {b : Addr} (m : b ∈ ts) : topH fz sc ob ns ts b = some (.tbl #[]) := by unfold topH; rw [if_pos m]
theorem topH_sc (n : sc ∉ ts) : topH true sc ob ns ts sc = some (.frz ob (.lst (ns.map V.int))) := by unfold topH; rw [if_neg n, if_pos ⟨rfl, rfl⟩]
theorem topH_cases (b : Addr) : (topH fz sc ob ns ts b = some (.tbl #[]) ∧ b ∈ ts) ∨ (topH fz sc ob ns ts b = some (.frz ob (.lst (ns.map V.int))) ∧ fz = true ∧ b = sc) ∨ topH fz sc ob ns ts b = none := by
  unfold topH
  by_cases m : b ∈ ts
  · exact .inl ⟨if_pos m, m⟩
  · rw [if_neg m]
    by_cases e : fz = true ∧ b = sc
    · exact .inr (.inl ⟨if_pos e, e⟩)
    · exact .inr (.inr (if_neg e))
end
section
variable {P : Program} {w : World} {K : PySem.W.Frag} {mg mb : Str → Option Value} {CX : CXT} {fa sc : Addr} {cs : List (Addr × Addr)} {fd : FuncData} {x : Str} {sp : Sp} {s₁ : Shared} {vs : List Value} {ns : List Int}
abbrev scO (vs : List Value) : Obj := { cls := .type "list", data := .seq vs.toArray }
abbrev tbO : Obj := { cls := .none, data := .fields #[] }
theorem top_run (KX : K.In s₁.heap) (gl : s₁.heap.Ns mainGlobals mg) (bl : s₁.heap.Ns builtinsNs mb) (bb : ∀ x : Str, x ≠ "__name__" → mb x = bootBuiltins x) (lim : s₁.heap.NoLimit) (gens : s₁.gens = #[])
    (tab : ∀ p ∈ cs, s₁.heap.get? p.2 = some tbO) (tabK : ∀ p ∈ cs, K.lookup p.2 = none) (code : ∀ p ∈ cs, PySem.W.CodeHd s₁.heap p.1 p.2)
    (main : ∃ (bm : Addr) (ob : Obj), mg "__builtins__" = some (.ref bm) ∧ bm ≠ builtinsNs ∧ s₁.heap.get? bm = some ob ∧ ob.cls = .type "module" ∧ ob.dict = some builtinsNs ∧ ob.data = .plain)
    (script : s₁.heap.get? sc = some (scO vs)) (isI : IntsAre vs ns) (len : ns.length ≤ sizeLine)
    (F : ∀ base : Heap, K.In base → base.Ns mainGlobals mg → (∀ p ∈ cs, TabB base mg p.1 p.2) → RunAt P w K mg base CX callerA fa fd [x] sp) (bind : ∀ (s : Shared) (u : Value), BindsTo s fd ⟨[u], []⟩ [(x, u)])
    (good : ∀ H : Hp, (∀ p ∈ cs, H p.2 = some (.tbl #[])) → SqL K H sc (ns.map V.int) → sp [.ref sc] H (fun v _ => v = .bl true) fun _ _ _ => False)
    (noX : ∀ H e s', CX [] H s₁ (fun _ _ _ => False) e s' → False) :
    codeAny (model P w) callerA (.call (.ref fa) ⟨[.ref sc], []⟩) (fun r s' => r = .ok (.ret (.bool true)) ∧ OldK s₁.heap s'.heap ∧ s'.os = s₁.os ∧ AllBare s'.gens) s₁ := by
  obtain ⟨ts, ets⟩ : ∃ ts, ts = cs.map (·.2) := ⟨_, rfl⟩
  have inT : ∀ p ∈ cs, p.2 ∈ ts := fun p hp => ets ▸ List.mem_map.mpr ⟨p, hp, rfl⟩
  have ofT : ∀ b ∈ ts, ∃ p ∈ cs, p.2 = b := fun b hb => List.mem_map.mp (ets ▸ hb)
  have tabT : ∀ b ∈ ts, s₁.heap.get? b = some tbO := fun b hb => by
    obtain ⟨p, hp, rfl⟩ := ofT b hb
    exact tab p hp
  have scT : sc ∉ ts := fun hb => by
    have e := (tabT sc hb).symm.trans script
    cases e
  obtain ⟨H, eH⟩ : ∃ H, H = topH (K.lookup sc).isNone sc (scO vs) ns ts := ⟨_, rfl⟩
  have cases3 : ∀ b, (H b = some (.tbl #[]) ∧ b ∈ ts) ∨ (H b = some (.frz (scO vs) (.lst (ns.map V.int))) ∧ (K.lookup sc).isNone = true ∧ b = sc) ∨ H b = none := fun b => eH ▸ topH_cases b
  have vals := vals_ints isI
  -- untracked things stand in the ground
  have ground : ∀ {b : Addr} {o : Obj}, s₁.heap.get? b = some o → o ≠ tbO → b ≠ sc → H b = none := fun {b o} e n1 n2 => by
    rcases cases3 b with ⟨_, m⟩ | ⟨_, _, m⟩ | z
    · exact absurd (Option.some.inj (e.symm.trans (tabT b m))) n1
    · exact absurd m n2
    · exact z
  have dictG : ∀ {b : Addr} {o : Obj} {es : Array DictEntry} {ep : Nat}, s₁.heap.get? b = some o → o.data = .dict es ep → H b = none := fun {b o es ep} e d => ground e (fun z => by rw [z] at d; cases d) fun z => by
    rw [z, script] at e
    cases e
    cases d
  have look : ∀ {b : Addr} {o : Obj}, s₁.heap.get? b = some o → H b = none → (hidT s₁.heap H).get? b = some o := fun e n => hidT_get e n
  have nsG : ∀ {b : Addr} {m : Str → Option Value}, s₁.heap.Ns b m → (hidT s₁.heap H).Ns b m := fun {b m} z => by
    obtain ⟨o, es, ep, e, d, r⟩ := z
    exact ⟨o, es, ep, look e (dictG e d), d, r⟩
  have inG : K.In (hidT s₁.heap H) := fun b o e => look (KX b o e) (by
    rcases cases3 b with ⟨_, m⟩ | ⟨_, q, m⟩ | z
    · obtain ⟨p, hp, rfl⟩ := ofT b m
      rw [tabK p hp] at e
      cases e
    · rw [m] at e
      rw [e] at q
      cases q
    · exact z)
  have modG : L2.Mod K mg (hidT s₁.heap H) := ⟨inG, nsG gl, ⟨mb, nsG bl, bb⟩, lim.elim fun mc z => ⟨mc, nsG z.1, z.2⟩⟩
  have tabG : ∀ p ∈ cs, TabB (hidT s₁.heap H) mg p.1 p.2 := fun p hp => by
    constructor
    · obtain ⟨o, us, file, tf, flags, tg, inF, text, tt, e1, r1, r2, r3, rest⟩ := code p hp
      refine ⟨o, us, file, tf, flags, tg, inF, text, tt, look e1 (ground e1 (fun z => ?_) fun z => ?_), r1, r2, r3, rest⟩
      · rw [z] at r2
        cases r2
        cases r3
      · rw [z, script] at e1
        cases e1
        cases r2
    · obtain ⟨bm, ob, b1, b2, b3, b4, b5, b6⟩ := main
      refine ⟨bm, ob, b1, b2, fun z => ?_, fun z => ?_, look b3 (ground b3 (fun z => ?_) fun z => ?_), b4, b5, b6⟩
      · obtain ⟨o, es, ep, e, d, _⟩ := gl
        rw [z, e] at b3
        cases b3
        rw [d] at b6
        cases b6
      · rw [z, tab p hp] at b3
        cases b3
        cases b6
      · rw [z] at b6
        cases b6
      · rw [z, script] at b3
        cases b3
        cases b6
    · intro z
      obtain ⟨o, es, ep, e, d, _⟩ := gl
      rw [z, tab p hp] at e
      cases e
      cases d
  have okG : HOk P w H s₁.heap := fun b u e => by
    rcases cases3 b with ⟨z, m⟩ | ⟨z, _, m⟩ | z
    · rw [z] at e
      cases e
      exact tabT b m
    · rw [z] at e
      cases e
      subst m
      exact ⟨script, by rw [List.length_map]; exact len, vs, _, vals, script⟩
    · rw [z] at e
      cases e
  have env : Env0 P w K mg (hidT s₁.heap H) callerA [] s₁ H := ⟨rfl, modG, fun b o e => of_hidT e, Nat.le_of_eq (hidT_size _ _), trivial, (fun b hb => nomatch (show b ∈ ([] : List Addr) from hb)), okG, .of_eq gens⟩
  have scS : SqL K H sc (ns.map V.int) := by
    cases q : K.lookup sc with
    | some o =>
      have e := (KX sc o q).symm.trans script
      cases e
      exact .inr ⟨_, vs.toArray, _, q, rfl, rfl, rfl, by rw [List.size_toArray, isI.length]; exact len, by simpa using vals⟩
    | none =>
      refine .inl (.inr ⟨scO vs, ?_⟩)
      rw [eH, q]
      exact topH_sc scT
  have tabH : ∀ p ∈ cs, H p.2 = some (.tbl #[]) := fun p hp => by rw [eH]; exact topH_tab (inT p hp)
  refine codeAny_mono (F _ inG (nsG gl) tabG s₁ H ⟨[.ref sc], []⟩ [.ref sc] [.ref sc] _ _ env (bind s₁ (.ref sc)) (.cons rfl .nil) (good H tabH scS)) fun r s' z => ?_
  match r, z with
  | .error e, z => exact (noX H e s' z).elim
  | .ok .next, z => exact z.elim
  | .ok .brk, z => exact z.elim
  | .ok .cont, z => exact z.elim
  | .ok (.ret u), z =>
    obtain ⟨v, H', os, bare, un, ok', rv, ev⟩ := z
    have ev : v = .bl true := ev
    rw [ev] at rv
    have eu : u = Value.bool true := rv
    have stay : ∀ b o, b ∉ ts → s₁.heap.get? b = some o → s'.heap.get? b = some o := fun b o nb e => by
      rcases cases3 b with ⟨_, m⟩ | ⟨q, _, _⟩ | q
      · exact absurd m nb
      · have q2 := un.frzs b _ _ q
        have e1 := (okG b _ q).1
        rw [e] at e1
        rw [Option.some.inj e1]
        exact (ok' b _ q2).1
      · exact un.keep b o e q (fun m => nomatch (show b ∈ ([] : List Addr) from m)) fun m => nomatch m
    have grow : ∀ b ∈ ts, ∃ more : Array Value, s'.heap.get? b = some { cls := .none, data := .fields more } := fun b hb => by
      obtain ⟨p, hp, rfl⟩ := ofT b hb
      obtain ⟨more, q⟩ := un.tbls p.2 #[] (tabH p hp)
      exact ⟨_, ok' p.2 _ q⟩
    refine ⟨by rw [eu], ⟨fun b o e => ?_, fun b o e => ?_⟩, os, bare⟩
    · by_cases hb : b ∈ ts
      · obtain ⟨more, q⟩ := grow b hb
        have e1 := (tabT b hb).symm.trans e
        cases e1
        obtain ⟨p, hp, rfl⟩ := ofT b hb
        exact .inr (.inl ⟨((code p hp).tab (tab p hp)).isCodeTable, rfl, #[], more, rfl, by rw [Array.empty_append]; exact q⟩)
      · exact .inl (stay b o hb e)
    · by_cases hb : b ∈ ts
      · exact (grow b hb).elim fun more q => ⟨_, q⟩
      · exact ⟨o, stay b o hb e⟩
end
end VE

set_option Elab.async false
set_option linter.all false
set_option maxRecDepth 100000
set_option maxHeartbeats 2000000
namespace VL
open PySem PySem.Spec PyProof.Rows L2
/-! ### repr of a list or a tuple, where no guard stands -/
def shownD (p : PyData) : Option D := if p.showable && !p.hasDict && decide (p.shown.length < big) && decide (p.depth ≤ 40) then some (.str p.shown) else none
def fRepr : List D → Option D
  | [.tup xs] => (pyL xs).bind fun ps => shownD (.tuple ps)
  | [.lst _ xs] => (pyL xs).bind fun ps => shownD (.list ps)
  | _ => none
def rRepr (K : PySem.W.Frag) : List V → Hp → VK → Prop := fun xs H Q => ∃ a p, xs = [.ref a] ∧ Dp K H (.ref a) p ∧ p.showable = true ∧ p.hasDict = false ∧ p.shown.length < big ∧ p.depth ≤ 40 ∧ Q (.str p.shown) H
theorem call_repr {X : Cx} (hg : X.A.guards = some []) (hu : X.A.units + 64 < cLine) : CallR X (.builtin "repr") (rRepr X.K) := by
  intro pins s σ H xs us Q I r h
  obtain ⟨a, p, rfl, hp, h1, h2, h3, h4, q⟩ := h
  cases r with
  | cons rx rr =>
    cases rr
    obtain ⟨as, rd⟩ := Dp.reads I p _ _ hp rx
    cases rx
    refine repr_of_reads' rd h1 (fun z => by rw [h2] at z; cases z) hg (by omega) (fun _ _ e => e) (fun h' u tk k => ?_) (Nat.le_of_lt (Nat.lt_trans h3 big_line))
    exact ⟨.str p.shown, H, I.kept (t' := tk) k, ⟨u, rfl⟩, q⟩
theorem shownD_ok {p : PyData} {d : D} (h : shownD p = some d) : p.showable = true ∧ p.hasDict = false ∧ p.shown.length < big ∧ p.depth ≤ 40 ∧ d = .str p.shown := by
  unfold shownD at h
  split at h
  · rename_i c
    cases h
    simp only [Bool.and_eq_true, Bool.not_eq_true', decide_eq_true_eq] at c
    exact ⟨c.1.1.1, c.1.1.2, c.1.2, c.2, rfl⟩
  · cases h
theorem ops_repr {mg : MG} : OpSL mg (rRepr mg.K) fRepr := by
  intro F H fps vs ds d' Q g b h q
  unfold fRepr at h
  split at h
  · obtain ⟨ps, e1, e2⟩ := Option.bind_eq_some_iff.mp h
    obtain ⟨h1, h2, h3, h4, rfl⟩ := shownD_ok e2
    cases b with
    | cons b bs =>
      cases bs
      obtain ⟨a, ys, rfl, e, r⟩ := b.tup
      exact ⟨a, _, rfl, b.dp (by rw [D.py, e1]; rfl), h1, h2, h3, h4, q.str g⟩
  · obtain ⟨ps, e1, e2⟩ := Option.bind_eq_some_iff.mp h
    obtain ⟨h1, h2, h3, h4, rfl⟩ := shownD_ok e2
    cases b with
    | cons b bs =>
      cases bs
      obtain ⟨a, ys, fq, rfl, e, r⟩ := b.lst
      exact ⟨a, _, rfl, b.dp (by rw [D.py, e1]; rfl), h1, h2, h3, h4, q.str g⟩
  · cases h
/-! ### the law's def at its caller -/
section
variable {P : Program} {w : World} {K : PySem.W.Frag} {mg : Str → Option Value} {base : Heap} {x qual : Str} {st : Stmt} {f : Addr} {fd : FuncData} {N ps : List Str} {k : Nat} {A : Around}
theorem deeper_guards {A : Around} {env : PySem.Env} : (A.deeper env).guards = A.guards := rfl
theorem def_top (Fn : Fun K x qual st f fd) (Sc : FnScope N ps (defScope st)) (us : List Nat) (body : S) (hA : Room (k + 1) A) (hgd : A.guards = some [])
    (hb : ∀ (cdv : Value) (outer : List PySem.Env) (s : Shared) (H : Hp) (E : XK) (vs : List V), Room k (cxOf (L2.CX P w) P w K mg base N qual (defScope st) f cdv A outer s H E).A → (cxOf (L2.CX P w) P w K mg base N qual (defScope st) f cdv A outer s H E).A.guards = some [] →
      PSs (cxOf (L2.CX P w) P w K mg base N qual (defScope st) f cdv A outer s H E) (defBody st) (vS ⟨mg, K⟩ (fun cls d _ H => E cls d H) us vs body)) :
    VE.RunAt P w K mg base (L2.CX P w) A f fd ps (spV ⟨mg, K⟩ (runDef ps.length N.length us body)) := by
  intro s H args us' vs Q E e0 hbd r h
  obtain ⟨oc, od, kV, doc, pm, an, cdv, ct, osl, rfl, lk, hcd⟩ := Fn.ex
  exact LamX.run_ofS lk hcd Sc hA e0 hbd r (run_len h) fun hr => ⟨_, hb cdv [] s H E vs hr hgd, def_core Sc h⟩
end
end VL
namespace VE
open PySem PySem.Spec PyProof.Rows L2 LamX
theorem noX {P : Program} {w : World} (H : Hp) (s : Shared) (e : Value) (s' : Shared) (c : L2.CX P w [] H s (fun _ _ _ => False) e s') : False := by
  obtain ⟨a, B, H', cls, d, _, _, _, _, _, _, _, z⟩ := c
  exact z
theorem script_sp2 {mg : VL.MG} {H : Hp} {a : Addr} {ns : List Int} {g : List VL.D → VL.Out} {as : List VL.D} (hS : SqL mg.K H a (ns.map V.int)) (h : g [.scr ns] = .ret (.bl true) as) : VL.spV mg g [.ref a] H (fun v _ => v = .bl true) fun _ _ _ => False := by
  refine ⟨fun b => H b ≠ none, [.scr ns], [], .cons (fp := []) (.scr (hS.symm.imp (fun q => q) fun q => ⟨VL.Rd.trk q, q⟩)) .nil, ⟨List.nodup_nil, (fun _ m => nomatch m), fun _ f => f, (fun _ m => nomatch m)⟩, ?_⟩
  rw [h]
  intro v F' H' fp fps' r _ _ _
  cases r
  rfl
/-- a law's end, its def told of at its caller -/
theorem walk_top {l : PySem.W.OpenLaw} {n : Nat} {q : Program} {loose : List Str} {XP : (Str → Option Value) → Heap → Prop} {YP : World → Heap → Prop} {d : DefRec} {x : Str}
    (hn : l.most = some n) (hn2 : n ≤ sizeLine) (hdf : d.params.defaults = [])
    (F : ∀ (w : World) (mg : Str → Option Value) (fa : Addr) (h : Heap), YP w h → h.Ns mainGlobals mg → mg d.name = some (.ref fa) →
      ∃ (K : PySem.W.Frag) (fd : FuncData) (sp : Sp), K.In h ∧ (∀ (s : Shared) (u : Value), BindsTo s fd ⟨[u], []⟩ [(x, u)]) ∧
        (∀ (H : Hp) (a : Addr) (ns : List Int), ns.length ≤ n → SqL K H a (ns.map V.int) → sp [.ref a] H (fun v _ => v = .bl true) fun _ _ _ => False) ∧
        ∀ base : Heap, K.In base → base.Ns mainGlobals mg → RunAt l.prog w K mg base (L2.CX l.prog w) callerA fa fd [x] sp) :
    PySem.W.WalkO q loose XP YP l.row.toRowW d [] (fun f vs => PySem.call f vs) := by
  refine Att.attach_call hn hdf fun w s₀ s₁ mg mb fa o pm cd doc a vs ns G Y ho hd hcd hmg script isI hlen gens => ?_
  obtain ⟨K, fd, sp, KX, bind, good, run⟩ := F w mg fa _ Y G.T.g hmg
  exact top_run (cs := []) KX G.T.g G.T.b G.T.builtins G.T.nolimit gens (fun _ m => nomatch m) (fun _ m => nomatch m) (fun _ m => nomatch m) G.T.bmain script isI (Nat.le_trans hlen hn2) (fun base i g _ => run base i g) bind
    (fun H _ hS => good H a ns hlen hS) fun H e s' => noX H s₁ e s'
end VE

set_option Elab.async false
set_option linter.all false
set_option maxRecDepth 100000
set_option maxHeartbeats 2000000
namespace VL
open PySem PySem.Spec PyProof.Rows L2 LamX
/-! ### f(lambda: e), f a def that calls what it gets -/
theorem TabOf.uniq {mg : MG} {P P' : Addr} (h : TabOf mg P) (h' : TabOf mg P') : P = P' := by
  obtain ⟨f, o, fd, c, o2, vs, a1, a2, a3, a4, a5, a6, a7⟩ := h
  obtain ⟨f', o', fd', c', o2', vs', b1, b2, b3, b4, b5, b6, b7⟩ := h'
  rw [a1] at b1; cases b1
  rw [a2] at b2; cases b2
  rw [a3] at b3; cases b3
  rw [a4] at b4; cases b4
  rw [a5] at b5; cases b5
  rw [a6] at b6; cases b6
  rw [a7] at b7; cases b7
  rfl
section
variable {mg : MG} {F : FS} {H H1 : Hp} {P : Addr}
/-- what is owned is no code object, no table but the law's -/
def NoX (mg : MG) (H : Hp) (a : Addr) : Prop := ∃ o, H a = some o ∧ (∀ φ, o ≠ .ext φ) ∧ ((∃ ps, o = .tbl ps) → TabOf mg a)
theorem nox_of {a : Addr} {o : HO} (e : H a = some o) (h : ∀ φ, o ≠ .ext φ) (h2 : ∀ ps, o ≠ .tbl ps) : NoX mg H a := ⟨o, e, h, fun ⟨ps, z⟩ => absurd z (h2 ps)⟩
mutual
theorem R.nox : ∀ {v : V} {d : D} {fp : List Addr}, R mg F H v d fp → ∀ a ∈ fp, NoX mg H a
  | _, _, _, .non, _, h => nomatch h
  | _, _, _, .bl b, _, h => nomatch h
  | _, _, _, .int i, _, h => nomatch h
  | _, _, _, .str x, _, h => nomatch h
  | _, _, _, .ty n, _, h => nomatch h
  | _, _, _, .cls _, _, h => nomatch h
  | _, _, _, .scr _, _, h => nomatch h
  | _, _, _, .tup _ _, _, h => nomatch h
  | _, _, _, .ptp _ _ _ _, _, h => nomatch h
  | _, _, _, .tabF, _, h => nomatch h
  | _, _, _, .tabO t e _ _, a, h => by
    rcases List.mem_cons.mp h with rfl | h
    · exact ⟨_, e, (fun φ z => nomatch z), fun _ => t⟩
    · cases h
  | _, _, _, .lstF _ _ _, _, h => nomatch h
  | _, _, _, .lstO e r, a, h => by
    rcases List.mem_cons.mp h with rfl | h
    · exact nox_of e (fun _ z => nomatch z) fun _ z => nomatch z
    · exact r.nox a h
  | _, _, _, .dctF _ _ _ _ _, _, h => nomatch h
  | _, _, _, .dctO e o _ r, a, h => by
    rcases List.mem_cons.mp h with rfl | h
    · refine nox_of e (fun φ z => ?_) fun ps z => ?_
      · rcases o with ⟨_, l, q, _⟩ | ⟨_, l, q, _⟩ <;> (rw [q] at z; cases z)
      · rcases o with ⟨_, l, q, _⟩ | ⟨_, l, q, _⟩ <;> (rw [q] at z; cases z)
    · exact r.nox a h
  | _, _, _, .insF _ _ _ _ _, _, h => nomatch h
  | _, _, _, .insO e _ _ r, a, h => by
    rcases List.mem_cons.mp h with rfl | h
    · exact nox_of e (fun _ z => nomatch z) fun _ z => nomatch z
    · exact r.nox a h
theorem Rs.nox : ∀ {vs : List V} {ds : List D} {fp : List Addr}, Rs mg F H vs ds fp → ∀ a ∈ fp, NoX mg H a
  | _, _, _, .nil, _, h => nomatch h
  | _, _, _, .cons r rs, a, h => by
    rcases List.mem_append.mp h with h | h
    · exact r.nox a h
    · exact rs.nox a h
end
theorem RE.nox : ∀ {ρ : Env} {σ : L2.St} {fp : List Addr}, RE mg F H ρ σ fp → ∀ a ∈ fp, NoX mg H a
  | _, _, _, .nil, _, h => nomatch h
  | _, _, _, .skip r, a, h => r.nox a h
  | _, _, _, .cons r rs, a, h => by
    rcases List.mem_append.mp h with h | h
    · exact r.nox a h
    · exact rs.nox a h
/-- from H to H1, where the law's table has grown -/
structure Grow (mg : MG) (F F1 : FS) (H H1 : Hp) (P : Addr) : Prop where
  ext : ExtN H H1
  of : TabOf mg P
  fz : ∀ a o, F a → H a = some o → (∀ ps, o ≠ .tbl ps) → F1 a
  co : ∀ c, H1 c = some (CodeO c lamQ) → F1 c
  tab : TabS H1 P lamQ
theorem rd_grow {a : Addr} {u : HO} (x : ExtN H H1) (h : Rd H a u) (n : ∀ ps, u ≠ .tbl ps) : Rd H1 a u := by
  rcases h with h | ⟨o, h⟩
  · exact .inl (x _ _ h n)
  · exact .inr ⟨o, x _ _ h fun ps z => nomatch z⟩
theorem dho_ntbl {t : Bool} {o : HO} {kvs : List (DK × V)} (h : DHO t o kvs) : ∀ ps, o ≠ .tbl ps := fun ps z => by
  rcases h with ⟨_, l, q, _⟩ | ⟨_, l, q, _⟩ <;> (rw [q] at z; cases z)
theorem fz_rd {F1 : FS} (g : Grow mg F F1 H H1 P) {a : Addr} {u : HO} (f : F a) (h : Rd H a u) (n : ∀ ps, u ≠ .tbl ps) : F1 a := by
  rcases h with h | ⟨o, h⟩
  · exact g.fz a _ f h n
  · exact g.fz a _ f h fun ps z => nomatch z
mutual
theorem R.grow {F1 : FS} (g : Grow mg F F1 H H1 P) : ∀ {v : V} {d : D} {fp : List Addr}, R mg F H v d fp → R mg F1 H1 v d fp
  | _, _, _, .non => .non
  | _, _, _, .bl b => .bl b
  | _, _, _, .int i => .int i
  | _, _, _, .str x => .str x
  | _, _, _, .ty n => .ty n
  | _, _, _, .cls m => .cls m
  | _, _, _, .scr e => .scr (e.imp_right fun ⟨f, q⟩ => ⟨fz_rd g f q (fun _ z => nomatch z), rd_grow g.ext q fun _ z => nomatch z⟩)
  | _, _, _, .tup e r => .tup (g.ext _ _ e fun _ z => nomatch z) (r.grow g)
  | _, _, _, .ptp f e o r => .ptp (g.fz _ _ f e fun _ z => nomatch z) (g.ext _ _ e fun _ z => nomatch z) o (r.grow g)
  | _, _, _, .tabF => .tabF
  | _, _, _, .tabO t e ok h => by
    have := t.uniq g.of
    subst this
    obtain ⟨ps, h1, h2, h3⟩ := g.tab
    exact .tabO t h1 h2 fun pos cv m => by
      obtain ⟨c, e1, e2⟩ := h3 pos cv m
      exact ⟨c, e1, g.co c e2, e2⟩
  | _, _, _, .lstF f e r => .lstF (fz_rd g f e fun _ z => nomatch z) (rd_grow g.ext e fun _ z => nomatch z) (r.grow g)
  | _, _, _, .lstO e r => .lstO (g.ext _ _ e fun _ z => nomatch z) (r.grow g)
  | _, _, _, .dctF f e o q r => .dctF (fz_rd g f e (dho_ntbl o)) (rd_grow g.ext e (dho_ntbl o)) o q (r.grow g)
  | _, _, _, .dctO e o q r => .dctO (g.ext _ _ e (dho_ntbl o)) o q (r.grow g)
  | _, _, _, .insF f e m q r => .insF (g.fz _ _ f e fun _ z => nomatch z) (g.ext _ _ e fun _ z => nomatch z) m q (r.grow g)
  | _, _, _, .insO e m q r => .insO (g.ext _ _ e fun _ z => nomatch z) m q (r.grow g)
theorem Rs.grow {F1 : FS} (g : Grow mg F F1 H H1 P) : ∀ {vs : List V} {ds : List D} {fp : List Addr}, Rs mg F H vs ds fp → Rs mg F1 H1 vs ds fp
  | _, _, _, .nil => .nil
  | _, _, _, .cons r rs => .cons (r.grow g) (rs.grow g)
end
theorem RE.grow {F1 : FS} (g : Grow mg F F1 H H1 P) : ∀ {ρ : Env} {σ : L2.St} {fp : List Addr}, RE mg F H ρ σ fp → RE mg F1 H1 ρ σ fp
  | _, _, _, .nil => .nil
  | _, _, _, .skip r => .skip (r.grow g)
  | _, _, _, .cons r rs => .cons (r.grow g) (rs.grow g)
/-- the table in a slot -/
theorem RE.tab {ρ : Env} {σ : L2.St} {fps : List Addr} {j : Nat} (hE : RE mg F H ρ σ fps) (h : ρ[j]? = some (some (.tab true))) (t : TabOf mg P) : TabS H P lamQ ∧ P ∈ fps := by
  obtain ⟨v, fq, _, r, m⟩ := hE.get h
  cases r with
  | tabO t' e ok h =>
    have := t'.uniq t
    subst this
    exact ⟨⟨_, e, ok, fun pos cv q => by
      obtain ⟨c, e1, _, e3⟩ := h pos cv q
      exact ⟨c, e1, e3⟩⟩, m _ List.mem_cons_self⟩
/-- the law's frame, behind the making of a lambda -/
theorem grow_ok {ρ : Env} {σ : L2.St} {fps : List Addr} (hE : RE mg F H ρ σ fps) (hG : Gd F H fps) (t : TabOf mg P) (mP : P ∈ fps) (x : ExtN H H1) (tb : TabS H1 P lamQ) :
    ∃ F1, RE mg F1 H1 ρ σ fps ∧ Gd F1 H1 fps ∧ Grow mg F F1 H H1 P ∧ (∀ a, F1 a → F a ∨ H1 a = some (CodeO a lamQ)) := by
  have own : ∀ a ∈ fps, ∃ o, H1 a = some o ∧ (∀ φ, o ≠ .ext φ) ∧ ∀ xs, o ≠ .tup xs := fun a m => by
    obtain ⟨o, e, h1, h2⟩ := hE.nox a m
    by_cases z : ∃ ps, o = .tbl ps
    · have := (h2 z).uniq t
      subst this
      obtain ⟨ps, q, _⟩ := tb
      exact ⟨_, q, (fun _ z => nomatch z), fun _ z => nomatch z⟩
    · refine ⟨o, x _ _ e fun ps q => z ⟨ps, q⟩, h1, fun xs q => ?_⟩
      subst q
      exact (hG.own a m).ne e
  have g : Grow mg F (fun a => (F a ∧ ∀ ps, H a ≠ some (.tbl ps)) ∨ H1 a = some (CodeO a lamQ)) H H1 P := ⟨x, t, fun a o f e n => .inl ⟨f, fun ps q => by rw [e] at q; exact n ps (Option.some.inj q)⟩, fun c e => .inr e, tb⟩
  refine ⟨_, hE.grow g, ⟨hG.nd, fun a m f => ?_, fun a f => ?_, fun a m => ?_⟩, g, fun a f => f.imp_left (·.1)⟩
  · rcases f with ⟨f, _⟩ | f
    · exact hG.dis a m f
    · obtain ⟨o, e, h1, _⟩ := own a m
      rw [f] at e
      exact h1 _ (Option.some.inj e).symm
  · rcases f with ⟨f, n⟩ | f
    · cases e : H a with
      | none => exact absurd e (hG.trk a f)
      | some o =>
        rw [x a o e fun ps q => n ps (by rw [e, q])]
        exact fun z => nomatch z
    · rw [f]
      exact fun z => nomatch z
  · obtain ⟨o, e, _, h2⟩ := own a m
    exact ⟨o, e, h2⟩
end
/-- such a call: a value, or the word where the error is caught -/
def gTold (j : Nat) (l : List (Str × Bool)) (ret : Str) (b : M D) : M D := fun ρ => match ρ[j]? with
  | some (some (.tab true)) => (match b ρ with
    | .ok d ρ' => .ok d ρ'
    | .exc e ρ' => (match l.lookup e.c with
      | some true => .ok (.str ret) ρ'
      | _ => .bad)
    | .bad => .bad)
  | _ => .bad
theorem ps_len {X : Cx} {st : Stmt} {t : TS} (n : Nat) (hn : X.N.length = n) (h : PS X st t) : PS X st (fun D σ H => σ.length = n → t D σ H) := ⟨fun pins s σ H D I q => h.run pins s σ H D I (q (I.len.trans hn))⟩
/-- told = None / try: told = a() / except x: told = ret / return told -/
theorem told_give {X : Cx} {Ng : List Str} {x a e tn q ret : Str} {sg : Scope} {g CS : Addr} {cdg : Value} {j j2 : Nat} {p1 p2 p3 p4 p5 p6 p7 p8 p9 p10 p11 p12 p13 p14 p15 : Pos}
    (hge : sg.names.lookup e = some .globalImplicit) (hme : X.mg e = some (.ref CS)) (hde : (e == ("__debug__" : Str)) = false) (hN : Ng = [a, tn]) (hnd : Ng.Nodup) (htl : sg.names.lookup tn = some .local) (hdt : (tn == ("__debug__" : Str)) = false := by decide) (hct : (tn == ("__classdict__" : Str)) = false := by decide) :
    GivesTo X Ng x sg g cdg [.Assign [.Name tn p1] (.Constant .none j p2) p3, .Try [.Assign [.Name tn p4] (.Call (.Name a p5) [] [] p6) p7] [.ExceptHandler (some (.Name e p8)) none [.Assign [.Name tn p9] (.Constant (.str ret) j2 p10) p11] p12] [] [] p13, .Return (some (.Name tn p14)) p15] a q (TTold X.K CS ret) := by
  intro f c' s H Q tl act hc h
  have hgl : Gl (cxOf C8.CX0 X.prog X.w X.K X.mg X.base Ng x sg g cdg X.A X.stack s H C8.E0).nox e := hge
  have hi : Ng[1]? = some tn := by rw [hN]; rfl
  have h0 : L2.start Ng [V.ref f] = [some (V.ref f), none] := by rw [hN]; rfl
  have hloc : Loc sg tn := .inl htl
  refine ⟨_, pss_cons (ps_set (X := (cxOf C8.CX0 X.prog X.w X.K X.mg X.base Ng x sg g cdg X.A X.stack s H C8.E0).nox) hnd hi hloc pe_non rfl (.inr htl)) (pss_cons (ps_try_only (X := (cxOf C8.CX0 X.prog X.w X.K X.mg X.base Ng x sg g cdg X.A X.stack s H C8.E0).nox) (c := .ref CS)
      (tb := fun W D σ H => ∃ Ech : XK, (∀ cls d σ' H', Ech cls d H' → W cls d σ' H') ∧ σ[0]? = some (some (.ref f)) ∧ H c' = some (CodeO c' q) ∧ tl Ech H fun v H' => D.nx (σ.set 1 (some v)) H')
      rfl rfl ⟨hgl, hde, .inl hme⟩ L2.takes0 (fun W pn xe tk _ => ?_) (fun a oe cls d pn _ _ => pss_one (ps_len 2 (show Ng.length = 2 by rw [hN]; rfl) (ps_set hnd hi hloc pe_str rfl (.inr htl))))) (pss_one (ps_ret (pe_var (i := 1) hi (.inl htl) hdt hct)))), ?_⟩
  · refine ⟨fun pins s' σ H' D I h' => ?_⟩
    obtain ⟨Ech, hW, h1, h2, h3⟩ := h'
    have hp := act W pn xe Ech p5 p6 tk hW
    exact (pss_one (ps_set (pos := p7) (pos' := p4) hnd hi hloc hp rfl (.inr htl))).run pins s' σ H' D I ⟨h1, h2, h3⟩
  · rw [h0]
    refine ⟨fun cls _ H' => ∃ b, PySem.W.exmOne X.K cls (.ref CS) = some b ∧ (b = true → Q (.str ret) H') ∧ (b = false → False), fun cls d σ' H' hh => ?_, rfl, hc, ?_⟩
    · obtain ⟨b, e1, e2, e3⟩ := hh
      refine ⟨b, e1, fun hb a _ hl => ?_, fun hb => e3 hb⟩
      exact ⟨.str ret, List.getElem?_set_self (by omega), e2 hb⟩
    · have e : (fun (v : V) (H' : Hp) => ∃ v', ([some (V.ref f), some v] : L2.St)[1]? = some (some v') ∧ Q v' H') = Q := by
        funext v H'
        refine propext ⟨fun ⟨v', e1, q⟩ => ?_, fun q => ⟨v, rfl, q⟩⟩
        cases e1
        exact q
      show tl _ H (fun (v : V) (H' : Hp) => ∃ v', ([some (V.ref f), some v] : L2.St)[1]? = some (some v') ∧ Q v' H')
      rw [e]
      exact h
/-! ### statements of the law's own def: nothing is promised of what it leaves, but its value -/
def WPst (mg : MG) (r : SR) (D : Ends) : Prop := match r with
  | .nx ρ' => ∀ σ' F' H' fps', RE mg F' H' ρ' σ' fps' → Gd F' H' fps' → D.nx σ' H'
  | .bk ρ' => ∀ σ' F' H' fps', RE mg F' H' ρ' σ' fps' → Gd F' H' fps' → D.bk σ' H'
  | .ct ρ' => ∀ σ' F' H' fps', RE mg F' H' ρ' σ' fps' → Gd F' H' fps' → D.ct σ' H'
  | .rt d _ => ∀ v F' H' fp, R mg F' H' v d fp → D.rt v H'
  | .exc _ _ => False
  | .bad => False
def wS (mg : MG) (s : S) : TS := fun D σ H => ∃ F ρ fps, RE mg F H ρ σ fps ∧ Gd F H fps ∧ WPst mg (s ρ) D
section
variable {X : Cx} {W : WX} {mg : MG}
theorem wpst_sp {F : FS} {H : Hp} {fps : List Addr} {r : SR} {D : Ends} (h : WPst mg r D) : SPst mg W [] [] F H fps r D := by
  cases r with
  | nx ρ' => exact fun σ' F' H' fps' a b _ _ => h σ' F' H' fps' a b
  | bk ρ' => exact fun σ' F' H' fps' a b _ _ => h σ' F' H' fps' a b
  | ct ρ' => exact fun σ' F' H' fps' a b _ _ => h σ' F' H' fps' a b
  | rt d ρ' => exact fun v σ' F' H' fp fps' a _ _ _ _ => h v F' H' fp a
  | exc e ρ' => exact h.elim
  | bad => exact h.elim
theorem pn_nil {σ : L2.St} : Pn [] [] σ := fun i hi => nomatch hi
theorem ws_of {st : Stmt} {s : S} (h : PS X st (vS mg W [] [] s)) : PS X st (wS mg s) := ps_imp h fun D σ H ⟨F, ρ, fps, hE, hG, hP⟩ => ⟨F, ρ, fps, hE, hG, pn_nil, wpst_sp hP⟩
theorem wss_of {st : List Stmt} {s : S} (h : PSs X st (vS mg W [] [] s)) : PSs X st (wS mg s) := pss_imp h fun D σ H ⟨F, ρ, fps, hE, hG, hP⟩ => ⟨F, ρ, fps, hE, hG, pn_nil, wpst_sp hP⟩
theorem wss_one {st : Stmt} {a : S} (h : PS X st (wS mg a)) : PSs X [st] (wS mg a) := pss_one h
theorem wss_cons {st : Stmt} {rest : List Stmt} {a b : S} (h1 : PS X st (wS mg a)) (h2 : PSs X rest (wS mg b)) : PSs X (st :: rest) (wS mg (sSeq a b)) := by
  refine pss_imp (pss_cons h1 h2) fun D σ H ⟨F, ρ, fps, hE, hG, hP⟩ => ⟨F, ρ, fps, hE, hG, ?_⟩
  unfold sSeq at hP
  cases e : a ρ with
  | nx ρ' => rw [e] at hP; exact fun σ' F' H' fps' a1 a2 => ⟨F', ρ', fps', a1, a2, hP⟩
  | bk ρ' => rw [e] at hP; exact hP
  | ct ρ' => rw [e] at hP; exact hP
  | rt d ρ' => rw [e] at hP; exact hP
  | exc x ρ' => rw [e] at hP; exact hP
  | bad => rw [e] at hP; exact hP
theorem ws_if {c : Expr} {a b : List Stmt} {g : M Bool} {sa sb : S} {pos : Pos} (hc : PT X c (vT mg W g)) (ha : PSs X a (wS mg sa)) (hb : PSs X b (wS mg sb)) : PS X (.If c a b pos) (wS mg (sIf g sa sb)) :=
  ps_imp (ps_if hc ha hb) fun D σ H ⟨F, ρ, fps, hE, hG, hP⟩ => by
    refine ⟨F, ρ, fps, hE, hG, ?_⟩
    unfold sIf sBind at hP
    cases e : g ρ with
    | bad => rw [e] at hP; exact hP.elim
    | exc x ρ1 => rw [e] at hP; exact hP.elim
    | ok t ρ1 =>
      rw [e] at hP
      intro x F1 H1 fp1 fps1 r1 e1 g1 _
      obtain ⟨rfl, rfl⟩ := r1
      cases x with
      | true => exact ⟨F1, ρ1, fps1, e1, by simpa using g1, hP⟩
      | false => exact ⟨F1, ρ1, fps1, e1, by simpa using g1, hP⟩
/-- for x in range(e) -/
theorem ws_forR {x : Str} {i : Nat} {a : Expr} {body : List Stmt} {g : M D} {b : S} {p px pos' pos : Pos} (fg : List Nat) (hp : PassesOwn (model X.prog X.w) X.A X.env X.xe) (hc : X.calm = true) (hg : Gl X "range") (hm : X.mg "range" = none) (ha : PE X a (vE mg W g)) (hN : X.N.Nodup) (hi : X.N[i]? = some x) (hx : Loc X.env.scope x)
    (hb : PSs X body (wS mg b)) (hs : starEach [a] X.env = [(false, eval a X.env)] := by rfl) (hs1 : starEach (a :: []) X.env = (false, eval a X.env) :: starEach [] X.env := by rfl)
    (hf : X.fn x = true ∨ X.env.scope.names.lookup x = some .local := by first | exact .inl rfl | exact .inr rfl) (hs2 : ∀ y, foldedSetIterable (.Call (.Name "range" p) [a] [] pos') X.env y = pure y := by intro _; rfl) :
    PS X (.For (.Name x px) (.Call (.Name "range" p) [a] [] pos') body [] pos) (wS mg (sFor (iRange1 g) (setSlot i) b fg)) := by
  refine ps_imp (ps_for hp hc (pi_range1 hg hm (pa_cons ha pa_nil hs1) hs) (pg_name hN hi hx hf) hb hs2) fun D σ H ⟨F, ρ, fps, hE, hG, hP⟩ => ?_
  refine ⟨F, ρ, fps, hE, hG, ?_⟩
  unfold sFor sBind iRange1 at hP
  cases e : g ρ with
  | bad => rw [M.bind_bad e] at hP; exact hP.elim
  | exc y ρ1 => rw [M.bind_exc e] at hP; exact hP.elim
  | ok d ρ1 =>
    rw [M.bind_ok e] at hP
    intro v F1 H1 fp1 fps1 r1 e1 g1 _
    cases d with
    | int j =>
      cases r1
      simp only at hP
      split at hP
      case h_1 =>
        rename_i ds ρ2 eq
        split at eq
        · rename_i cw
          rw [within_iff] at cw
          cases eq
          refine ⟨j, rfl, by omega, by omega, ?_⟩
          have body1 : ∀ (k : Nat) (ρ : Env), loopS (setSlot i) b fg (upTo 0 j.toNat |>.drop k) ρ = loopS (setSlot i) b fg (upTo 0 j.toNat |>.drop k) ρ := fun _ _ => rfl
          refine ⟨fun n m σ H => m = j.toNat - n ∧ n ≤ j.toNat ∧ ∃ F ρ fps, RE mg F H ρ σ fps ∧ Gd F H fps ∧ WPst mg (loopS (setSlot i) b fg ((upTo 0 j.toNat).drop n) ρ) D, ⟨_, rfl, Nat.zero_le _, F1, ρ1, fps1, e1, by simpa using g1, hP⟩, ?_⟩
          rintro n m σ2 H2 ⟨rfl, hn, F2, ρ2, fps2, hE2, hG2, hP2⟩
          by_cases hlt : n < j.toNat
          · have lu : n < (upTo 0 j.toNat).length := by simpa [upTo] using hlt
            refine .inr ⟨hlt, _, fun σ' H' q => ⟨j.toNat - (n + 1), by omega, q⟩, fun y H3 hy => ?_⟩
            obtain ⟨rfl, rfl⟩ := hy
            have ed : (upTo 0 j.toNat).drop n = .int (0 + (n : Int)) :: (upTo 0 j.toNat).drop (n + 1) := by
              rw [List.drop_eq_getElem_cons lu]
              simp [upTo]
            rw [ed] at hP2
            unfold loopS at hP2
            cases et : setSlot i (.int (0 + (n : Int))) ρ2 with
            | nx ρ3 =>
              simp only [et] at hP2
              unfold setSlot at et
              split at et
              · rename_i hl
                cases et
                obtain ⟨gone, fps3, h1, h2⟩ := hE2.put hl (.int (0 + (n : Int)))
                have g3 : Gd F2 H3 fps3 := (hG2.perm (by simpa using h2)).right
                refine ⟨F2, _, fps3, h1, g3, ?_⟩
                have again : ∀ {ρ4 : Env} {σ4 : L2.St} {F4 : FS} {H4 : Hp} {fps4 : List Addr}, WPst mg (loopS (setSlot i) b fg ((upTo 0 j.toNat).drop (n + 1)) (forget fg ρ4)) D → RE mg F4 H4 ρ4 σ4 fps4 → Gd F4 H4 fps4 →
                    (j.toNat - (n + 1) = j.toNat - (n + 1) ∧ n + 1 ≤ j.toNat ∧ ∃ F ρ fps, RE mg F H4 ρ σ4 fps ∧ Gd F H4 fps ∧ WPst mg (loopS (setSlot i) b fg ((upTo 0 j.toNat).drop (n + 1)) ρ) D) := fun {ρ4 σ4 F4 H4 fps4} q a1 a2 => by
                  obtain ⟨gone, rest, b1, b2⟩ := forget_ok (is := fg) a1
                  exact ⟨rfl, hlt, F4, _, rest, b1, (a2.perm b2).right, q⟩
                cases eb : b (ρ2.set i (some (.int (0 + (n : Int))))) with
                | nx ρ4 => simp only [eb] at hP2; exact fun σ4 F4 H4 fps4 a1 a2 => again hP2 a1 a2
                | ct ρ4 => simp only [eb] at hP2; exact fun σ4 F4 H4 fps4 a1 a2 => again hP2 a1 a2
                | bk ρ4 =>
                  simp only [eb] at hP2
                  intro σ4 F4 H4 fps4 a1 a2
                  obtain ⟨gone, rest, b1, b2⟩ := forget_ok (is := fg) a1
                  exact hP2 σ4 F4 H4 rest b1 (a2.perm b2).right
                | rt d4 ρ4 => simp only [eb] at hP2; exact hP2
                | exc x4 ρ4 => simp only [eb] at hP2; exact hP2
                | bad => simp only [eb] at hP2; exact hP2
              · cases et
            | _ => simp only [et] at hP2; exact hP2.elim
          · have en : n = j.toNat := by omega
            subst en
            have e0 : (upTo 0 j.toNat).drop j.toNat = [] := List.drop_eq_nil_of_le (by simp [upTo])
            rw [e0] at hP2
            refine .inl ⟨Nat.le_refl _, ?_⟩
            obtain ⟨gone, rest, b1, b2⟩ := forget_ok (is := fg) hE2
            exact hP2 σ2 F2 H2 rest b1 (hG2.perm b2).right
        · cases eq
      case h_2 =>
        exact hP.elim
      case h_3 => exact hP.elim
    | _ => exact hP.elim
/-- x = f(lambda: e) -/
theorem ws_told {x a ret y : Str} {g c P CS : Addr} {k j i : Nat} {pg : Arguments} {bg : List Stmt} {sg : Scope} {dV kV doc pm cdv ct oc : Value} {an od : Option Addr} {osl : Array (Option Value)} {Ng : List Str} {l : List (Str × Bool)} {b : M D}
    {params : Arguments} {body : Expr} {scope : Scope} {p lpos pos py pos2 : Pos} (hg : Gl X x) (hm : X.mg x = some (.ref g)) (hk : PySem.W.keepIn X.K (.ref g) = true)
    (lk : X.K.lookup g = some ⟨oc, od, .func (PySem.W.fnOf x x pg bg sg dV kV doc pm an cdv ct), osl⟩) (hcg : PySem.W.codeIn X.K cdv x = true) (hb : L2.Binds X.K (PySem.W.fnOf x x pg bg sg dV kV doc pm an cdv ct) [a] []) (Sg : FnScope Ng [a] sg) (hNg : Ng[0]? = some a) (hva : Vis sg a)
    (hG : GivesTo X Ng x sg g cdv bg a (X.env.qual ++ "<lambda>") (TTold X.K CS ret)) (hx : ExM X.K (mG X) (.ref CS) l)
    (TB : TabB X.base X.mg c P) (hcode : X.env.code = .ref c) (hT : TabOf (mG X) P) (hq : X.env.qual ++ "<lambda>" = lamQ) (hr : Room (k + 2) X.A) (L : LamS X.env.scope scope) (hdef : defaultsOf params X.env = ([], []))
    (hbind : ∀ (q : Str) (cl : List (Str × Addr)) (pm cv ctv : Value), bindArgs (PySem.W.kla_fn "<lambda>" q params body scope cl pm cv ctv) ⟨[], []⟩ = pure [])
    (hbody : ∀ (A : Around) (outer : List PySem.Env) (s : Shared) (H : Hp) (E : XK) (f c' : Addr), Room k (A.deeper (lamEnv X scope s.heap.objs.size f c')) → PE (lamCx X A outer s H E scope f c') body (vE (mG X) (fun cls d _ H => E cls d H) b))
    (hN : X.N.Nodup) (hi : X.N[i]? = some y) (hy : Loc X.env.scope y)
    (hdb : (x == ("__debug__" : Str)) = false := by decide) (hd : (a == ("__debug__" : Str)) = false := by decide) (hcd : (a == ("__classdict__" : Str)) = false := by decide)
    (hs : swapsWith (.Call (.Name x p) [.Lambda params body scope lpos] [] pos) (some (.Name y py)) pos2.line X.env = pure false := by rfl) (hf : X.fn y = true ∨ X.env.scope.names.lookup y = some .local := by first | exact .inl rfl | exact .inr rfl) :
    PS X (.Assign [.Name y py] (.Call (.Name x p) [.Lambda params body scope lpos] [] pos) pos2) (wS (mG X) (sSet i (gTold j l ret b))) := by
  refine ps_imp (ps_set hN hi hy (pe_lamcall (T := [(P, X.env.qual ++ "<lambda>")]) (TT := TTold X.K CS ret) (t := fun E => vE (mG X) (fun cls d _ H => E cls d H) b) hg hm hk lk hcg hb Sg hNg hva hG TB hcode (List.mem_cons_self) (fun p hp _ => by rw [List.mem_singleton.mp hp]) hr L hdef hbind hbody hdb hd hcd) hs hf) fun D σ H h => ?_
  obtain ⟨F, ρ, fps, hE, hG2, hP⟩ := h
  unfold sSet sBind gTold at hP
  cases ht : ρ[j]? with
  | none => simp only [ht] at hP; exact hP.elim
  | some o =>
    cases o with
    | none => simp only [ht] at hP; exact hP.elim
    | some dt =>
      by_cases htt : dt = .tab true
      case neg =>
        exfalso
        simp only [ht] at hP
        cases dt with
        | tab o => cases o with
          | true => exact htt rfl
          | false => exact hP
        | _ => exact hP
      subst htt
      simp only [ht] at hP
      obtain ⟨tb, mP⟩ := hE.tab ht hT
      refine ⟨fun q hq2 => ?_, fun H1 x1 tb1 => ?_⟩
      · rw [List.mem_singleton.mp hq2]
        show TabS H P _
        rw [hq]
        exact tb
      · have t1 : TabS H1 P lamQ := by
          have := tb1 (P, X.env.qual ++ "<lambda>") (List.mem_singleton.mpr rfl)
          have : TabS H1 P (X.env.qual ++ "<lambda>") := this
          rwa [hq] at this
        obtain ⟨F1, hE1, hG1, gw, fm⟩ := grow_ok hE hG2 hT mP x1 t1
        refine ⟨F1, ρ, fps, hE1, hG1, ?_⟩
        cases eb : b ρ with
        | bad => simp only [eb] at hP; exact hP.elim
        | ok d ρ' =>
          simp only [eb] at hP
          intro v F' H' fp fps' r1 e1 g1 _
          unfold setSlot at hP
          split at hP
          · rename_i hl
            obtain ⟨gone, fps2, h1, h2⟩ := e1.put hl r1
            exact hP _ F' H' fps2 h1 (g1.perm h2).right
          · exact hP.elim
        | exc e ρ' =>
          simp only [eb] at hP
          intro cls dd F' H' fps' xx e1 g1 _
          obtain ⟨C, q1, rfl, _⟩ := xx
          cases ql : l.lookup e.c with
          | none => simp only [ql] at hP; exact hP.elim
          | some bb =>
            cases bb with
            | false => simp only [ql] at hP; exact hP.elim
            | true =>
              simp only [ql] at hP
              obtain ⟨C', q2, q3⟩ := hx _ _ ql
              rw [q1] at q2
              cases q2
              refine ⟨true, q3, fun _ => ?_, fun z => by cases z⟩
              unfold setSlot at hP
              split at hP
              · rename_i hl
                obtain ⟨gone, fps2, h1, h2⟩ := e1.put hl (.str ret)
                exact hP _ F' H' fps2 h1 (g1.perm (by simpa using h2)).right
              · exact hP.elim
/-- a slot of no name -/
theorem pss_ghost {body : List Stmt} {t : TS} {j : Nat} {v : V} (h : PSs X body t) (hj : ∀ y, X.N[j]? = some y → ¬ Vis X.env.scope y) : PSs X body (fun D σ H => t D (σ.set j (some v)) H) := by
  refine ⟨fun pins s σ H D I q => h.run pins s (σ.set j (some v)) H D ?_ q⟩
  refine ⟨I.ok, I.os, I.bare, I.base, ?_, I.cell, I.free, I.freeC, I.pin, I.hok, by rw [List.length_set]; exact I.len⟩
  obtain ⟨m, hn, hl⟩ := I.loc
  refine ⟨m, hn, fun i y w e1 e2 e3 => ?_⟩
  by_cases z : j = i
  · subst z
    exact absurd e3 (hj y e1)
  · rw [List.getElem?_set_ne z] at e2
    exact hl i y w e1 e2 e3
end
/-! ### the law's def, its table its own -/
def spTop (mg : MG) (body : S) (n : Nat) (P : Addr) : Sp := fun vs H Q _ => (∀ H', Q (.bl true) H') ∧ ∃ sc ns ρ', vs = [.ref sc] ∧ SqL mg.K H sc (ns.map V.int) ∧ H P = some (.tbl #[]) ∧ body (some (.scr ns) :: (List.replicate n none ++ [some (.tab true)])) = .rt (.bl true) ρ'
section
variable {P : Program} {w : World} {K : PySem.W.Frag} {mg : Str → Option Value} {base : Heap} {x qual ps gh : Str} {st : Stmt} {f c T : Addr} {fd : FuncData} {N : List Str} {k n : Nat} {A : Around}
theorem RE.last {mg : MG} {F : FS} {H : Hp} {a : Addr} (r : R mg F H (.ref a) (.tab true) [a]) : ∀ n : Nat, RE mg F H (List.replicate n none ++ [some (.tab true)]) (List.replicate n none ++ [some (.ref a)]) [a]
  | 0 => .cons (fps := []) r .nil
  | n + 1 => .skip (RE.last r n)
theorem def_topL (Fn : Fun K x qual st f fd) (Sc : FnScope N [ps] (defScope st)) (body : S) (hA : Room (k + 1) A) (hgd : A.guards = some []) (hlen : N.length = n + 2) (hgh : N[n + 1]? = some gh) (hng : ¬ Vis (defScope st) gh) (hT : TabOf ⟨mg, K⟩ T) (hcd : fd.code = .ref c)
    (hb : ∀ (outer : List PySem.Env) (s : Shared) (H : Hp) (E : XK) (vs : List V), Room k (cxOf (L2.CX P w) P w K mg base N qual (defScope st) f (.ref c) A outer s H E).A → (cxOf (L2.CX P w) P w K mg base N qual (defScope st) f (.ref c) A outer s H E).A.guards = some [] →
      PSs (cxOf (L2.CX P w) P w K mg base N qual (defScope st) f (.ref c) A outer s H E) (defBody st) (wS ⟨mg, K⟩ body)) :
    VE.RunAt P w K mg base (L2.CX P w) A f fd [ps] (spTop ⟨mg, K⟩ body n T) := by
  intro s H args us' vs Q E e0 hbd r h
  obtain ⟨oc, od, kV, doc, pm, an, cdv, ct, osl, rfl, lk, hci⟩ := Fn.ex
  have hcd : cdv = .ref c := hcd
  subst hcd
  obtain ⟨hq, sc, ns, ρ', rfl, hS, hP, hbo⟩ := h
  refine LamX.run_ofS lk hci Sc hA e0 hbd r rfl fun hr => ⟨_, pss_ghost (j := n + 1) (v := .ref T) (hb [] s H E [.ref sc] hr hgd) (fun y e => ?_), ?_⟩
  · have e : N[n + 1]? = some y := e
    rw [hgh] at e
    cases e
    exact hng
  · have es : (L2.start N [.ref sc]).set (n + 1) (some (.ref T)) = some (.ref sc) :: (List.replicate n none ++ [some (.ref T)]) := by
      rw [start_eq]
      show (some (V.ref sc) :: List.replicate (N.length - 1) none).set (n + 1) (some (.ref T)) = _
      rw [hlen, List.set_cons_succ]
      congr 1
      show (List.replicate (n + 1) none).set n (some (V.ref T)) = _
      rw [List.replicate_succ', List.set_append_right _ _ (by simp)]
      simp
    show wS ⟨mg, K⟩ body _ ((L2.start N [.ref sc]).set (n + 1) (some (.ref T))) H
    rw [es]
    have tabR : ∀ F : FS, R ⟨mg, K⟩ F H (.ref T) (.tab true) [T] := fun F => .tabO hT hP trivial fun pos cv z => by
      have z' : codeAmong pos [] = some cv := z
      simp [codeAmong] at z'
    have fin : ∀ F : FS, R ⟨mg, K⟩ F H (.ref sc) (.scr ns) [] → Gd F H [T] → wS ⟨mg, K⟩ body { nx := fun _ H' => Q .non H', rt := Q } (some (.ref sc) :: (List.replicate n none ++ [some (.ref T)])) H := fun F r g => by
      refine ⟨F, _, [] ++ [T], .cons r (RE.last (tabR F) n), g, ?_⟩
      rw [hbo]
      intro v F' H' fp rv
      cases rv
      exact hq H'
    rcases hS with q | q
    · refine fin (fun a => a = sc) (.scr (.inr ⟨rfl, q⟩)) ⟨by simp, fun a m f => ?_, fun a f => ?_, fun a m => ?_⟩
      · rw [List.mem_singleton.mp m] at f
        rw [← f] at q
        rcases q with q | ⟨o, q⟩ <;> (rw [hP] at q; cases q)
      · subst f
        exact Rd.trk q
      · rw [List.mem_singleton.mp m]
        exact ⟨_, hP, fun _ z => nomatch z⟩
    · refine fin (fun _ => False) (.scr (.inl q)) ⟨by simp, fun a m f => f, fun a f => f.elim, fun a m => ?_⟩
      rw [List.mem_singleton.mp m]
      exact ⟨_, hP, fun _ z => nomatch z⟩
end
end VL
namespace VE
open PySem PySem.Spec PyProof.Rows L2 LamX
theorem walk_topT {l : PySem.W.OpenLaw} {n : Nat} {q : Program} {loose : List Str} {XP : (Str → Option Value) → Heap → Prop} {YP : World → Heap → Prop} {d : DefRec} {x : Str}
    (hn : l.most = some n) (hn2 : n ≤ sizeLine) (hdf : d.params.defaults = [])
    (F : ∀ (w : World) (mg : Str → Option Value) (fa : Addr) (h : Heap), YP w h → h.Ns mainGlobals mg → mg d.name = some (.ref fa) →
      ∃ (K : PySem.W.Frag) (fd : FuncData) (sp : Sp) (c T : Addr), K.In h ∧ h.get? T = some tbO ∧ K.lookup T = none ∧ PySem.W.CodeHd h c T ∧ (∀ (s : Shared) (u : Value), BindsTo s fd ⟨[u], []⟩ [(x, u)]) ∧
        (∀ (H : Hp) (a : Addr) (ns : List Int), ns.length ≤ n → H T = some (.tbl #[]) → SqL K H a (ns.map V.int) → sp [.ref a] H (fun v _ => v = .bl true) fun _ _ _ => False) ∧
        ∀ base : Heap, K.In base → base.Ns mainGlobals mg → TabB base mg c T → RunAt l.prog w K mg base (L2.CX l.prog w) callerA fa fd [x] sp) :
    PySem.W.WalkO q loose XP YP l.row.toRowW d [] (fun f vs => PySem.call f vs) := by
  refine Att.attach_call hn hdf fun w s₀ s₁ mg mb fa o pm cd doc a vs ns G Y ho hd hcd hmg script isI hlen gens => ?_
  obtain ⟨K, fd, sp, c, T, KX, h1, h2, h3, bind, good, run⟩ := F w mg fa _ Y G.T.g hmg
  have one : ∀ {R : Addr × Addr → Prop}, R (c, T) → ∀ p ∈ [(c, T)], R p := fun r p m => by rw [List.mem_singleton.mp m]; exact r
  exact top_run (cs := [(c, T)]) KX G.T.g G.T.b G.T.builtins G.T.nolimit gens (one h1) (one h2) (one h3) G.T.bmain script isI (Nat.le_trans hlen hn2) (fun base i g t => run base i g (t (c, T) (List.mem_singleton.mpr rfl))) bind
    (fun H hH hS => good H a ns hlen (hH (c, T) (List.mem_singleton.mpr rfl)) hS) fun H e s' => noX H s₁ e s'
theorem tab_of {K : PySem.W.Frag} {mg : Str → Option Value} {fa c T : Addr} {o : Obj} {fd : FuncData} (h1 : mg "law" = some (.ref fa)) (h2 : List.lookup fa K = some o) (h3 : o.data = .func fd) (h4 : fd.code = .ref c) (h5 : PySem.W.codeHdIn K c T = true) : VL.TabOf ⟨mg, K⟩ T := by
  unfold PySem.W.codeHdIn at h5
  split at h5
  · rename_i vs _ hk
    simp only [Bool.and_eq_true] at h5
    have e := h5.1.1.1.1.1
    split at e
    · rename_i P' h11
      have : P' = T := by simpa using e
      subst this
      exact ⟨fa, o, fd, c, _, vs, h1, h2, h3, h4, hk, rfl, h11⟩
    · cases e
  · cases h5
end VE
namespace VL
open PySem PySem.Spec PyProof.Rows L2
/-! ### [x] * n, x an int -/
def fMulL (d e : D) : Option D := match d, e with
  | .lst true [.int i], .int k => if within 100000 k then some (.lst true (List.replicate k.toNat (.int i))) else none
  | _, _ => none
theorem rs_repI {mg : MG} {F : FS} {H : Hp} {i : Int} : ∀ n : Nat, Rs mg F H (List.replicate n (V.int i)) (List.replicate n (D.int i)) []
  | 0 => .nil
  | n + 1 => .cons (fp := []) (.int i) (rs_repI n)
theorem ops_mulL {mg : MG} : OpS2 mg rRep fMulL := by
  intro F H fps v w d e d' Q g b1 b2 h q
  unfold fMulL at h
  split at h
  · rename_i i k
    split at h
    · rename_i c
      cases h
      rw [within_iff] at c
      obtain ⟨fq, r, _⟩ := b1
      cases r with
      | lstO e1 rs =>
        cases rs with
        | cons r1 r2 =>
          cases r1
          cases r2
          obtain rfl := b2.int
          refine ⟨_, k, _, rfl, rfl, e1, by omega, by omega, ?_, fun p hp => ?_⟩
          · have hb := big_line
            have : big = 1000000 := rfl
            simp only [List.length_singleton]
            omega
          · have ef : (List.replicate k.toNat [V.int i]).flatten = List.replicate k.toNat (V.int i) := by
              induction k.toNat with
              | zero => rfl
              | succ n ih => rw [List.replicate_succ, List.replicate_succ, List.flatten_cons, ih]; rfl
            rw [ef]
            exact q.lst (rs_repI k.toNat) g p hp
    · cases h
  · cases h
theorem fMulL_ok (i : Int) (n : Nat) (h : n < 100000) : fMulL (.lst true [.int i]) (.int (n : Int)) = some (.lst true (List.replicate n (.int i))) := by
  show (if within 100000 (n : Int) = true then _ else none) = _
  rw [if_pos (within_iff.mpr (by omega))]
  rfl
end VL

set_option Elab.async false
set_option linter.all false
set_option maxRecDepth 100000
set_option maxHeartbeats 4000000
namespace Q
open VL
def q1t__law_pool : D → S := setSlot 3
def q1c__law_pool : M Bool := tVal (gOp2 fGe (oEx (gCallB fAbs (aCons (oVar 3) (aNil)))) (oEx (gOp2 fPow (oEx (gC (.int 10))) (oEx (gC (.int 18))))))
def q1e__law_pool : M D := gCallB fAbs (aCons (oVar 3) (aNil))
def q2t__law_pool : D → S := setSlot 3
def q2c__law_pool : M Bool := tVal (gOp2 fLt (oEx (gCallB fAbs (aCons (oVar 3) (aNil)))) (oEx (gOp2 fPow (oEx (gC (.int 10))) (oEx (gC (.int 18))))))
def q2e__law_pool : M D := gOp2 fMod (oEx (gCallB fInt (aCons (oVar 3) (aNil)))) (oEx (gC (.int 1000003)))
def b__law_pool : S := sSeq (sSet 1 (gLc (iSeq (gSl (oVar 0) (pNone) (pInt (gC (.int 63))))) (q1t__law_pool) (q1c__law_pool) (q1e__law_pool) [3]))
    (sSeq (sSet 2 (gLc (iSeq (gSl (oVar 0) (pNone) (pInt (gC (.int 63))))) (q2t__law_pool) (q2c__law_pool) (q2e__law_pool) [3]))
    (sRet (gLst (aCons (oEx (gVar 1)) (aCons (oEx (gVar 2)) (aCons (oEx (gC (.int 0))) (aCons (oEx (gC (.int 0))) (aNil))))))))
def f__law_pool : List D → Out := runDef 1 4 [] b__law_pool
def b__law_draw : S := sSeq (sIf (tAndM (tVal (gOp2 fLe (oEx (gOp2 fIx (oVar 0) (oEx (gC (.int 2))))) (oEx (gC (.int 1))))) (tVal (gOp2 fGt (oEx (gCallB fLen (aCons (oEx (gOp2 fIx (oVar 0) (oEx (gC (.int 0))))) (aNil)))) (oEx (gC (.int 0)))))) (sSeq (sPut 0 (gOp2 fIx (oEx (gOp2 fIx (oVar 0) (oEx (gC (.int 0))))) (oEx (gC (.int 0)))) (gC (.int 2)))
    (sPut 0 (gFz (gSl (oEx (gOp2 fIx (oVar 0) (oEx (gC (.int 0))))) (pInt (gC (.int 1))) (pNone))) (gC (.int 0)))) (sPass))
    (sSeq (sIf (tVal (gOp2 fGt (oEx (gOp2 fIx (oVar 0) (oEx (gC (.int 2))))) (oEx (gC (.int 1))))) (sSeq (sSet 2 (gOp2 fMod (oEx (gCallB fInt (aCons (oEx (gOp2 fIx (oVar 0) (oEx (gC (.int 2))))) (aNil)))) (oVar 1)))
    (sSeq (sPut 0 (gOp2 fDiv (oEx (gOp2 fIx (oVar 0) (oEx (gC (.int 2))))) (oVar 1)) (gC (.int 2)))
    (sRet (gMove 2)))) (sPass))
    (sSeq (sPut 0 (gFz (gOp2 fAdd (oEx (gOp2 fIx (oVar 0) (oEx (gC (.int 3))))) (oEx (gC (.int 1))))) (gC (.int 3)))
    (sSeq (sSet 3 (gC (.int 0)))
    (sSeq (sIf (tVal (gOp2 fGt (oEx (gCallB fLen (aCons (oEx (gOp2 fIx (oVar 0) (oEx (gC (.int 1))))) (aNil)))) (oEx (gC (.int 0))))) (sSet 3 (gOp2 fIx (oEx (gOp2 fIx (oVar 0) (oEx (gC (.int 1))))) (oEx (gOp2 fMod (oEx (gCallB fInt (aCons (oEx (gOp2 fIx (oVar 0) (oEx (gC (.int 3))))) (aNil)))) (oEx (gCallB fLen (aCons (oEx (gOp2 fIx (oVar 0) (oEx (gC (.int 1))))) (aNil)))))))) (sPass))
    (sSeq (sSet 4 (gOp2 fMod (oEx (gCallB fInt (aCons (oEx (gOp2 fMul (oEx (gOp2 fAdd (oEx (gOp2 fAdd (oVar 3) (oEx (gOp2 fMul (oEx (gC (.int 7919))) (oEx (gOp2 fIx (oVar 0) (oEx (gC (.int 3))))))))) (oEx (gC (.int 1))))) (oEx (gC (.int 48271))))) (aNil)))) (oEx (gC (.int 2147483647)))))
    (sSeq (sSet 4 (gOp2 fMod (oEx (gCallB fInt (aCons (oEx (gOp2 fMul (oVar 4) (oEx (gOp2 fAdd (oEx (gOp2 fDiv (oVar 4) (oEx (gC (.int 1009))))) (oEx (gC (.int 69621))))))) (aNil)))) (oEx (gC (.int 2147483647)))))
    (sSeq (sSet 4 (gOp2 fMod (oEx (gCallB fInt (aCons (oEx (gOp2 fMul (oVar 4) (oEx (gOp2 fAdd (oEx (gOp2 fDiv (oVar 4) (oEx (gC (.int 2003))))) (oEx (gC (.int 40692))))))) (aNil)))) (oEx (gC (.int 2147483399)))))
    (sRet (gOp2 fMod (oEx (gCallB fInt (aCons (oEx (gOp2 fDiv (oVar 4) (oEx (gC (.int 16))))) (aNil)))) (oVar 1))))))))))
def f__law_draw : List D → Out := runDef 2 5 [0] b__law_draw
def b__law_pick : S := sRet (gOp2 fIx (oVar 1) (oEx (gCall f__law_draw (aCons (oVar 0) (aCons (oEx (gCallB fLen (aCons (oVar 1) (aNil)))) (aNil))))))
def f__law_pick : List D → Out := runDef 2 2 [0] b__law_pick
def l1__law_kind_parts : S := sPut 7 (gC (.bl true)) (gTuple (aCons (oEx (gFz (gCall f__law_draw (aCons (oVar 0) (aCons (oVar 3) (aNil)))))) (aCons (oEx (gFz (gCall f__law_draw (aCons (oVar 0) (aCons (oVar 2) (aNil)))))) (aNil))))
def i1__law_kind_parts : M (List D) := iRange1 (gIfE (tTru (oVar 1)) (gC (.int 1)) (gCall f__law_pick (aCons (oVar 0) (aCons (oEx (gLst (aCons (oEx (gC (.int 1))) (aCons (oEx (gC (.int 1))) (aCons (oEx (gC (.int 1))) (aCons (oEx (gC (.int 2))) (aCons (oEx (gC (.int 2))) (aCons (oEx (gC (.int 3))) (aCons (oEx (gC (.int 4))) (aNil)))))))))) (aNil)))))
def l2__law_kind_parts : S := sPut 9 (gC (.bl true)) (gCall f__law_draw (aCons (oVar 0) (aCons (oVar 2) (aNil))))
def i2__law_kind_parts : M (List D) := iRange1 (gIfE (tTru (oVar 1)) (gC (.int 0)) (gCall f__law_pick (aCons (oVar 0) (aCons (oEx (gLst (aCons (oEx (gC (.int 0))) (aCons (oEx (gC (.int 0))) (aCons (oEx (gC (.int 0))) (aCons (oEx (gC (.int 1))) (aCons (oEx (gC (.int 2))) (aNil)))))))) (aNil)))))
def l3__law_kind_parts : S := sSeq (sSet 7 (gDict true))
    (sSeq (sFor (i1__law_kind_parts) (setSlot 8) (l1__law_kind_parts) [8])
    (sSeq (sExpr (gMut "list" 4 fAppend (aCons (oEx (gCallB fTuple (aCons (oEx (gCallB fSorted (aCons (oVar 7) (aNil)))) (aNil)))) (aNil))))
    (sSeq (sSet 9 (gDict false))
    (sSeq (sFor (i2__law_kind_parts) (setSlot 8) (l2__law_kind_parts) [8])
    (sExpr (gMut "list" 5 fAppend (aCons (oEx (gCallB fTuple (aCons (oEx (gCallB fSorted (aCons (oVar 9) (aNil)))) (aNil)))) (aNil))))))))
def i3__law_kind_parts : M (List D) := iRange1 (gVar 2)
def q1t__law_kind_parts : D → S := setSlot 6
def q1c__law_kind_parts : M Bool := tVal (gOp2 fEq (oEx (gCall f__law_draw (aCons (oVar 0) (aCons (oEx (gC (.int 3))) (aNil))))) (oEx (gC (.int 0))))
def q1e__law_kind_parts : M D := gVar 6
def l4__law_kind_parts : S := sSeq (sSet 11 (gLc (iRange1 (gVar 2)) (q1t__law_kind_parts) (q1c__law_kind_parts) (q1e__law_kind_parts) [6]))
    (sExpr (gMut "list" 10 fAppend (aCons (oEx (gTuple (aCons (oEx (gFz (gCall f__law_draw (aCons (oVar 0) (aCons (oVar 2) (aNil)))))) (aCons (oEx (gCallB fTuple (aCons (oVar 11) (aNil)))) (aNil))))) (aNil))))
def i4__law_kind_parts : M (List D) := iRange1 (gCall f__law_pick (aCons (oVar 0) (aCons (oEx (gLst (aCons (oEx (gC (.int 0))) (aCons (oEx (gC (.int 0))) (aCons (oEx (gC (.int 1))) (aCons (oEx (gC (.int 2))) (aCons (oEx (gC (.int 4))) (aNil)))))))) (aNil))))
def b__law_kind_parts : S := sSeq (sSet 2 (gCall f__law_pick (aCons (oVar 0) (aCons (oEx (gLst (aCons (oEx (gC (.int 1))) (aCons (oEx (gC (.int 2))) (aCons (oEx (gC (.int 2))) (aCons (oEx (gC (.int 3))) (aCons (oEx (gC (.int 3))) (aCons (oEx (gC (.int 4))) (aCons (oEx (gC (.int 5))) (aCons (oEx (gC (.int 8))) (aNil))))))))))) (aNil)))))
    (sSeq (sSet 3 (gCall f__law_pick (aCons (oVar 0) (aCons (oEx (gLst (aCons (oEx (gC (.int 1))) (aCons (oEx (gC (.int 2))) (aCons (oEx (gC (.int 2))) (aCons (oEx (gC (.int 3))) (aCons (oEx (gC (.int 10))) (aNil)))))))) (aNil)))))
    (sSeq (sSet 4 (gLst (aNil)))
    (sSeq (sSet 5 (gLst (aNil)))
    (sSeq (sFor (i3__law_kind_parts) (setSlot 6) (l3__law_kind_parts) [7, 8, 9])
    (sSeq (sSet 10 (gLst (aNil)))
    (sSeq (sFor (i4__law_kind_parts) (setSlot 8) (l4__law_kind_parts) [8, 11])
    (sRet (gLst (aCons (oEx (gCallB fTuple (aCons (oVar 4) (aNil)))) (aCons (oEx (gCallB fTuple (aCons (oVar 5) (aNil)))) (aCons (oEx (gCallB fTuple (aCons (oVar 10) (aNil)))) (aNil))))))))))))
def f__law_kind_parts : List D → Out := runDef 2 12 [0] b__law_kind_parts
def b__law_nearly_sure : S := sSeq (sAsg (tTupN 3 (tCons0 (setSlot 1) (tCons0 (setSlot 2) (tCons0 (setSlot 3) (tNil0))))) (gCall f__law_kind_parts (aCons (oVar 0) (aCons (oEx (gC (.bl true))) (aNil)))))
    (sSeq (sSet 4 (gCall f__law_draw (aCons (oVar 0) (aCons (oEx (gCallB fLen (aCons (oVar 1) (aNil)))) (aNil)))))
    (sSeq (sSet 5 (gCall f__law_draw (aCons (oVar 0) (aCons (oEx (gC (.int 6))) (aNil)))))
    (sSeq (sIf (tVal (gOp2 fEq (oVar 5) (oEx (gC (.int 0))))) (sSeq (sSet 6 (gCallB fTuple (aCons (oEx (gOp1 fSortSet (oEx (gLst (aCons (oEx (gOp2 fIx (oEx (gOp2 fIx (oVar 1) (oVar 4))) (oEx (gC (.int 0))))) (aCons (oEx (gTuple (aCons (oEx (gFz (gCall f__law_draw (aCons (oVar 0) (aCons (oEx (gC (.int 10))) (aNil)))))) (aCons (oEx (gFz (gCall f__law_draw (aCons (oVar 0) (aCons (oEx (gCallB fLen (aCons (oVar 1) (aNil)))) (aNil)))))) (aNil))))) (aNil))))))) (aNil))))
    (sSet 1 (gOp2 fAdd (oEx (gOp2 fAdd (oEx (gSl (oVar 1) (pNone) (pInt (gVar 4)))) (oEx (gTuple (aCons (oEx (gVar 6)) (aNil)))))) (oEx (gSl (oVar 1) (pInt (gOp2 fAdd (oVar 4) (oEx (gC (.int 1))))) (pNone)))))) (sPass))
    (sSeq (sIf (tVal (gOp2 fEq (oVar 5) (oEx (gC (.int 1))))) (sSet 2 (gOp2 fAdd (oEx (gOp2 fAdd (oEx (gSl (oVar 2) (pNone) (pInt (gVar 4)))) (oEx (gTuple (aCons (oEx (gTuple (aCons (oEx (gFz (gCall f__law_draw (aCons (oVar 0) (aCons (oEx (gCallB fLen (aCons (oVar 1) (aNil)))) (aNil)))))) (aNil)))) (aNil)))))) (oEx (gSl (oVar 2) (pInt (gOp2 fAdd (oVar 4) (oEx (gC (.int 1))))) (pNone))))) (sPass))
    (sRet (gLst (aCons (oEx (gVar 1)) (aCons (oEx (gVar 2)) (aCons (oEx (gVar 3)) (aNil))))))))))
def f__law_nearly_sure : List D → Out := runDef 1 7 [0] b__law_nearly_sure
def b_is_tuple : S := sRet (gAndV (gCallB (fIsi []) (aCons (oVar 2) (aCons (oEx (gC (.ty "tuple"))) (aNil)))) (gChain fLe fLe (oVar 0) (oEx (gCallB fLen (aCons (oVar 2) (aNil)))) (oVar 1)))
def f_is_tuple : List D → Out := runDef 3 3 [] b_is_tuple
def b_is_integer : S := sRet (gAndV (gCallB (fIsi []) (aCons (oVar 0) (aCons (oEx (gC (.ty "int"))) (aNil)))) (gNotV (gCallB (fIsi []) (aCons (oVar 0) (aCons (oEx (gC (.ty "bool"))) (aNil))))))
def f_is_integer : List D → Out := runDef 1 1 [] b_is_integer
def b_is_below : S := sRet (gAndV (gCall f_is_integer (aCons (oVar 1) (aNil))) (gChain fLe fLt (oEx (gC (.int 0))) (oVar 1) (oVar 0)))
def f_is_below : List D → Out := runDef 2 2 [] b_is_below
def b_is_outcome : S := sRet (gAndV (gCall f_is_tuple (aCons (oEx (gC (.int 2))) (aCons (oEx (gC (.int 2))) (aCons (oVar 1) (aNil))))) (gAndV (gCall f_is_below (aCons (oEx (gC (.int 10))) (aCons (oEx (gOp2 fIx (oVar 1) (oEx (gC (.int 0))))) (aNil)))) (gCall f_is_below (aCons (oVar 0) (aCons (oEx (gOp2 fIx (oVar 1) (oEx (gC (.int 1))))) (aNil))))))
def f_is_outcome : List D → Out := runDef 2 2 [] b_is_outcome
def q1t_rising : D → S := tTupN 2 (tCons0 (setSlot 1) (tCons0 (setSlot 2) (tNil0)))
def q1e_rising : M D := gOp2 fLt (oVar 1) (oVar 2)
def b_rising : S := sRet (gCallB fAll (aCons (oEx (gLc (iZip (gVar 0) (gSl (oVar 0) (pInt (gC (.int 1))) (pNone))) (q1t_rising) (tYesM) (q1e_rising) [1, 2])) (aNil)))
def f_rising : List D → Out := runDef 1 3 [] b_rising
def q1t_are_outcomes : D → S := setSlot 2
def q1e_are_outcomes : M D := gFz (gCall f_is_outcome (aCons (oVar 0) (aCons (oVar 2) (aNil))))
def b_are_outcomes : S := sSeq (sIf (tNotM (tTru (oEx (gCall f_is_tuple (aCons (oEx (gC (.int 1))) (aCons (oEx (gC (.int 4))) (aCons (oVar 1) (aNil)))))))) (sRet (gC (.bl false))) (sPass))
    (sRet (gAndV (gCallB fAll (aCons (oEx (gLc (iSeq (gVar 1)) (q1t_are_outcomes) (tYesM) (q1e_are_outcomes) [2])) (aNil))) (gCall f_rising (aCons (oVar 1) (aNil)))))
def f_are_outcomes : List D → Out := runDef 2 3 [] b_are_outcomes
def q1t_are_looks : D → S := setSlot 1
def q1e_are_looks : M D := gFz (gCall f_are_outcomes (aCons (oEx (gCallB fLen (aCons (oVar 0) (aNil)))) (aCons (oVar 1) (aNil))))
def b_are_looks : S := sSeq (sIf (tNotM (tTru (oEx (gCall f_is_tuple (aCons (oEx (gC (.int 1))) (aCons (oEx (gC (.int 8))) (aCons (oVar 0) (aNil)))))))) (sRet (gC (.bl false))) (sPass))
    (sRet (gCallB fAll (aCons (oEx (gLc (iSeq (gVar 0)) (q1t_are_looks) (tYesM) (q1e_are_looks) [1])) (aNil))))
def f_are_looks : List D → Out := runDef 1 2 [] b_are_looks
def q1t_are_rising_standings : D → S := setSlot 2
def q1e_are_rising_standings : M D := gFz (gCall f_is_below (aCons (oVar 0) (aCons (oVar 2) (aNil))))
def b_are_rising_standings : S := sRet (gAndV (gCall f_is_tuple (aCons (oEx (gC (.int 0))) (aCons (oVar 0) (aCons (oVar 1) (aNil))))) (gAndV (gCallB fAll (aCons (oEx (gLc (iSeq (gVar 1)) (q1t_are_rising_standings) (tYesM) (q1e_are_rising_standings) [2])) (aNil))) (gCall f_rising (aCons (oVar 1) (aNil)))))
def f_are_rising_standings : List D → Out := runDef 2 3 [] b_are_rising_standings
def q1t_are_drifts : D → S := setSlot 2
def q1e_are_drifts : M D := gFz (gCall f_are_rising_standings (aCons (oVar 0) (aCons (oVar 2) (aNil))))
def b_are_drifts : S := sRet (gAndV (gCall f_is_tuple (aCons (oVar 0) (aCons (oVar 0) (aCons (oVar 1) (aNil))))) (gCallB fAll (aCons (oEx (gLc (iSeq (gVar 1)) (q1t_are_drifts) (tYesM) (q1e_are_drifts) [2])) (aNil))))
def f_are_drifts : List D → Out := runDef 2 3 [] b_are_drifts
def b_is_put : S := sRet (gAndV (gCall f_is_tuple (aCons (oEx (gC (.int 2))) (aCons (oEx (gC (.int 2))) (aCons (oVar 1) (aNil))))) (gAndV (gCall f_is_below (aCons (oVar 0) (aCons (oEx (gOp2 fIx (oVar 1) (oEx (gC (.int 0))))) (aNil)))) (gCall f_are_rising_standings (aCons (oVar 0) (aCons (oEx (gOp2 fIx (oVar 1) (oEx (gC (.int 1))))) (aNil))))))
def f_is_put : List D → Out := runDef 2 2 [] b_is_put
def q1t_are_puts : D → S := setSlot 2
def q1e_are_puts : M D := gFz (gCall f_is_put (aCons (oVar 0) (aCons (oVar 2) (aNil))))
def b_are_puts : S := sRet (gAndV (gCall f_is_tuple (aCons (oEx (gC (.int 0))) (aCons (oEx (gC (.int 4))) (aCons (oVar 1) (aNil))))) (gCallB fAll (aCons (oEx (gLc (iSeq (gVar 1)) (q1t_are_puts) (tYesM) (q1e_are_puts) [2])) (aNil))))
def f_are_puts : List D → Out := runDef 2 3 [] b_are_puts
def b_Kind_init : S := sSeq (sIf (tNotM (tTru (oEx (gCall f_are_looks (aCons (oVar 1) (aNil)))))) (sNever) (sPass))
    (sSeq (sSet 4 (gCallB fLen (aCons (oVar 1) (aNil))))
    (sSeq (sIf (tNotM (tTru (oEx (gCall f_are_drifts (aCons (oVar 4) (aCons (oVar 2) (aNil))))))) (sNever) (sPass))
    (sSeq (sIf (tNotM (tTru (oEx (gCall f_are_puts (aCons (oVar 4) (aCons (oVar 3) (aNil))))))) (sNever) (sPass))
    (sSeq (sSetF 0 "looks" ["Kind"] (gVar 1))
    (sSeq (sSetF 0 "drifts" ["Kind"] (gVar 2))
    (sSeq (sSetF 0 "puts" ["Kind"] (gVar 3))
    (sSetF 0 "size" ["Kind"] (gVar 4))))))))
def f_Kind_init : List D → Out := runDef 4 5 [0] b_Kind_init
def q1t__law_is_sure : D → S := setSlot 2
def q1e__law_is_sure : M D := gCallB fLen (aCons (oVar 2) (aNil))
def q2t__law_is_sure : D → S := setSlot 2
def q2e__law_is_sure : M D := gCallB fLen (aCons (oVar 2) (aNil))
def b__law_is_sure : S := sRet (gAndV (gOp2 fEq (oEx (gLc (iSeq (gVar 0)) (q1t__law_is_sure) (tYesM) (q1e__law_is_sure) [2])) (oEx (gOp2 fMulL (oEx (gLst (aCons (oEx (gC (.int 1))) (aNil)))) (oEx (gCallB fLen (aCons (oVar 0) (aNil))))))) (gOp2 fEq (oEx (gLc (iSeq (gVar 1)) (q2t__law_is_sure) (tYesM) (q2e__law_is_sure) [2])) (oEx (gOp2 fMulL (oEx (gLst (aCons (oEx (gC (.int 0))) (aNil)))) (oEx (gCallB fLen (aCons (oVar 0) (aNil))))))))
def f__law_is_sure : List D → Out := runDef 2 3 [] b__law_is_sure
def q1t_sure : D → S := setSlot 1
def q1e_sure : M D := gOp2 fEq (oEx (gCallB fLen (aCons (oVar 1) (aNil)))) (oEx (gC (.int 1)))
def q2t_sure : D → S := setSlot 2
def q2e_sure : M D := gOp2 fEq (oEx (gCallB fLen (aCons (oVar 2) (aNil)))) (oEx (gC (.int 0)))
def b_sure : S := sRet (gAndV (gCallB fAll (aCons (oEx (gLc (iSeq (gFld "looks" ["Kind"] (oVar 0))) (q1t_sure) (tYesM) (q1e_sure) [1])) (aNil))) (gCallB fAll (aCons (oEx (gLc (iSeq (gFld "drifts" ["Kind"] (oVar 0))) (q2t_sure) (tYesM) (q2e_sure) [2])) (aNil))))
def f_sure : List D → Out := runDef 1 3 [] b_sure
def b_check_standing : S := sIf (tNotM (tTru (oEx (gCall f_is_below (aCons (oEx (gFld "size" ["Kind"] (oVar 0))) (aCons (oVar 1) (aNil))))))) (sRaise "NoStanding") (sPass)
def f_check_standing : List D → Out := runDef 2 2 [] b_check_standing
def b_check_sure : S := sIf (tNotM (tTru (oEx (gCall f_sure (aCons (oVar 0) (aNil)))))) (sRaise "NotSure") (sPass)
def f_check_sure : List D → Out := runDef 1 1 [] b_check_sure
def b_only_goal : S := sRet (gOp2 fIx (oEx (gOp2 fIx (oEx (gOp2 fIx (oEx (gFld "looks" ["Kind"] (oVar 0))) (oVar 1))) (oEx (gC (.int 0))))) (oEx (gC (.int 1))))
def f_only_goal : List D → Out := runDef 2 2 [] b_only_goal
def fuel_trail_from : Nat := 1000
def l1_trail_from : S := sExpr (gMut "list" 2 fAppend (aCons (oEx (gFz (gCall f_only_goal (aCons (oVar 0) (aCons (oEx (gOp2 fIx (oVar 2) (oEx (gOp1 fNeg (oEx (gC (.int 1))))))) (aNil)))))) (aNil)))
def b_trail_from : S := sSeq (sSet 2 (gLst (aCons (oEx (gVar 1)) (aNil))))
    (sSeq (whileS (tVal (gOp2 (fIn true) (oEx (gCall f_only_goal (aCons (oVar 0) (aCons (oEx (gOp2 fIx (oVar 2) (oEx (gOp1 fNeg (oEx (gC (.int 1))))))) (aNil))))) (oVar 2))) (l1_trail_from) [] fuel_trail_from)
    (sRet (gMove 2)))
def f_trail_from : List D → Out := runDef 2 3 [] b_trail_from
def b_round_begin : S := sRet (gMut "list" 1 fIndex (aCons (oEx (gFz (gCall f_only_goal (aCons (oVar 0) (aCons (oEx (gOp2 fIx (oVar 1) (oEx (gOp1 fNeg (oEx (gC (.int 1))))))) (aNil)))))) (aNil)))
def f_round_begin : List D → Out := runDef 2 2 [1] b_round_begin
def q1t_least_turn : D → S := setSlot 1
def q1e_least_turn : M D := gFz (gOp2 fAdd (oEx (gSl (oVar 0) (pInt (gVar 1)) (pNone))) (oEx (gSl (oVar 0) (pNone) (pInt (gVar 1)))))
def b_least_turn : S := sRet (gCallB fMinT (aCons (oEx (gLc (iRange1 (gCallB fLen (aCons (oVar 0) (aNil)))) (q1t_least_turn) (tYesM) (q1e_least_turn) [1])) (aNil)))
def f_least_turn : List D → Out := runDef 1 2 [] b_least_turn
def q1t_shortest_round : D → S := setSlot 3
def q1c_shortest_round : M Bool := tVal (gOp2 fEq (oEx (gOp2 fMulT (oEx (gSl (oVar 0) (pNone) (pInt (gVar 3)))) (oEx (gOp2 fDiv (oVar 1) (oVar 3))))) (oVar 0))
def q1e_shortest_round : M D := gVar 3
def b_shortest_round : S := sSeq (sSet 1 (gCallB fLen (aCons (oVar 0) (aNil))))
    (sSeq (sSet 2 (gLc (iRange2 (gC (.int 1)) (gOp2 fAdd (oVar 1) (oEx (gC (.int 1))))) (q1t_shortest_round) (q1c_shortest_round) (q1e_shortest_round) [3]))
    (sRet (gSl (oVar 0) (pNone) (pInt (gOp2 fIx (oVar 2) (oEx (gC (.int 0))))))))
def f_shortest_round : List D → Out := runDef 1 4 [] b_shortest_round
def q1t_class_of : D → S := setSlot 4
def q1e_class_of : M D := gOp2 fIx (oEx (gOp2 fIx (oEx (gOp2 fIx (oEx (gFld "looks" ["Kind"] (oVar 0))) (oVar 4))) (oEx (gC (.int 0))))) (oEx (gC (.int 0)))
def b_class_of : S := sSeq (sExpr (gCall f_check_standing (aCons (oVar 0) (aCons (oVar 1) (aNil)))))
    (sSeq (sExpr (gCall f_check_sure (aCons (oVar 0) (aNil))))
    (sSeq (sSet 2 (gCall f_trail_from (aCons (oVar 0) (aCons (oVar 1) (aNil)))))
    (sSeq (sSet 3 (gLc (iSeq (gSl (oVar 2) (pInt (gCall f_round_begin (aCons (oVar 0) (aCons (oVar 2) (aNil))))) (pNone))) (q1t_class_of) (tYesM) (q1e_class_of) [4]))
    (sRet (gCall f_least_turn (aCons (oEx (gCall f_shortest_round (aCons (oEx (gCallB fTuple (aCons (oVar 3) (aNil)))) (aNil)))) (aNil)))))))
def f_class_of : List D → Out := runDef 2 5 [] b_class_of
def l1__law_long_row : S := sSeq (sAsg (tTupN 2 (tCons0 (setSlot 5) (tCons0 (setSlot 1) (tNil0)))) (gOp2 fIx (oEx (gOp2 fIx (oVar 0) (oVar 1))) (oEx (gC (.int 0)))))
    (sExpr (gMut "list" 3 fAppend (aCons (oEx (gVar 5)) (aNil))))
def i1__law_long_row : M (List D) := iRange1 (gVar 2)
def b__law_long_row : S := sSeq (sSet 3 (gLst (aNil)))
    (sSeq (sFor (i1__law_long_row) (setSlot 4) (l1__law_long_row) [4, 5])
    (sRet (gLst (aCons (oEx (gCallB fTuple (aCons (oVar 3) (aNil)))) (aCons (oEx (gVar 1)) (aNil))))))
def f__law_long_row : List D → Out := runDef 3 6 [] b__law_long_row
def q1t__law_class : D → S := setSlot 5
def q1e__law_class : M D := gFz (gSl (oVar 3) (pInt (gVar 5)) (pInt (gOp2 fAdd (oVar 5) (oVar 4))))
def l1__law_class : S := sIf (tVal (gOp2 fEq (oEx (gSl (oVar 3) (pInt (gVar 4)) (pNone))) (oEx (gSl (oVar 3) (pNone) (pInt (gOp2 fSub (oEx (gC (.int 48))) (oVar 4))))))) (sRet (gCallB fMinT (aCons (oEx (gLc (iRange1 (gVar 4)) (q1t__law_class) (tYesM) (q1e__law_class) [5])) (aNil)))) (sPass)
def i1__law_class : M (List D) := iRange2 (gC (.int 1)) (gC (.int 9))
def b__law_class : S := sSeq (sSet 2 (gOp2 fIx (oEx (gCall f__law_long_row (aCons (oVar 0) (aCons (oVar 1) (aCons (oEx (gC (.int 16))) (aNil)))))) (oEx (gC (.int 1)))))
    (sSeq (sSet 3 (gOp2 fIx (oEx (gCall f__law_long_row (aCons (oVar 0) (aCons (oVar 2) (aCons (oEx (gC (.int 48))) (aNil)))))) (oEx (gC (.int 0)))))
    (sSeq (sFor (i1__law_class) (setSlot 4) (l1__law_class) [4])
    (sRet (gTuple (aNil)))))
def f__law_class : List D → Out := runDef 2 6 [] b__law_class
def l1_law : S := sSeq (sSet 8 (gTold 9 [("NoStanding", false), ("NotSure", true)] "refused" (gCall f_class_of (aCons (oVar 5) (aCons (oVar 7) (aNil))))))
    (sSeq (sIf (tAndM (tNotM (tTru (oVar 6))) (tVal (gOp2 fNe (oVar 8) (oEx (gC (.str "refused")))))) (sRet (gC (.bl false))) (sPass))
    (sIf (tAndM (tTru (oVar 6)) (tOrM (tNotM (tTru (oEx (gCallB (fIsi []) (aCons (oVar 8) (aCons (oEx (gC (.ty "tuple"))) (aNil))))))) (tVal (gOp2 fNe (oVar 8) (oEx (gCall f__law_class (aCons (oVar 2) (aCons (oVar 7) (aNil))))))))) (sRet (gC (.bl false))) (sPass)))
def i1_law : M (List D) := iRange1 (gCallB fLen (aCons (oVar 2) (aNil)))
def b_law : S := sSeq (sSet 1 (gCall f__law_pool (aCons (oVar 0) (aNil))))
    (sSeq (sAsg (tTupN 3 (tCons0 (setSlot 2) (tCons0 (setSlot 3) (tCons0 (setSlot 4) (tNil0))))) (gCall f__law_nearly_sure (aCons (oVar 1) (aNil))))
    (sSeq (sSet 5 (gMake "Kind" f_Kind_init (aCons (oEx (gVar 2)) (aCons (oEx (gVar 3)) (aCons (oEx (gVar 4)) (aNil))))))
    (sSeq (sSet 6 (gCall f__law_is_sure (aCons (oVar 2) (aCons (oVar 3) (aNil)))))
    (sSeq (sIf (tOrM (tNotM (tTru (oEx (gCallB (fIsi []) (aCons (oEx (gCall f_sure (aCons (oVar 5) (aNil)))) (aCons (oEx (gC (.ty "bool"))) (aNil))))))) (tVal (gOp2 fNe (oEx (gCall f_sure (aCons (oVar 5) (aNil)))) (oVar 6)))) (sRet (gC (.bl false))) (sPass))
    (sSeq (sFor (i1_law) (setSlot 7) (l1_law) [7, 8])
    (sRet (gC (.bl true))))))))
end Q

set_option Elab.async false
set_option linter.all false
set_option maxRecDepth 100000
set_option maxHeartbeats 4000000
namespace K09
open PySem PySem.Spec PyProof.Rows L2 VL Q
theorem sc__law_sure_told : FnScope ["_law_call", "_law_told"] ["_law_call"] (defScope s__law_sure_told) := ⟨rfl, rfl, rfl, by decide +kernel, rfl, by decide +kernel, by decide +kernel⟩
theorem sc__law_pool : FnScope ["_law_script", "_law_great", "_law_small", "_law_cell"] ["_law_script"] (defScope s__law_pool) := ⟨rfl, rfl, rfl, by decide +kernel, rfl, by decide +kernel, by decide +kernel⟩
theorem sc__law_draw : FnScope ["_law_pool_here", "_law_many", "_law_digit", "_law_cell", "_law_number"] ["_law_pool_here", "_law_many"] (defScope s__law_draw) := ⟨rfl, rfl, rfl, by decide +kernel, rfl, by decide +kernel, by decide +kernel⟩
theorem sc__law_pick : FnScope ["_law_pool_here", "_law_things"] ["_law_pool_here", "_law_things"] (defScope s__law_pick) := ⟨rfl, rfl, rfl, by decide +kernel, rfl, by decide +kernel, by decide +kernel⟩
theorem sc__law_kind_parts : FnScope ["_law_pool_here", "_law_steady", "_law_many", "_law_answers", "_law_looks", "_law_drifts", "_law_standing", "_law_outcomes", "_law_turn", "_law_row", "_law_puts", "_law_torn"] ["_law_pool_here", "_law_steady"] (defScope s__law_kind_parts) := ⟨rfl, rfl, rfl, by decide +kernel, rfl, by decide +kernel, by decide +kernel⟩
theorem sc__law_nearly_sure : FnScope ["_law_pool_here", "_law_looks", "_law_drifts", "_law_puts", "_law_at", "_law_change", "_law_more"] ["_law_pool_here"] (defScope s__law_nearly_sure) := ⟨rfl, rfl, rfl, by decide +kernel, rfl, by decide +kernel, by decide +kernel⟩
theorem sc_is_tuple : FnScope ["least", "most", "thing"] ["least", "most", "thing"] (defScope s_is_tuple) := ⟨rfl, rfl, rfl, by decide +kernel, rfl, by decide +kernel, by decide +kernel⟩
theorem sc_is_integer : FnScope ["thing"] ["thing"] (defScope s_is_integer) := ⟨rfl, rfl, rfl, by decide +kernel, rfl, by decide +kernel, by decide +kernel⟩
theorem sc_is_below : FnScope ["bound", "thing"] ["bound", "thing"] (defScope s_is_below) := ⟨rfl, rfl, rfl, by decide +kernel, rfl, by decide +kernel, by decide +kernel⟩
theorem sc_is_outcome : FnScope ["size", "thing"] ["size", "thing"] (defScope s_is_outcome) := ⟨rfl, rfl, rfl, by decide +kernel, rfl, by decide +kernel, by decide +kernel⟩
theorem sc_rising : FnScope ["things", "one", "two"] ["things"] (defScope s_rising) := ⟨rfl, rfl, rfl, by decide +kernel, rfl, by decide +kernel, by decide +kernel⟩
theorem sc_are_outcomes : FnScope ["size", "thing", "outcome"] ["size", "thing"] (defScope s_are_outcomes) := ⟨rfl, rfl, rfl, by decide +kernel, rfl, by decide +kernel, by decide +kernel⟩
theorem sc_are_looks : FnScope ["thing", "outcomes"] ["thing"] (defScope s_are_looks) := ⟨rfl, rfl, rfl, by decide +kernel, rfl, by decide +kernel, by decide +kernel⟩
theorem sc_are_rising_standings : FnScope ["size", "thing", "standing"] ["size", "thing"] (defScope s_are_rising_standings) := ⟨rfl, rfl, rfl, by decide +kernel, rfl, by decide +kernel, by decide +kernel⟩
theorem sc_are_drifts : FnScope ["size", "thing", "goals"] ["size", "thing"] (defScope s_are_drifts) := ⟨rfl, rfl, rfl, by decide +kernel, rfl, by decide +kernel, by decide +kernel⟩
theorem sc_is_put : FnScope ["size", "thing"] ["size", "thing"] (defScope s_is_put) := ⟨rfl, rfl, rfl, by decide +kernel, rfl, by decide +kernel, by decide +kernel⟩
theorem sc_are_puts : FnScope ["size", "thing", "put"] ["size", "thing"] (defScope s_are_puts) := ⟨rfl, rfl, rfl, by decide +kernel, rfl, by decide +kernel, by decide +kernel⟩
theorem sc_Kind_init : FnScope ["self", "looks", "drifts", "puts", "size"] ["self", "looks", "drifts", "puts"] (defScope s_Kind_init) := ⟨rfl, rfl, rfl, by decide +kernel, rfl, by decide +kernel, by decide +kernel⟩
theorem sc__law_is_sure : FnScope ["_law_looks", "_law_drifts", "_law_row"] ["_law_looks", "_law_drifts"] (defScope s__law_is_sure) := ⟨rfl, rfl, rfl, by decide +kernel, rfl, by decide +kernel, by decide +kernel⟩
theorem sc_sure : FnScope ["kind", "outcomes", "goals"] ["kind"] (defScope s_sure) := ⟨rfl, rfl, rfl, by decide +kernel, rfl, by decide +kernel, by decide +kernel⟩
theorem sc_check_standing : FnScope ["kind", "standing"] ["kind", "standing"] (defScope s_check_standing) := ⟨rfl, rfl, rfl, by decide +kernel, rfl, by decide +kernel, by decide +kernel⟩
theorem sc_check_sure : FnScope ["kind"] ["kind"] (defScope s_check_sure) := ⟨rfl, rfl, rfl, by decide +kernel, rfl, by decide +kernel, by decide +kernel⟩
theorem sc_only_goal : FnScope ["kind", "standing"] ["kind", "standing"] (defScope s_only_goal) := ⟨rfl, rfl, rfl, by decide +kernel, rfl, by decide +kernel, by decide +kernel⟩
theorem sc_trail_from : FnScope ["kind", "standing", "trail"] ["kind", "standing"] (defScope s_trail_from) := ⟨rfl, rfl, rfl, by decide +kernel, rfl, by decide +kernel, by decide +kernel⟩
theorem sc_round_begin : FnScope ["kind", "trail"] ["kind", "trail"] (defScope s_round_begin) := ⟨rfl, rfl, rfl, by decide +kernel, rfl, by decide +kernel, by decide +kernel⟩
theorem sc_least_turn : FnScope ["answers", "at"] ["answers"] (defScope s_least_turn) := ⟨rfl, rfl, rfl, by decide +kernel, rfl, by decide +kernel, by decide +kernel⟩
theorem sc_shortest_round : FnScope ["answers", "size", "fits", "many"] ["answers"] (defScope s_shortest_round) := ⟨rfl, rfl, rfl, by decide +kernel, rfl, by decide +kernel, by decide +kernel⟩
theorem sc_class_of : FnScope ["kind", "standing", "trail", "turns", "place"] ["kind", "standing"] (defScope s_class_of) := ⟨rfl, rfl, rfl, by decide +kernel, rfl, by decide +kernel, by decide +kernel⟩
theorem sc__law_long_row : FnScope ["_law_looks", "_law_standing", "_law_many", "_law_row", "_law_turn", "_law_answer"] ["_law_looks", "_law_standing", "_law_many"] (defScope s__law_long_row) := ⟨rfl, rfl, rfl, by decide +kernel, rfl, by decide +kernel, by decide +kernel⟩
theorem sc__law_class : FnScope ["_law_looks", "_law_standing", "_law_behind", "_law_row", "_law_length", "_law_at"] ["_law_looks", "_law_standing"] (defScope s__law_class) := ⟨rfl, rfl, rfl, by decide +kernel, rfl, by decide +kernel, by decide +kernel⟩
theorem sc_law : FnScope ["_law_script", "_law_pool_here", "_law_looks", "_law_drifts", "_law_puts", "_law_kind", "_law_due", "_law_standing", "_law_told", "$tab"] ["_law_script"] (defScope s_law) := ⟨rfl, rfl, rfl, by decide +kernel, rfl, by decide +kernel, by decide +kernel⟩
structure Tx (P : Program) (w : World) (K : PySem.W.Frag) (mg : Str → Option Value) (base : Heap) : Prop where
  z_abs : mg "abs" = none
  z_all : mg "all" = none
  z_bool : mg "bool" = none
  z_int : mg "int" = none
  z_isinstance : mg "isinstance" = none
  z_len : mg "len" = none
  z_min : mg "min" = none
  z_range : mg "range" = none
  z_set : mg "set" = none
  z_sorted : mg "sorted" = none
  z_tuple : mg "tuple" = none
  z_zip : mg "zip" = none
  c_ANSWERS : ∃ t, mg "ANSWERS" = some (.int 10 t)
  c_MOST_OUTCOMES : ∃ t, mg "MOST_OUTCOMES" = some (.int 4 t)
  c_MOST_PUTS : ∃ t, mg "MOST_PUTS" = some (.int 4 t)
  c_MOST_STANDINGS : ∃ t, mg "MOST_STANDINGS" = some (.int 8 t)
  k_NoStanding : mg "NoStanding" = some (.ref (He.ga K "NoStanding"))
  k_NotSure : mg "NotSure" = some (.ref (He.ga K "NotSure"))
  xc_NoStanding : XcOk K ⟨mg, K⟩ "NoStanding"
  xc_NotSure : XcOk K ⟨mg, K⟩ "NotSure"
  xm_NotSure : ExM K ⟨mg, K⟩ (.ref (He.ga K "NotSure")) [("NoStanding", false), ("NotSure", true)]
  ok_Kind : ClsOk K ⟨mg, K⟩ "Kind" ["looks", "drifts", "puts", "size"]
  d__law_sure_told : ∃ f fd, Fun K "_law_sure_told" "_law_sure_told" s__law_sure_told f fd ∧ mg "_law_sure_told" = some (.ref f)
  d__law_pool : ∃ f fd, Fun K "_law_pool" "_law_pool" s__law_pool f fd ∧ mg "_law_pool" = some (.ref f)
  d__law_draw : ∃ f fd, Fun K "_law_draw" "_law_draw" s__law_draw f fd ∧ mg "_law_draw" = some (.ref f)
  d__law_pick : ∃ f fd, Fun K "_law_pick" "_law_pick" s__law_pick f fd ∧ mg "_law_pick" = some (.ref f)
  d__law_kind_parts : ∃ f fd, Fun K "_law_kind_parts" "_law_kind_parts" s__law_kind_parts f fd ∧ mg "_law_kind_parts" = some (.ref f)
  d__law_nearly_sure : ∃ f fd, Fun K "_law_nearly_sure" "_law_nearly_sure" s__law_nearly_sure f fd ∧ mg "_law_nearly_sure" = some (.ref f)
  d_is_tuple : ∃ f fd, Fun K "is_tuple" "is_tuple" s_is_tuple f fd ∧ mg "is_tuple" = some (.ref f)
  d_is_integer : ∃ f fd, Fun K "is_integer" "is_integer" s_is_integer f fd ∧ mg "is_integer" = some (.ref f)
  d_is_below : ∃ f fd, Fun K "is_below" "is_below" s_is_below f fd ∧ mg "is_below" = some (.ref f)
  d_is_outcome : ∃ f fd, Fun K "is_outcome" "is_outcome" s_is_outcome f fd ∧ mg "is_outcome" = some (.ref f)
  d_rising : ∃ f fd, Fun K "rising" "rising" s_rising f fd ∧ mg "rising" = some (.ref f)
  d_are_outcomes : ∃ f fd, Fun K "are_outcomes" "are_outcomes" s_are_outcomes f fd ∧ mg "are_outcomes" = some (.ref f)
  d_are_looks : ∃ f fd, Fun K "are_looks" "are_looks" s_are_looks f fd ∧ mg "are_looks" = some (.ref f)
  d_are_rising_standings : ∃ f fd, Fun K "are_rising_standings" "are_rising_standings" s_are_rising_standings f fd ∧ mg "are_rising_standings" = some (.ref f)
  d_are_drifts : ∃ f fd, Fun K "are_drifts" "are_drifts" s_are_drifts f fd ∧ mg "are_drifts" = some (.ref f)
  d_is_put : ∃ f fd, Fun K "is_put" "is_put" s_is_put f fd ∧ mg "is_put" = some (.ref f)
  d_are_puts : ∃ f fd, Fun K "are_puts" "are_puts" s_are_puts f fd ∧ mg "are_puts" = some (.ref f)
  m_Kind_init : ∃ C f fd, Mk K C f ∧ Fun K "__init__" "Kind.__init__" s_Kind_init f fd ∧ mg "Kind" = some (.ref C)
  d__law_is_sure : ∃ f fd, Fun K "_law_is_sure" "_law_is_sure" s__law_is_sure f fd ∧ mg "_law_is_sure" = some (.ref f)
  d_sure : ∃ f fd, Fun K "sure" "sure" s_sure f fd ∧ mg "sure" = some (.ref f)
  d_check_standing : ∃ f fd, Fun K "check_standing" "check_standing" s_check_standing f fd ∧ mg "check_standing" = some (.ref f)
  d_check_sure : ∃ f fd, Fun K "check_sure" "check_sure" s_check_sure f fd ∧ mg "check_sure" = some (.ref f)
  d_only_goal : ∃ f fd, Fun K "only_goal" "only_goal" s_only_goal f fd ∧ mg "only_goal" = some (.ref f)
  d_trail_from : ∃ f fd, Fun K "trail_from" "trail_from" s_trail_from f fd ∧ mg "trail_from" = some (.ref f)
  d_round_begin : ∃ f fd, Fun K "round_begin" "round_begin" s_round_begin f fd ∧ mg "round_begin" = some (.ref f)
  d_least_turn : ∃ f fd, Fun K "least_turn" "least_turn" s_least_turn f fd ∧ mg "least_turn" = some (.ref f)
  d_shortest_round : ∃ f fd, Fun K "shortest_round" "shortest_round" s_shortest_round f fd ∧ mg "shortest_round" = some (.ref f)
  d_class_of : ∃ f fd, Fun K "class_of" "class_of" s_class_of f fd ∧ mg "class_of" = some (.ref f)
  d__law_long_row : ∃ f fd, Fun K "_law_long_row" "_law_long_row" s__law_long_row f fd ∧ mg "_law_long_row" = some (.ref f)
  d__law_class : ∃ f fd, Fun K "_law_class" "_law_class" s__law_class f fd ∧ mg "_law_class" = some (.ref f)
  d_law : ∃ f fd, Fun K "law" "law" s_law f fd ∧ mg "law" = some (.ref f)
section
variable {P : Program} {w : World} {K : PySem.W.Frag} {mg : Str → Option Value} {base : Heap}
theorem fld_drifts (T : Tx P w K mg base) : ∀ c ∈ (["Kind"] : List Str), ∃ fs, ClsOk K ⟨mg, K⟩ c fs ∧ ("drifts" : Str) ∈ fs := by
  intro c m
  simp only [List.mem_cons, List.not_mem_nil, or_false] at m
  subst m; exact ⟨_, T.ok_Kind, by decide⟩
theorem fldc_drifts_Kind (T : Tx P w K mg base) : ∀ c ∈ (["Kind"] : List Str), ∃ fs, ClsOk K ⟨mg, K⟩ c fs ∧ ("drifts" : Str) ∈ fs := by
  intro c m; simp only [List.mem_cons, List.not_mem_nil, or_false] at m; subst m; exact ⟨_, T.ok_Kind, by decide⟩
theorem fld_looks (T : Tx P w K mg base) : ∀ c ∈ (["Kind"] : List Str), ∃ fs, ClsOk K ⟨mg, K⟩ c fs ∧ ("looks" : Str) ∈ fs := by
  intro c m
  simp only [List.mem_cons, List.not_mem_nil, or_false] at m
  subst m; exact ⟨_, T.ok_Kind, by decide⟩
theorem fldc_looks_Kind (T : Tx P w K mg base) : ∀ c ∈ (["Kind"] : List Str), ∃ fs, ClsOk K ⟨mg, K⟩ c fs ∧ ("looks" : Str) ∈ fs := by
  intro c m; simp only [List.mem_cons, List.not_mem_nil, or_false] at m; subst m; exact ⟨_, T.ok_Kind, by decide⟩
theorem fld_puts (T : Tx P w K mg base) : ∀ c ∈ (["Kind"] : List Str), ∃ fs, ClsOk K ⟨mg, K⟩ c fs ∧ ("puts" : Str) ∈ fs := by
  intro c m
  simp only [List.mem_cons, List.not_mem_nil, or_false] at m
  subst m; exact ⟨_, T.ok_Kind, by decide⟩
theorem fldc_puts_Kind (T : Tx P w K mg base) : ∀ c ∈ (["Kind"] : List Str), ∃ fs, ClsOk K ⟨mg, K⟩ c fs ∧ ("puts" : Str) ∈ fs := by
  intro c m; simp only [List.mem_cons, List.not_mem_nil, or_false] at m; subst m; exact ⟨_, T.ok_Kind, by decide⟩
theorem fld_size (T : Tx P w K mg base) : ∀ c ∈ (["Kind"] : List Str), ∃ fs, ClsOk K ⟨mg, K⟩ c fs ∧ ("size" : Str) ∈ fs := by
  intro c m
  simp only [List.mem_cons, List.not_mem_nil, or_false] at m
  subst m; exact ⟨_, T.ok_Kind, by decide⟩
theorem fldc_size_Kind (T : Tx P w K mg base) : ∀ c ∈ (["Kind"] : List Str), ∃ fs, ClsOk K ⟨mg, K⟩ c fs ∧ ("size" : Str) ∈ fs := by
  intro c m; simp only [List.mem_cons, List.not_mem_nil, or_false] at m; subst m; exact ⟨_, T.ok_Kind, by decide⟩
theorem isi_0 (T : Tx P w K mg base) : IsiOk K ⟨mg, K⟩ [] := isi_nil
theorem dv__law_pool {f : Addr} (T : Tx P w K mg base) (cdv : Value) (A : Around) (outer : List PySem.Env) (s : Shared) (H : Hp) (E : XK) (vs : List V) (hr : Room 0 (cxOf (L2.CX P w) P w K mg base ["_law_script", "_law_great", "_law_small", "_law_cell"] "_law_pool" (defScope s__law_pool) f cdv A outer s H E).A) :
    PSs (cxOf (L2.CX P w) P w K mg base ["_law_script", "_law_great", "_law_small", "_law_cell"] "_law_pool" (defScope s__law_pool) f cdv A outer s H E) (defBody s__law_pool) (vS ⟨mg, K⟩ (fun cls d _ H => E cls d H) [] vs b__law_pool) := by
  have tk : Takes (cxOf (L2.CX P w) P w K mg base ["_law_script", "_law_great", "_law_small", "_law_cell"] "_law_pool" (defScope s__law_pool) f cdv A outer s H E) (fun cls d _ H => E cls d H) := takes_of rfl rfl rfl rfl
  exact (vss_cons (vs_setLc (own := [("_law_cell", 3)]) rfl sc__law_pool.nd rfl rfl (by decide) (sw_true rfl rfl rfl (by kernel_rfl)) (vi_seq (ve_sl (po_var (pv 0)) vp_none (vp_some ve_int))) (blkOk_by (by kernel_rfl)) ⟨fun s H C cl fp w0 => (vg_name sc__law_pool.nd rfl (.inl rfl) (may_wp (by decide)))⟩ ⟨fun s H C cl fp => (vts_one (vt_cmp ops_cmp (op_ge.or (op_geP (hu64 hr))) (po_ex (ve_callB ops_abs call_abs rfl T.z_abs rfl (va_cons (po_var (pv 3)) (va_nil pa_nil)))) (po_ex (ve_op ops_pow op_pow (po_ex ve_int) (po_ex ve_int)))))⟩ ⟨fun s H C cl fp => (ve_callB ops_abs call_abs rfl T.z_abs rfl (va_cons (po_var (pv 3)) (va_nil pa_nil)))⟩)
    (vss_cons (vs_setLc (own := [("_law_cell", 3)]) rfl sc__law_pool.nd rfl rfl (by decide) (sw_true rfl rfl rfl (by kernel_rfl)) (vi_seq (ve_sl (po_var (pv 0)) vp_none (vp_some ve_int))) (blkOk_by (by kernel_rfl)) ⟨fun s H C cl fp w0 => (vg_name sc__law_pool.nd rfl (.inl rfl) (may_wp (by decide)))⟩ ⟨fun s H C cl fp => (vts_one (vt_cmp ops_cmp (op_lt.or (op_ltP (hu64 hr))) (po_ex (ve_callB ops_abs call_abs rfl T.z_abs rfl (va_cons (po_var (pv 3)) (va_nil pa_nil)))) (po_ex (ve_op ops_pow op_pow (po_ex ve_int) (po_ex ve_int)))))⟩ ⟨fun s H C cl fp => (ve_op ops_mod op_mod (po_ex (ve_callTy ops_int call_int1 rfl T.z_int rfl (va_cons (po_var (pv 3)) (va_nil pa_nil)))) (po_ex ve_int))⟩)
    (vss_one (vs_ret (ve_lst (va_cons (po_ex (ve_var (pv 1))) (va_cons (po_ex (ve_var (pv 2))) (va_cons (po_ex ve_int) (va_cons (po_ex ve_int) (va_nil pa_nil))))))))))
theorem dn__law_pool (T : Tx P w K mg base) : DnP P w K mg base "_law_pool" 1 f__law_pool := by
  obtain ⟨f, fd, F, g⟩ := T.d__law_pool
  exact ⟨f, fd, ["_law_script"], (def_ok F sc__law_pool [] b__law_pool fun cdv A outer s H E vs hr => dv__law_pool T cdv A outer s H E vs hr), g, F.kp, F.binds fun _ _ _ _ _ _ us hl => match us, hl with | [_], _ => rfl⟩
theorem dv__law_draw {f : Addr} (T : Tx P w K mg base) (cdv : Value) (A : Around) (outer : List PySem.Env) (s : Shared) (H : Hp) (E : XK) (vs : List V) (hr : Room 0 (cxOf (L2.CX P w) P w K mg base ["_law_pool_here", "_law_many", "_law_digit", "_law_cell", "_law_number"] "_law_draw" (defScope s__law_draw) f cdv A outer s H E).A) :
    PSs (cxOf (L2.CX P w) P w K mg base ["_law_pool_here", "_law_many", "_law_digit", "_law_cell", "_law_number"] "_law_draw" (defScope s__law_draw) f cdv A outer s H E) (defBody s__law_draw) (vS ⟨mg, K⟩ (fun cls d _ H => E cls d H) [0] vs b__law_draw) := by
  have tk : Takes (cxOf (L2.CX P w) P w K mg base ["_law_pool_here", "_law_many", "_law_digit", "_law_cell", "_law_number"] "_law_draw" (defScope s__law_draw) f cdv A outer s H E) (fun cls d _ H => E cls d H) := takes_of rfl rfl rfl rfl
  exact (vss_cons (vs_if (PW.pt (vt_and (vt_cmp ops_cmp (op_le.or (op_leP (hu64 hr))) (po_ex (ve_ix (hu64 hr) (po_var (pv 0)) (po_ex ve_int) (fun _ _ => rfl) (fun _ _ => rfl))) (po_ex ve_int)) (pw_and1 (vt_cmp ops_cmp (op_gt.or (op_gtP (hu64 hr))) (po_ex (ve_callB ops_len call_lenA rfl T.z_len rfl (va_cons (po_ex (ve_ix (hu64 hr) (po_var (pv 0)) (po_ex ve_int) (fun _ _ => rfl) (fun _ _ => rfl))) (va_nil pa_nil)))) (po_ex ve_int))))) (vss_cons (vs_put (hu1 hr) (pv 0) (ve_ix (hu64 hr) (po_ex (ve_ix (hu64 hr) (po_var (pv 0)) (po_ex ve_int) (fun _ _ => rfl) (fun _ _ => rfl))) (po_ex ve_int) (fun _ _ => rfl) (fun _ _ => rfl)) ve_int)
    (vss_one (vs_put (hu1 hr) (pv 0) (ve_fz (ve_sl (po_ex (ve_ix (hu64 hr) (po_var (pv 0)) (po_ex ve_int) (fun _ _ => rfl) (fun _ _ => rfl))) (vp_some ve_int) vp_none)) ve_int))) vss_nil)
    (vss_cons (vs_if (vt_cmp ops_cmp (op_gt.or (op_gtP (hu64 hr))) (po_ex (ve_ix (hu64 hr) (po_var (pv 0)) (po_ex ve_int) (fun _ _ => rfl) (fun _ _ => rfl))) (po_ex ve_int)) (vss_cons (vs_set sc__law_draw.nd rfl (.inl rfl) (ve_op ops_mod op_mod (po_ex (ve_callTy ops_int call_int1 rfl T.z_int rfl (va_cons (po_ex (ve_ix (hu64 hr) (po_var (pv 0)) (po_ex ve_int) (fun _ _ => rfl) (fun _ _ => rfl))) (va_nil pa_nil)))) (po_var (pv 1))) (by decide))
    (vss_cons (vs_put (hu1 hr) (pv 0) (ve_op ops_div op_fdiv (po_ex (ve_ix (hu64 hr) (po_var (pv 0)) (po_ex ve_int) (fun _ _ => rfl) (fun _ _ => rfl))) (po_var (pv 1))) ve_int)
    (vss_one (vs_ret (ve_move (pv 2)))))) vss_nil)
    (vss_cons (vs_put (hu1 hr) (pv 0) (ve_fz (ve_op ops_add op_addA (po_ex (ve_ix (hu64 hr) (po_var (pv 0)) (po_ex ve_int) (fun _ _ => rfl) (fun _ _ => rfl))) (po_ex ve_int))) ve_int)
    (vss_cons (vs_set sc__law_draw.nd rfl (.inl rfl) ve_int (by decide))
    (vss_cons (vs_if (vt_cmp ops_cmp (op_gt.or (op_gtP (hu64 hr))) (po_ex (ve_callB ops_len call_lenA rfl T.z_len rfl (va_cons (po_ex (ve_ix (hu64 hr) (po_var (pv 0)) (po_ex ve_int) (fun _ _ => rfl) (fun _ _ => rfl))) (va_nil pa_nil)))) (po_ex ve_int)) (vss_one (vs_set sc__law_draw.nd rfl (.inl rfl) (ve_ix (hu64 hr) (po_ex (ve_ix (hu64 hr) (po_var (pv 0)) (po_ex ve_int) (fun _ _ => rfl) (fun _ _ => rfl))) (po_ex (ve_op ops_mod op_mod (po_ex (ve_callTy ops_int call_int1 rfl T.z_int rfl (va_cons (po_ex (ve_ix (hu64 hr) (po_var (pv 0)) (po_ex ve_int) (fun _ _ => rfl) (fun _ _ => rfl))) (va_nil pa_nil)))) (po_ex (ve_callB ops_len call_lenA rfl T.z_len rfl (va_cons (po_ex (ve_ix (hu64 hr) (po_var (pv 0)) (po_ex ve_int) (fun _ _ => rfl) (fun _ _ => rfl))) (va_nil pa_nil)))))) (fun _ _ => rfl) (fun _ _ => rfl)) (by decide))) vss_nil)
    (vss_cons (vs_set sc__law_draw.nd rfl (.inl rfl) (ve_op ops_mod op_mod (po_ex (ve_callTy ops_int call_int1 rfl T.z_int rfl (va_cons (po_ex (ve_op ops_mul op_mul (po_ex (ve_op ops_add op_addA (po_ex (ve_op ops_add op_addA (po_var (pv 3)) (po_ex (ve_op ops_mul op_mul (po_ex ve_int) (po_ex (ve_ix (hu64 hr) (po_var (pv 0)) (po_ex ve_int) (fun _ _ => rfl) (fun _ _ => rfl))))))) (po_ex ve_int))) (po_ex ve_int))) (va_nil pa_nil)))) (po_ex ve_int)) (by decide))
    (vss_cons (vs_set sc__law_draw.nd rfl (.inl rfl) (ve_op ops_mod op_mod (po_ex (ve_callTy ops_int call_int1 rfl T.z_int rfl (va_cons (po_ex (ve_op ops_mul op_mul (po_var (pv 4)) (po_ex (ve_op ops_add op_addA (po_ex (ve_op ops_div op_fdiv (po_var (pv 4)) (po_ex ve_int))) (po_ex ve_int))))) (va_nil pa_nil)))) (po_ex ve_int)) (by decide))
    (vss_cons (vs_set sc__law_draw.nd rfl (.inl rfl) (ve_op ops_mod op_mod (po_ex (ve_callTy ops_int call_int1 rfl T.z_int rfl (va_cons (po_ex (ve_op ops_mul op_mul (po_var (pv 4)) (po_ex (ve_op ops_add op_addA (po_ex (ve_op ops_div op_fdiv (po_var (pv 4)) (po_ex ve_int))) (po_ex ve_int))))) (va_nil pa_nil)))) (po_ex ve_int)) (by decide))
    (vss_one (vs_ret (ve_op ops_mod op_mod (po_ex (ve_callTy ops_int call_int1 rfl T.z_int rfl (va_cons (po_ex (ve_op ops_div op_fdiv (po_var (pv 4)) (po_ex ve_int))) (va_nil pa_nil)))) (po_var (pv 1)))))))))))))
theorem dn__law_draw (T : Tx P w K mg base) : DnP P w K mg base "_law_draw" 1 f__law_draw := by
  obtain ⟨f, fd, F, g⟩ := T.d__law_draw
  exact ⟨f, fd, ["_law_pool_here", "_law_many"], (def_ok F sc__law_draw [0] b__law_draw fun cdv A outer s H E vs hr => dv__law_draw T cdv A outer s H E vs hr), g, F.kp, F.binds fun _ _ _ _ _ _ us hl => match us, hl with | [_, _], _ => rfl⟩
theorem dv__law_pick {f : Addr} (T : Tx P w K mg base) (cdv : Value) (A : Around) (outer : List PySem.Env) (s : Shared) (H : Hp) (E : XK) (vs : List V) (hr : Room 1 (cxOf (L2.CX P w) P w K mg base ["_law_pool_here", "_law_things"] "_law_pick" (defScope s__law_pick) f cdv A outer s H E).A) :
    PSs (cxOf (L2.CX P w) P w K mg base ["_law_pool_here", "_law_things"] "_law_pick" (defScope s__law_pick) f cdv A outer s H E) (defBody s__law_pick) (vS ⟨mg, K⟩ (fun cls d _ H => E cls d H) [0] vs b__law_pick) := by
  have tk : Takes (cxOf (L2.CX P w) P w K mg base ["_law_pool_here", "_law_things"] "_law_pick" (defScope s__law_pick) f cdv A outer s H E) (fun cls d _ H => E cls d H) := takes_of rfl rfl rfl rfl
  exact (vss_one (vs_ret (ve_ix (hu64 hr) (po_var (pv 1)) (po_ex (ve_call (dn__law_draw T) (hr.mono (by decide)) rfl tk (va_cons (po_var (pv 0)) (va_cons (po_ex (ve_callB ops_len call_lenA rfl T.z_len rfl (va_cons (po_var (pv 1)) (va_nil pa_nil)))) (va_nil pa_nil))))) (fun _ _ => rfl) (fun _ _ => rfl))))
theorem dn__law_pick (T : Tx P w K mg base) : DnP P w K mg base "_law_pick" 2 f__law_pick := by
  obtain ⟨f, fd, F, g⟩ := T.d__law_pick
  exact ⟨f, fd, ["_law_pool_here", "_law_things"], (def_ok F sc__law_pick [0] b__law_pick fun cdv A outer s H E vs hr => dv__law_pick T cdv A outer s H E vs hr), g, F.kp, F.binds fun _ _ _ _ _ _ us hl => match us, hl with | [_, _], _ => rfl⟩
theorem dv__law_kind_parts {f : Addr} (T : Tx P w K mg base) (cdv : Value) (A : Around) (outer : List PySem.Env) (s : Shared) (H : Hp) (E : XK) (vs : List V) (hr : Room 2 (cxOf (L2.CX P w) P w K mg base ["_law_pool_here", "_law_steady", "_law_many", "_law_answers", "_law_looks", "_law_drifts", "_law_standing", "_law_outcomes", "_law_turn", "_law_row", "_law_puts", "_law_torn"] "_law_kind_parts" (defScope s__law_kind_parts) f cdv A outer s H E).A) :
    PSs (cxOf (L2.CX P w) P w K mg base ["_law_pool_here", "_law_steady", "_law_many", "_law_answers", "_law_looks", "_law_drifts", "_law_standing", "_law_outcomes", "_law_turn", "_law_row", "_law_puts", "_law_torn"] "_law_kind_parts" (defScope s__law_kind_parts) f cdv A outer s H E) (defBody s__law_kind_parts) (vS ⟨mg, K⟩ (fun cls d _ H => E cls d H) [0] vs b__law_kind_parts) := by
  have tk : Takes (cxOf (L2.CX P w) P w K mg base ["_law_pool_here", "_law_steady", "_law_many", "_law_answers", "_law_looks", "_law_drifts", "_law_standing", "_law_outcomes", "_law_turn", "_law_row", "_law_puts", "_law_torn"] "_law_kind_parts" (defScope s__law_kind_parts) f cdv A outer s H E) (fun cls d _ H => E cls d H) := takes_of rfl rfl rfl rfl
  exact (vss_cons (vs_set sc__law_kind_parts.nd rfl (.inl rfl) (ve_call (dn__law_pick T) (hr.mono (by decide)) rfl tk (va_cons (po_var (pv 0)) (va_cons (po_ex (ve_lst (va_cons (po_ex ve_int) (va_cons (po_ex ve_int) (va_cons (po_ex ve_int) (va_cons (po_ex ve_int) (va_cons (po_ex ve_int) (va_cons (po_ex ve_int) (va_cons (po_ex ve_int) (va_cons (po_ex ve_int) (va_nil pa_nil))))))))))) (va_nil pa_nil)))) (by decide))
    (vss_cons (vs_set sc__law_kind_parts.nd rfl (.inl rfl) (ve_call (dn__law_pick T) (hr.mono (by decide)) rfl tk (va_cons (po_var (pv 0)) (va_cons (po_ex (ve_lst (va_cons (po_ex ve_int) (va_cons (po_ex ve_int) (va_cons (po_ex ve_int) (va_cons (po_ex ve_int) (va_cons (po_ex ve_int) (va_nil pa_nil)))))))) (va_nil pa_nil)))) (by decide))
    (vss_cons (vs_set sc__law_kind_parts.nd rfl (.inl rfl) (ve_lst (va_nil pa_nil)) (by decide))
    (vss_cons (vs_set sc__law_kind_parts.nd rfl (.inl rfl) (ve_lst (va_nil pa_nil)) (by decide))
    (vss_cons (vs_for [7, 8, 9] (passes_of rfl) rfl (vi_range1 rfl T.z_range (ve_var (pv 2))) (vg_name sc__law_kind_parts.nd rfl (.inl rfl) (may_pn (by decide))) (vss_cons (vs_set sc__law_kind_parts.nd rfl (.inl rfl) ve_dictT (by decide))
    (vss_cons (vs_for [8] (passes_of rfl) rfl (vi_range1 rfl T.z_range (ve_ife (vt_tru (po_var (pv 1))) ve_int (ve_call (dn__law_pick T) (hr.mono (by decide)) rfl tk (va_cons (po_var (pv 0)) (va_cons (po_ex (ve_lst (va_cons (po_ex ve_int) (va_cons (po_ex ve_int) (va_cons (po_ex ve_int) (va_cons (po_ex ve_int) (va_cons (po_ex ve_int) (va_cons (po_ex ve_int) (va_cons (po_ex ve_int) (va_nil pa_nil)))))))))) (va_nil pa_nil)))))) (vg_name sc__law_kind_parts.nd rfl (.inl rfl) (may_pn (by decide))) (vss_one (vs_put (hu1 hr) (pv 7) ve_bl (ve_tup (va_cons (po_ex (ve_fz (ve_call (dn__law_draw T) (hr.mono (by decide)) rfl tk (va_cons (po_var (pv 0)) (va_cons (po_var (pv 3)) (va_nil pa_nil)))))) (va_cons (po_ex (ve_fz (ve_call (dn__law_draw T) (hr.mono (by decide)) rfl tk (va_cons (po_var (pv 0)) (va_cons (po_var (pv 2)) (va_nil pa_nil)))))) (va_nil pa_nil)))))))
    (vss_cons (vs_expr (ve_mut opm_append PySem.F.plainAttrs_list PySem.F.slot_list_append PySem.F.type_list_append mt_append (pv 4) (va_cons (po_ex (ve_callTy ops_tuple call_tuple_of rfl T.z_tuple rfl (va_cons (po_ex (ve_callB ops_sorted (call_sortA rfl (hu64 hr)) rfl T.z_sorted rfl (va_cons (po_var (pv 7)) (va_nil pa_nil)))) (va_nil pa_nil)))) (va_nil pa_nil))))
    (vss_cons (vs_set sc__law_kind_parts.nd rfl (.inl rfl) ve_dictK (by decide))
    (vss_cons (vs_for [8] (passes_of rfl) rfl (vi_range1 rfl T.z_range (ve_ife (vt_tru (po_var (pv 1))) ve_int (ve_call (dn__law_pick T) (hr.mono (by decide)) rfl tk (va_cons (po_var (pv 0)) (va_cons (po_ex (ve_lst (va_cons (po_ex ve_int) (va_cons (po_ex ve_int) (va_cons (po_ex ve_int) (va_cons (po_ex ve_int) (va_cons (po_ex ve_int) (va_nil pa_nil)))))))) (va_nil pa_nil)))))) (vg_name sc__law_kind_parts.nd rfl (.inl rfl) (may_pn (by decide))) (vss_one (vs_put (hu1 hr) (pv 9) ve_bl (ve_call (dn__law_draw T) (hr.mono (by decide)) rfl tk (va_cons (po_var (pv 0)) (va_cons (po_var (pv 2)) (va_nil pa_nil)))))))
    (vss_one (vs_expr (ve_mut opm_append PySem.F.plainAttrs_list PySem.F.slot_list_append PySem.F.type_list_append mt_append (pv 5) (va_cons (po_ex (ve_callTy ops_tuple call_tuple_of rfl T.z_tuple rfl (va_cons (po_ex (ve_callB ops_sorted (call_sortA rfl (hu64 hr)) rfl T.z_sorted rfl (va_cons (po_var (pv 9)) (va_nil pa_nil)))) (va_nil pa_nil)))) (va_nil pa_nil)))))))))))
    (vss_cons (vs_set sc__law_kind_parts.nd rfl (.inl rfl) (ve_lst (va_nil pa_nil)) (by decide))
    (vss_cons (vs_for [8, 11] (passes_of rfl) rfl (vi_range1 rfl T.z_range (ve_call (dn__law_pick T) (hr.mono (by decide)) rfl tk (va_cons (po_var (pv 0)) (va_cons (po_ex (ve_lst (va_cons (po_ex ve_int) (va_cons (po_ex ve_int) (va_cons (po_ex ve_int) (va_cons (po_ex ve_int) (va_cons (po_ex ve_int) (va_nil pa_nil)))))))) (va_nil pa_nil))))) (vg_name sc__law_kind_parts.nd rfl (.inl rfl) (may_pn (by decide))) (vss_cons (vs_setLc (own := [("_law_standing", 6)]) rfl sc__law_kind_parts.nd rfl rfl (by decide) (sw_true rfl rfl rfl (by kernel_rfl)) (vi_range1 rfl T.z_range (ve_var (pv 2))) (blkOk_by (by kernel_rfl)) ⟨fun s H C cl fp w0 => (vg_name sc__law_kind_parts.nd rfl (.inl rfl) (may_wp (by decide)))⟩ ⟨fun s H C cl fp => (vts_one (vt_cmp ops_eq (op_eqP (hu64 hr)) (po_ex (ve_call (dn__law_draw T) (hr.mono (by decide)) rfl takes0 (va_cons (po_var (pv 0)) (va_cons (po_ex ve_int) (va_nil pa_nil))))) (po_ex ve_int)))⟩ ⟨fun s H C cl fp => (ve_var (pv 6))⟩)
    (vss_one (vs_expr (ve_mut opm_append PySem.F.plainAttrs_list PySem.F.slot_list_append PySem.F.type_list_append mt_append (pv 10) (va_cons (po_ex (ve_tup (va_cons (po_ex (ve_fz (ve_call (dn__law_draw T) (hr.mono (by decide)) rfl tk (va_cons (po_var (pv 0)) (va_cons (po_var (pv 2)) (va_nil pa_nil)))))) (va_cons (po_ex (ve_callTy ops_tuple call_tuple_of rfl T.z_tuple rfl (va_cons (po_var (pv 11)) (va_nil pa_nil)))) (va_nil pa_nil))))) (va_nil pa_nil)))))))
    (vss_one (vs_ret (ve_lst (va_cons (po_ex (ve_callTy ops_tuple call_tuple_of rfl T.z_tuple rfl (va_cons (po_var (pv 4)) (va_nil pa_nil)))) (va_cons (po_ex (ve_callTy ops_tuple call_tuple_of rfl T.z_tuple rfl (va_cons (po_var (pv 5)) (va_nil pa_nil)))) (va_cons (po_ex (ve_callTy ops_tuple call_tuple_of rfl T.z_tuple rfl (va_cons (po_var (pv 10)) (va_nil pa_nil)))) (va_nil pa_nil))))))))))))))
theorem dn__law_kind_parts (T : Tx P w K mg base) : DnP P w K mg base "_law_kind_parts" 3 f__law_kind_parts := by
  obtain ⟨f, fd, F, g⟩ := T.d__law_kind_parts
  exact ⟨f, fd, ["_law_pool_here", "_law_steady"], (def_ok F sc__law_kind_parts [0] b__law_kind_parts fun cdv A outer s H E vs hr => dv__law_kind_parts T cdv A outer s H E vs hr), g, F.kp, F.binds fun _ _ _ _ _ _ us hl => match us, hl with | [_, _], _ => rfl⟩
theorem dv__law_nearly_sure {f : Addr} (T : Tx P w K mg base) (cdv : Value) (A : Around) (outer : List PySem.Env) (s : Shared) (H : Hp) (E : XK) (vs : List V) (hr : Room 3 (cxOf (L2.CX P w) P w K mg base ["_law_pool_here", "_law_looks", "_law_drifts", "_law_puts", "_law_at", "_law_change", "_law_more"] "_law_nearly_sure" (defScope s__law_nearly_sure) f cdv A outer s H E).A) :
    PSs (cxOf (L2.CX P w) P w K mg base ["_law_pool_here", "_law_looks", "_law_drifts", "_law_puts", "_law_at", "_law_change", "_law_more"] "_law_nearly_sure" (defScope s__law_nearly_sure) f cdv A outer s H E) (defBody s__law_nearly_sure) (vS ⟨mg, K⟩ (fun cls d _ H => E cls d H) [0] vs b__law_nearly_sure) := by
  have tk : Takes (cxOf (L2.CX P w) P w K mg base ["_law_pool_here", "_law_looks", "_law_drifts", "_law_puts", "_law_at", "_law_change", "_law_more"] "_law_nearly_sure" (defScope s__law_nearly_sure) f cdv A outer s H E) (fun cls d _ H => E cls d H) := takes_of rfl rfl rfl rfl
  exact (vss_cons (vs_asg (fun d => (nb_tup (nb_cons (fun _ => nb_set) (nb_cons (fun _ => nb_set) (nb_cons (fun _ => nb_set) (fun _ => nb_nil))))) d) (ve_call (dn__law_kind_parts T) (hr.mono (by decide)) rfl tk (va_cons (po_var (pv 0)) (va_cons (po_ex ve_bl) (va_nil pa_nil)))) (vg_tup rfl (vgs_cons (vg_name sc__law_nearly_sure.nd rfl (.inl rfl) (may_pn (by decide))) (vgs_cons (vg_name sc__law_nearly_sure.nd rfl (.inl rfl) (may_pn (by decide))) (vgs_cons (vg_name sc__law_nearly_sure.nd rfl (.inl rfl) (may_pn (by decide))) vgs_nil)))))
    (vss_cons (vs_set sc__law_nearly_sure.nd rfl (.inl rfl) (ve_call (dn__law_draw T) (hr.mono (by decide)) rfl tk (va_cons (po_var (pv 0)) (va_cons (po_ex (ve_callB ops_len call_lenA rfl T.z_len rfl (va_cons (po_var (pv 1)) (va_nil pa_nil)))) (va_nil pa_nil)))) (by decide))
    (vss_cons (vs_set sc__law_nearly_sure.nd rfl (.inl rfl) (ve_call (dn__law_draw T) (hr.mono (by decide)) rfl tk (va_cons (po_var (pv 0)) (va_cons (po_ex ve_int) (va_nil pa_nil)))) (by decide))
    (vss_cons (vs_if (vt_cmp ops_eq (op_eqP (hu64 hr)) (po_var (pv 5)) (po_ex ve_int)) (vss_cons (vs_set sc__law_nearly_sure.nd rfl (.inl rfl) (ve_callTy ops_tuple call_tuple_of rfl T.z_tuple rfl (va_cons (po_ex (ve_sortSet rfl (hu64 hr) rfl T.z_sorted rfl T.z_set (po_ex (ve_lst (va_cons (po_ex (ve_ix (hu64 hr) (po_ex (ve_ix (hu64 hr) (po_var (pv 1)) (po_var (pv 4)) (fun _ _ => rfl) (fun _ _ => rfl))) (po_ex ve_int) (fun _ _ => rfl) (fun _ _ => rfl))) (va_cons (po_ex (ve_tup (va_cons (po_ex (ve_fz (ve_call (dn__law_draw T) (hr.mono (by decide)) rfl tk (va_cons (po_var (pv 0)) (va_cons (po_ex ve_int) (va_nil pa_nil)))))) (va_cons (po_ex (ve_fz (ve_call (dn__law_draw T) (hr.mono (by decide)) rfl tk (va_cons (po_var (pv 0)) (va_cons (po_ex (ve_callB ops_len call_lenA rfl T.z_len rfl (va_cons (po_var (pv 1)) (va_nil pa_nil)))) (va_nil pa_nil)))))) (va_nil pa_nil))))) (va_nil pa_nil))))))) (va_nil pa_nil))) (by decide))
    (vss_one (vs_set sc__law_nearly_sure.nd rfl (.inl rfl) (ve_op ops_add op_addA (po_ex (ve_op ops_add op_addA (po_ex (ve_sl (po_var (pv 1)) vp_none (vp_some (ve_var (pv 4))))) (po_ex (ve_tup (va_cons (po_ex (ve_var (pv 6))) (va_nil pa_nil)))))) (po_ex (ve_sl (po_var (pv 1)) (vp_some (ve_op ops_add op_addA (po_var (pv 4)) (po_ex ve_int))) vp_none))) (by decide)))) vss_nil)
    (vss_cons (vs_if (vt_cmp ops_eq (op_eqP (hu64 hr)) (po_var (pv 5)) (po_ex ve_int)) (vss_one (vs_set sc__law_nearly_sure.nd rfl (.inl rfl) (ve_op ops_add op_addA (po_ex (ve_op ops_add op_addA (po_ex (ve_sl (po_var (pv 2)) vp_none (vp_some (ve_var (pv 4))))) (po_ex (ve_tup (va_cons (po_ex (ve_tup (va_cons (po_ex (ve_fz (ve_call (dn__law_draw T) (hr.mono (by decide)) rfl tk (va_cons (po_var (pv 0)) (va_cons (po_ex (ve_callB ops_len call_lenA rfl T.z_len rfl (va_cons (po_var (pv 1)) (va_nil pa_nil)))) (va_nil pa_nil)))))) (va_nil pa_nil)))) (va_nil pa_nil)))))) (po_ex (ve_sl (po_var (pv 2)) (vp_some (ve_op ops_add op_addA (po_var (pv 4)) (po_ex ve_int))) vp_none))) (by decide))) vss_nil)
    (vss_one (vs_ret (ve_lst (va_cons (po_ex (ve_var (pv 1))) (va_cons (po_ex (ve_var (pv 2))) (va_cons (po_ex (ve_var (pv 3))) (va_nil pa_nil))))))))))))
theorem dn__law_nearly_sure (T : Tx P w K mg base) : DnP P w K mg base "_law_nearly_sure" 4 f__law_nearly_sure := by
  obtain ⟨f, fd, F, g⟩ := T.d__law_nearly_sure
  exact ⟨f, fd, ["_law_pool_here"], (def_ok F sc__law_nearly_sure [0] b__law_nearly_sure fun cdv A outer s H E vs hr => dv__law_nearly_sure T cdv A outer s H E vs hr), g, F.kp, F.binds fun _ _ _ _ _ _ us hl => match us, hl with | [_], _ => rfl⟩
theorem dv_is_tuple {f : Addr} (T : Tx P w K mg base) (cdv : Value) (A : Around) (outer : List PySem.Env) (s : Shared) (H : Hp) (E : XK) (vs : List V) (hr : Room 0 (cxOf (L2.CX P w) P w K mg base ["least", "most", "thing"] "is_tuple" (defScope s_is_tuple) f cdv A outer s H E).A) :
    PSs (cxOf (L2.CX P w) P w K mg base ["least", "most", "thing"] "is_tuple" (defScope s_is_tuple) f cdv A outer s H E) (defBody s_is_tuple) (vS ⟨mg, K⟩ (fun cls d _ H => E cls d H) [] vs b_is_tuple) := by
  have tk : Takes (cxOf (L2.CX P w) P w K mg base ["least", "most", "thing"] "is_tuple" (defScope s_is_tuple) f cdv A outer s H E) (fun cls d _ H => E cls d H) := takes_of rfl rfl rfl rfl
  exact (vss_one (vs_ret (ve_and (ve_callB (ops_isi (isi_0 T)) call_isiA rfl T.z_isinstance rfl (va_cons (po_var (pv 2)) (va_cons (po_ex (ve_ty rfl T.z_tuple rfl)) (va_nil pa_nil)))) (pe_one (ve_chain ops_cmp ops_cmp (op_le.or (op_leP (hu64 hr))) (op_le.or (op_leP (hu64 hr))) (po_var (pv 0)) (po_ex (ve_callB ops_len call_lenA rfl T.z_len rfl (va_cons (po_var (pv 2)) (va_nil pa_nil)))) (po_var (pv 1)))))))
theorem dn_is_tuple (T : Tx P w K mg base) : DnP P w K mg base "is_tuple" 1 f_is_tuple := by
  obtain ⟨f, fd, F, g⟩ := T.d_is_tuple
  exact ⟨f, fd, ["least", "most", "thing"], (def_ok F sc_is_tuple [] b_is_tuple fun cdv A outer s H E vs hr => dv_is_tuple T cdv A outer s H E vs hr), g, F.kp, F.binds fun _ _ _ _ _ _ us hl => match us, hl with | [_, _, _], _ => rfl⟩
theorem dv_is_integer {f : Addr} (T : Tx P w K mg base) (cdv : Value) (A : Around) (outer : List PySem.Env) (s : Shared) (H : Hp) (E : XK) (vs : List V) (hr : Room 0 (cxOf (L2.CX P w) P w K mg base ["thing"] "is_integer" (defScope s_is_integer) f cdv A outer s H E).A) :
    PSs (cxOf (L2.CX P w) P w K mg base ["thing"] "is_integer" (defScope s_is_integer) f cdv A outer s H E) (defBody s_is_integer) (vS ⟨mg, K⟩ (fun cls d _ H => E cls d H) [] vs b_is_integer) := by
  have tk : Takes (cxOf (L2.CX P w) P w K mg base ["thing"] "is_integer" (defScope s_is_integer) f cdv A outer s H E) (fun cls d _ H => E cls d H) := takes_of rfl rfl rfl rfl
  exact (vss_one (vs_ret (ve_and (ve_callB (ops_isi (isi_0 T)) call_isiA rfl T.z_isinstance rfl (va_cons (po_var (pv 0)) (va_cons (po_ex (ve_ty rfl T.z_int rfl)) (va_nil pa_nil)))) (pe_one (ve_not (ve_callB (ops_isi (isi_0 T)) call_isiA rfl T.z_isinstance rfl (va_cons (po_var (pv 0)) (va_cons (po_ex (ve_ty rfl T.z_bool rfl)) (va_nil pa_nil)))))))))
theorem dn_is_integer (T : Tx P w K mg base) : DnP P w K mg base "is_integer" 1 f_is_integer := by
  obtain ⟨f, fd, F, g⟩ := T.d_is_integer
  exact ⟨f, fd, ["thing"], (def_ok F sc_is_integer [] b_is_integer fun cdv A outer s H E vs hr => dv_is_integer T cdv A outer s H E vs hr), g, F.kp, F.binds fun _ _ _ _ _ _ us hl => match us, hl with | [_], _ => rfl⟩
theorem dv_is_below {f : Addr} (T : Tx P w K mg base) (cdv : Value) (A : Around) (outer : List PySem.Env) (s : Shared) (H : Hp) (E : XK) (vs : List V) (hr : Room 1 (cxOf (L2.CX P w) P w K mg base ["bound", "thing"] "is_below" (defScope s_is_below) f cdv A outer s H E).A) :
    PSs (cxOf (L2.CX P w) P w K mg base ["bound", "thing"] "is_below" (defScope s_is_below) f cdv A outer s H E) (defBody s_is_below) (vS ⟨mg, K⟩ (fun cls d _ H => E cls d H) [] vs b_is_below) := by
  have tk : Takes (cxOf (L2.CX P w) P w K mg base ["bound", "thing"] "is_below" (defScope s_is_below) f cdv A outer s H E) (fun cls d _ H => E cls d H) := takes_of rfl rfl rfl rfl
  exact (vss_one (vs_ret (ve_and (ve_call (dn_is_integer T) (hr.mono (by decide)) rfl tk (va_cons (po_var (pv 1)) (va_nil pa_nil))) (pe_one (ve_chain ops_cmp ops_cmp (op_le.or (op_leP (hu64 hr))) (op_lt.or (op_ltP (hu64 hr))) (po_ex ve_int) (po_var (pv 1)) (po_var (pv 0)))))))
theorem dn_is_below (T : Tx P w K mg base) : DnP P w K mg base "is_below" 2 f_is_below := by
  obtain ⟨f, fd, F, g⟩ := T.d_is_below
  exact ⟨f, fd, ["bound", "thing"], (def_ok F sc_is_below [] b_is_below fun cdv A outer s H E vs hr => dv_is_below T cdv A outer s H E vs hr), g, F.kp, F.binds fun _ _ _ _ _ _ us hl => match us, hl with | [_, _], _ => rfl⟩
theorem dv_is_outcome {f : Addr} (T : Tx P w K mg base) (cdv : Value) (A : Around) (outer : List PySem.Env) (s : Shared) (H : Hp) (E : XK) (vs : List V) (hr : Room 2 (cxOf (L2.CX P w) P w K mg base ["size", "thing"] "is_outcome" (defScope s_is_outcome) f cdv A outer s H E).A) :
    PSs (cxOf (L2.CX P w) P w K mg base ["size", "thing"] "is_outcome" (defScope s_is_outcome) f cdv A outer s H E) (defBody s_is_outcome) (vS ⟨mg, K⟩ (fun cls d _ H => E cls d H) [] vs b_is_outcome) := by
  have tk : Takes (cxOf (L2.CX P w) P w K mg base ["size", "thing"] "is_outcome" (defScope s_is_outcome) f cdv A outer s H E) (fun cls d _ H => E cls d H) := takes_of rfl rfl rfl rfl
  exact (vss_one (vs_ret (ve_and (ve_call (dn_is_tuple T) (hr.mono (by decide)) rfl tk (va_cons (po_ex ve_int) (va_cons (po_ex ve_int) (va_cons (po_var (pv 1)) (va_nil pa_nil))))) (ve_and (ve_call (dn_is_below T) (hr.mono (by decide)) rfl tk (va_cons (po_ex (ve_gint rfl T.c_ANSWERS)) (va_cons (po_ex (ve_ix (hu64 hr) (po_var (pv 1)) (po_ex ve_int) (fun _ _ => rfl) (fun _ _ => rfl))) (va_nil pa_nil)))) (pe_one (ve_call (dn_is_below T) (hr.mono (by decide)) rfl tk (va_cons (po_var (pv 0)) (va_cons (po_ex (ve_ix (hu64 hr) (po_var (pv 1)) (po_ex ve_int) (fun _ _ => rfl) (fun _ _ => rfl))) (va_nil pa_nil)))))))))
theorem dn_is_outcome (T : Tx P w K mg base) : DnP P w K mg base "is_outcome" 3 f_is_outcome := by
  obtain ⟨f, fd, F, g⟩ := T.d_is_outcome
  exact ⟨f, fd, ["size", "thing"], (def_ok F sc_is_outcome [] b_is_outcome fun cdv A outer s H E vs hr => dv_is_outcome T cdv A outer s H E vs hr), g, F.kp, F.binds fun _ _ _ _ _ _ us hl => match us, hl with | [_, _], _ => rfl⟩
theorem dv_rising {f : Addr} (T : Tx P w K mg base) (cdv : Value) (A : Around) (outer : List PySem.Env) (s : Shared) (H : Hp) (E : XK) (vs : List V) (hr : Room 0 (cxOf (L2.CX P w) P w K mg base ["things", "one", "two"] "rising" (defScope s_rising) f cdv A outer s H E).A) :
    PSs (cxOf (L2.CX P w) P w K mg base ["things", "one", "two"] "rising" (defScope s_rising) f cdv A outer s H E) (defBody s_rising) (vS ⟨mg, K⟩ (fun cls d _ H => E cls d H) [] vs b_rising) := by
  have tk : Takes (cxOf (L2.CX P w) P w K mg base ["things", "one", "two"] "rising" (defScope s_rising) f cdv A outer s H E) (fun cls d _ H => E cls d H) := takes_of rfl rfl rfl rfl
  exact (vss_one (vs_ret (ve_callB ops_all (cr_all rfl) rfl T.z_all rfl (va_cons (po_ex (ve_lc (own := [("one", 1), ("two", 2)]) rfl sc_rising.nd (vi_zip rfl T.z_zip (ve_var (pv 0)) (ve_sl (po_var (pv 0)) (vp_some ve_int) vp_none)) (blkOk_by (by kernel_rfl)) ⟨fun s H C cl fp w0 => (vg_tup rfl (vgs_cons (vg_name sc_rising.nd rfl (.inl rfl) (may_wp (by decide))) (vgs_cons (vg_name sc_rising.nd rfl (.inl rfl) (may_wp (by decide))) vgs_nil)))⟩ ⟨fun s H C cl fp => vts_nil⟩ ⟨fun s H C cl fp => (ve_cmp ops_cmp (op_lt.or (op_ltP (hu64 hr))) (po_var (pv 1)) (po_var (pv 2)))⟩)) (va_nil pa_nil)))))
theorem dn_rising (T : Tx P w K mg base) : DnP P w K mg base "rising" 1 f_rising := by
  obtain ⟨f, fd, F, g⟩ := T.d_rising
  exact ⟨f, fd, ["things"], (def_ok F sc_rising [] b_rising fun cdv A outer s H E vs hr => dv_rising T cdv A outer s H E vs hr), g, F.kp, F.binds fun _ _ _ _ _ _ us hl => match us, hl with | [_], _ => rfl⟩
theorem dv_are_outcomes {f : Addr} (T : Tx P w K mg base) (cdv : Value) (A : Around) (outer : List PySem.Env) (s : Shared) (H : Hp) (E : XK) (vs : List V) (hr : Room 3 (cxOf (L2.CX P w) P w K mg base ["size", "thing", "outcome"] "are_outcomes" (defScope s_are_outcomes) f cdv A outer s H E).A) :
    PSs (cxOf (L2.CX P w) P w K mg base ["size", "thing", "outcome"] "are_outcomes" (defScope s_are_outcomes) f cdv A outer s H E) (defBody s_are_outcomes) (vS ⟨mg, K⟩ (fun cls d _ H => E cls d H) [] vs b_are_outcomes) := by
  have tk : Takes (cxOf (L2.CX P w) P w K mg base ["size", "thing", "outcome"] "are_outcomes" (defScope s_are_outcomes) f cdv A outer s H E) (fun cls d _ H => E cls d H) := takes_of rfl rfl rfl rfl
  exact (vss_cons (vs_if (vt_not (vt_tru (po_ex (ve_call (dn_is_tuple T) (hr.mono (by decide)) rfl tk (va_cons (po_ex ve_int) (va_cons (po_ex (ve_gint rfl T.c_MOST_OUTCOMES)) (va_cons (po_var (pv 1)) (va_nil pa_nil)))))))) (vss_one (vs_ret ve_bl)) vss_nil)
    (vss_one (vs_ret (ve_and (ve_callB ops_all (cr_all rfl) rfl T.z_all rfl (va_cons (po_ex (ve_lc (own := [("outcome", 2)]) rfl sc_are_outcomes.nd (vi_seq (ve_var (pv 1))) (blkOk_by (by kernel_rfl)) ⟨fun s H C cl fp w0 => (vg_name sc_are_outcomes.nd rfl (.inl rfl) (may_wp (by decide)))⟩ ⟨fun s H C cl fp => vts_nil⟩ ⟨fun s H C cl fp => (ve_fz (ve_call (dn_is_outcome T) (hr.mono (by decide)) rfl takes0 (va_cons (po_var (pv 0)) (va_cons (po_var (pv 2)) (va_nil pa_nil)))))⟩)) (va_nil pa_nil))) (pe_one (ve_call (dn_rising T) (hr.mono (by decide)) rfl tk (va_cons (po_var (pv 1)) (va_nil pa_nil))))))))
theorem dn_are_outcomes (T : Tx P w K mg base) : DnP P w K mg base "are_outcomes" 4 f_are_outcomes := by
  obtain ⟨f, fd, F, g⟩ := T.d_are_outcomes
  exact ⟨f, fd, ["size", "thing"], (def_ok F sc_are_outcomes [] b_are_outcomes fun cdv A outer s H E vs hr => dv_are_outcomes T cdv A outer s H E vs hr), g, F.kp, F.binds fun _ _ _ _ _ _ us hl => match us, hl with | [_, _], _ => rfl⟩
theorem dv_are_looks {f : Addr} (T : Tx P w K mg base) (cdv : Value) (A : Around) (outer : List PySem.Env) (s : Shared) (H : Hp) (E : XK) (vs : List V) (hr : Room 4 (cxOf (L2.CX P w) P w K mg base ["thing", "outcomes"] "are_looks" (defScope s_are_looks) f cdv A outer s H E).A) :
    PSs (cxOf (L2.CX P w) P w K mg base ["thing", "outcomes"] "are_looks" (defScope s_are_looks) f cdv A outer s H E) (defBody s_are_looks) (vS ⟨mg, K⟩ (fun cls d _ H => E cls d H) [] vs b_are_looks) := by
  have tk : Takes (cxOf (L2.CX P w) P w K mg base ["thing", "outcomes"] "are_looks" (defScope s_are_looks) f cdv A outer s H E) (fun cls d _ H => E cls d H) := takes_of rfl rfl rfl rfl
  exact (vss_cons (vs_if (vt_not (vt_tru (po_ex (ve_call (dn_is_tuple T) (hr.mono (by decide)) rfl tk (va_cons (po_ex ve_int) (va_cons (po_ex (ve_gint rfl T.c_MOST_STANDINGS)) (va_cons (po_var (pv 0)) (va_nil pa_nil)))))))) (vss_one (vs_ret ve_bl)) vss_nil)
    (vss_one (vs_ret (ve_callB ops_all (cr_all rfl) rfl T.z_all rfl (va_cons (po_ex (ve_lc (own := [("outcomes", 1)]) rfl sc_are_looks.nd (vi_seq (ve_var (pv 0))) (blkOk_by (by kernel_rfl)) ⟨fun s H C cl fp w0 => (vg_name sc_are_looks.nd rfl (.inl rfl) (may_wp (by decide)))⟩ ⟨fun s H C cl fp => vts_nil⟩ ⟨fun s H C cl fp => (ve_fz (ve_call (dn_are_outcomes T) (hr.mono (by decide)) rfl takes0 (va_cons (po_ex (ve_callB ops_len call_lenA rfl T.z_len rfl (va_cons (po_var (pv 0)) (va_nil pa_nil)))) (va_cons (po_var (pv 1)) (va_nil pa_nil)))))⟩)) (va_nil pa_nil))))))
theorem dn_are_looks (T : Tx P w K mg base) : DnP P w K mg base "are_looks" 5 f_are_looks := by
  obtain ⟨f, fd, F, g⟩ := T.d_are_looks
  exact ⟨f, fd, ["thing"], (def_ok F sc_are_looks [] b_are_looks fun cdv A outer s H E vs hr => dv_are_looks T cdv A outer s H E vs hr), g, F.kp, F.binds fun _ _ _ _ _ _ us hl => match us, hl with | [_], _ => rfl⟩
theorem dv_are_rising_standings {f : Addr} (T : Tx P w K mg base) (cdv : Value) (A : Around) (outer : List PySem.Env) (s : Shared) (H : Hp) (E : XK) (vs : List V) (hr : Room 2 (cxOf (L2.CX P w) P w K mg base ["size", "thing", "standing"] "are_rising_standings" (defScope s_are_rising_standings) f cdv A outer s H E).A) :
    PSs (cxOf (L2.CX P w) P w K mg base ["size", "thing", "standing"] "are_rising_standings" (defScope s_are_rising_standings) f cdv A outer s H E) (defBody s_are_rising_standings) (vS ⟨mg, K⟩ (fun cls d _ H => E cls d H) [] vs b_are_rising_standings) := by
  have tk : Takes (cxOf (L2.CX P w) P w K mg base ["size", "thing", "standing"] "are_rising_standings" (defScope s_are_rising_standings) f cdv A outer s H E) (fun cls d _ H => E cls d H) := takes_of rfl rfl rfl rfl
  exact (vss_one (vs_ret (ve_and (ve_call (dn_is_tuple T) (hr.mono (by decide)) rfl tk (va_cons (po_ex ve_int) (va_cons (po_var (pv 0)) (va_cons (po_var (pv 1)) (va_nil pa_nil))))) (ve_and (ve_callB ops_all (cr_all rfl) rfl T.z_all rfl (va_cons (po_ex (ve_lc (own := [("standing", 2)]) rfl sc_are_rising_standings.nd (vi_seq (ve_var (pv 1))) (blkOk_by (by kernel_rfl)) ⟨fun s H C cl fp w0 => (vg_name sc_are_rising_standings.nd rfl (.inl rfl) (may_wp (by decide)))⟩ ⟨fun s H C cl fp => vts_nil⟩ ⟨fun s H C cl fp => (ve_fz (ve_call (dn_is_below T) (hr.mono (by decide)) rfl takes0 (va_cons (po_var (pv 0)) (va_cons (po_var (pv 2)) (va_nil pa_nil)))))⟩)) (va_nil pa_nil))) (pe_one (ve_call (dn_rising T) (hr.mono (by decide)) rfl tk (va_cons (po_var (pv 1)) (va_nil pa_nil))))))))
theorem dn_are_rising_standings (T : Tx P w K mg base) : DnP P w K mg base "are_rising_standings" 3 f_are_rising_standings := by
  obtain ⟨f, fd, F, g⟩ := T.d_are_rising_standings
  exact ⟨f, fd, ["size", "thing"], (def_ok F sc_are_rising_standings [] b_are_rising_standings fun cdv A outer s H E vs hr => dv_are_rising_standings T cdv A outer s H E vs hr), g, F.kp, F.binds fun _ _ _ _ _ _ us hl => match us, hl with | [_, _], _ => rfl⟩
theorem dv_are_drifts {f : Addr} (T : Tx P w K mg base) (cdv : Value) (A : Around) (outer : List PySem.Env) (s : Shared) (H : Hp) (E : XK) (vs : List V) (hr : Room 3 (cxOf (L2.CX P w) P w K mg base ["size", "thing", "goals"] "are_drifts" (defScope s_are_drifts) f cdv A outer s H E).A) :
    PSs (cxOf (L2.CX P w) P w K mg base ["size", "thing", "goals"] "are_drifts" (defScope s_are_drifts) f cdv A outer s H E) (defBody s_are_drifts) (vS ⟨mg, K⟩ (fun cls d _ H => E cls d H) [] vs b_are_drifts) := by
  have tk : Takes (cxOf (L2.CX P w) P w K mg base ["size", "thing", "goals"] "are_drifts" (defScope s_are_drifts) f cdv A outer s H E) (fun cls d _ H => E cls d H) := takes_of rfl rfl rfl rfl
  exact (vss_one (vs_ret (ve_and (ve_call (dn_is_tuple T) (hr.mono (by decide)) rfl tk (va_cons (po_var (pv 0)) (va_cons (po_var (pv 0)) (va_cons (po_var (pv 1)) (va_nil pa_nil))))) (pe_one (ve_callB ops_all (cr_all rfl) rfl T.z_all rfl (va_cons (po_ex (ve_lc (own := [("goals", 2)]) rfl sc_are_drifts.nd (vi_seq (ve_var (pv 1))) (blkOk_by (by kernel_rfl)) ⟨fun s H C cl fp w0 => (vg_name sc_are_drifts.nd rfl (.inl rfl) (may_wp (by decide)))⟩ ⟨fun s H C cl fp => vts_nil⟩ ⟨fun s H C cl fp => (ve_fz (ve_call (dn_are_rising_standings T) (hr.mono (by decide)) rfl takes0 (va_cons (po_var (pv 0)) (va_cons (po_var (pv 2)) (va_nil pa_nil)))))⟩)) (va_nil pa_nil)))))))
theorem dn_are_drifts (T : Tx P w K mg base) : DnP P w K mg base "are_drifts" 4 f_are_drifts := by
  obtain ⟨f, fd, F, g⟩ := T.d_are_drifts
  exact ⟨f, fd, ["size", "thing"], (def_ok F sc_are_drifts [] b_are_drifts fun cdv A outer s H E vs hr => dv_are_drifts T cdv A outer s H E vs hr), g, F.kp, F.binds fun _ _ _ _ _ _ us hl => match us, hl with | [_, _], _ => rfl⟩
theorem dv_is_put {f : Addr} (T : Tx P w K mg base) (cdv : Value) (A : Around) (outer : List PySem.Env) (s : Shared) (H : Hp) (E : XK) (vs : List V) (hr : Room 3 (cxOf (L2.CX P w) P w K mg base ["size", "thing"] "is_put" (defScope s_is_put) f cdv A outer s H E).A) :
    PSs (cxOf (L2.CX P w) P w K mg base ["size", "thing"] "is_put" (defScope s_is_put) f cdv A outer s H E) (defBody s_is_put) (vS ⟨mg, K⟩ (fun cls d _ H => E cls d H) [] vs b_is_put) := by
  have tk : Takes (cxOf (L2.CX P w) P w K mg base ["size", "thing"] "is_put" (defScope s_is_put) f cdv A outer s H E) (fun cls d _ H => E cls d H) := takes_of rfl rfl rfl rfl
  exact (vss_one (vs_ret (ve_and (ve_call (dn_is_tuple T) (hr.mono (by decide)) rfl tk (va_cons (po_ex ve_int) (va_cons (po_ex ve_int) (va_cons (po_var (pv 1)) (va_nil pa_nil))))) (ve_and (ve_call (dn_is_below T) (hr.mono (by decide)) rfl tk (va_cons (po_var (pv 0)) (va_cons (po_ex (ve_ix (hu64 hr) (po_var (pv 1)) (po_ex ve_int) (fun _ _ => rfl) (fun _ _ => rfl))) (va_nil pa_nil)))) (pe_one (ve_call (dn_are_rising_standings T) (hr.mono (by decide)) rfl tk (va_cons (po_var (pv 0)) (va_cons (po_ex (ve_ix (hu64 hr) (po_var (pv 1)) (po_ex ve_int) (fun _ _ => rfl) (fun _ _ => rfl))) (va_nil pa_nil)))))))))
theorem dn_is_put (T : Tx P w K mg base) : DnP P w K mg base "is_put" 4 f_is_put := by
  obtain ⟨f, fd, F, g⟩ := T.d_is_put
  exact ⟨f, fd, ["size", "thing"], (def_ok F sc_is_put [] b_is_put fun cdv A outer s H E vs hr => dv_is_put T cdv A outer s H E vs hr), g, F.kp, F.binds fun _ _ _ _ _ _ us hl => match us, hl with | [_, _], _ => rfl⟩
theorem dv_are_puts {f : Addr} (T : Tx P w K mg base) (cdv : Value) (A : Around) (outer : List PySem.Env) (s : Shared) (H : Hp) (E : XK) (vs : List V) (hr : Room 4 (cxOf (L2.CX P w) P w K mg base ["size", "thing", "put"] "are_puts" (defScope s_are_puts) f cdv A outer s H E).A) :
    PSs (cxOf (L2.CX P w) P w K mg base ["size", "thing", "put"] "are_puts" (defScope s_are_puts) f cdv A outer s H E) (defBody s_are_puts) (vS ⟨mg, K⟩ (fun cls d _ H => E cls d H) [] vs b_are_puts) := by
  have tk : Takes (cxOf (L2.CX P w) P w K mg base ["size", "thing", "put"] "are_puts" (defScope s_are_puts) f cdv A outer s H E) (fun cls d _ H => E cls d H) := takes_of rfl rfl rfl rfl
  exact (vss_one (vs_ret (ve_and (ve_call (dn_is_tuple T) (hr.mono (by decide)) rfl tk (va_cons (po_ex ve_int) (va_cons (po_ex (ve_gint rfl T.c_MOST_PUTS)) (va_cons (po_var (pv 1)) (va_nil pa_nil))))) (pe_one (ve_callB ops_all (cr_all rfl) rfl T.z_all rfl (va_cons (po_ex (ve_lc (own := [("put", 2)]) rfl sc_are_puts.nd (vi_seq (ve_var (pv 1))) (blkOk_by (by kernel_rfl)) ⟨fun s H C cl fp w0 => (vg_name sc_are_puts.nd rfl (.inl rfl) (may_wp (by decide)))⟩ ⟨fun s H C cl fp => vts_nil⟩ ⟨fun s H C cl fp => (ve_fz (ve_call (dn_is_put T) (hr.mono (by decide)) rfl takes0 (va_cons (po_var (pv 0)) (va_cons (po_var (pv 2)) (va_nil pa_nil)))))⟩)) (va_nil pa_nil)))))))
theorem dn_are_puts (T : Tx P w K mg base) : DnP P w K mg base "are_puts" 5 f_are_puts := by
  obtain ⟨f, fd, F, g⟩ := T.d_are_puts
  exact ⟨f, fd, ["size", "thing"], (def_ok F sc_are_puts [] b_are_puts fun cdv A outer s H E vs hr => dv_are_puts T cdv A outer s H E vs hr), g, F.kp, F.binds fun _ _ _ _ _ _ us hl => match us, hl with | [_, _], _ => rfl⟩
theorem dv_Kind_init {f : Addr} (T : Tx P w K mg base) (cdv : Value) (A : Around) (outer : List PySem.Env) (s : Shared) (H : Hp) (E : XK) (vs : List V) (hr : Room 5 (cxOf (L2.CX P w) P w K mg base ["self", "looks", "drifts", "puts", "size"] "Kind.__init__" (defScope s_Kind_init) f cdv A outer s H E).A) :
    PSs (cxOf (L2.CX P w) P w K mg base ["self", "looks", "drifts", "puts", "size"] "Kind.__init__" (defScope s_Kind_init) f cdv A outer s H E) (defBody s_Kind_init) (vS ⟨mg, K⟩ (fun cls d _ H => E cls d H) [0] vs b_Kind_init) := by
  have tk : Takes (cxOf (L2.CX P w) P w K mg base ["self", "looks", "drifts", "puts", "size"] "Kind.__init__" (defScope s_Kind_init) f cdv A outer s H E) (fun cls d _ H => E cls d H) := takes_of rfl rfl rfl rfl
  exact (vss_cons (vs_if (vt_not (vt_tru (po_ex (ve_call (dn_are_looks T) (hr.mono (by decide)) rfl tk (va_cons (po_var (pv 1)) (va_nil pa_nil)))))) (vss_one vs_never) vss_nil)
    (vss_cons (vs_set sc_Kind_init.nd rfl (.inl rfl) (ve_callB ops_len call_lenA rfl T.z_len rfl (va_cons (po_var (pv 1)) (va_nil pa_nil))) (by decide))
    (vss_cons (vs_if (vt_not (vt_tru (po_ex (ve_call (dn_are_drifts T) (hr.mono (by decide)) rfl tk (va_cons (po_var (pv 4)) (va_cons (po_var (pv 2)) (va_nil pa_nil))))))) (vss_one vs_never) vss_nil)
    (vss_cons (vs_if (vt_not (vt_tru (po_ex (ve_call (dn_are_puts T) (hr.mono (by decide)) rfl tk (va_cons (po_var (pv 4)) (va_cons (po_var (pv 3)) (va_nil pa_nil))))))) (vss_one vs_never) vss_nil)
    (vss_cons (vs_setF (fldc_looks_Kind T) (pv 0) (ve_var (pv 1)))
    (vss_cons (vs_setF (fldc_drifts_Kind T) (pv 0) (ve_var (pv 2)))
    (vss_cons (vs_setF (fldc_puts_Kind T) (pv 0) (ve_var (pv 3)))
    (vss_one (vs_setF (fldc_size_Kind T) (pv 0) (ve_var (pv 4)))))))))))
theorem cn_Kind (T : Tx P w K mg base) : CnP P w K mg base "Kind" 6 f_Kind_init := by
  obtain ⟨C, f, fd, M, F, g⟩ := T.m_Kind_init
  exact ⟨C, f, fd, ["self", "looks", "drifts", "puts"], M, (def_ok F sc_Kind_init [0] b_Kind_init fun cdv A outer s H E vs hr => dv_Kind_init T cdv A outer s H E vs hr), g, F.binds fun _ _ _ _ _ _ us hl => match us, hl with | [_, _, _, _], _ => rfl⟩
theorem dv__law_is_sure {f : Addr} (T : Tx P w K mg base) (cdv : Value) (A : Around) (outer : List PySem.Env) (s : Shared) (H : Hp) (E : XK) (vs : List V) (hr : Room 0 (cxOf (L2.CX P w) P w K mg base ["_law_looks", "_law_drifts", "_law_row"] "_law_is_sure" (defScope s__law_is_sure) f cdv A outer s H E).A) :
    PSs (cxOf (L2.CX P w) P w K mg base ["_law_looks", "_law_drifts", "_law_row"] "_law_is_sure" (defScope s__law_is_sure) f cdv A outer s H E) (defBody s__law_is_sure) (vS ⟨mg, K⟩ (fun cls d _ H => E cls d H) [] vs b__law_is_sure) := by
  have tk : Takes (cxOf (L2.CX P w) P w K mg base ["_law_looks", "_law_drifts", "_law_row"] "_law_is_sure" (defScope s__law_is_sure) f cdv A outer s H E) (fun cls d _ H => E cls d H) := takes_of rfl rfl rfl rfl
  exact (vss_one (vs_ret (ve_and (ve_cmp ops_eq (op_eqP (hu64 hr)) (po_ex (ve_lc (own := [("_law_row", 2)]) rfl sc__law_is_sure.nd (vi_seq (ve_var (pv 0))) (blkOk_by (by kernel_rfl)) ⟨fun s H C cl fp w0 => (vg_name sc__law_is_sure.nd rfl (.inl rfl) (may_wp (by decide)))⟩ ⟨fun s H C cl fp => vts_nil⟩ ⟨fun s H C cl fp => (ve_callB ops_len call_lenA rfl T.z_len rfl (va_cons (po_var (pv 2)) (va_nil pa_nil)))⟩)) (po_ex (ve_op ops_mulL op_rep (po_ex (ve_lst (va_cons (po_ex ve_int) (va_nil pa_nil)))) (po_ex (ve_callB ops_len call_lenA rfl T.z_len rfl (va_cons (po_var (pv 0)) (va_nil pa_nil))))))) (pe_one (ve_cmp ops_eq (op_eqP (hu64 hr)) (po_ex (ve_lc (own := [("_law_row", 2)]) rfl sc__law_is_sure.nd (vi_seq (ve_var (pv 1))) (blkOk_by (by kernel_rfl)) ⟨fun s H C cl fp w0 => (vg_name sc__law_is_sure.nd rfl (.inl rfl) (may_wp (by decide)))⟩ ⟨fun s H C cl fp => vts_nil⟩ ⟨fun s H C cl fp => (ve_callB ops_len call_lenA rfl T.z_len rfl (va_cons (po_var (pv 2)) (va_nil pa_nil)))⟩)) (po_ex (ve_op ops_mulL op_rep (po_ex (ve_lst (va_cons (po_ex ve_int) (va_nil pa_nil)))) (po_ex (ve_callB ops_len call_lenA rfl T.z_len rfl (va_cons (po_var (pv 0)) (va_nil pa_nil)))))))))))
theorem dn__law_is_sure (T : Tx P w K mg base) : DnP P w K mg base "_law_is_sure" 1 f__law_is_sure := by
  obtain ⟨f, fd, F, g⟩ := T.d__law_is_sure
  exact ⟨f, fd, ["_law_looks", "_law_drifts"], (def_ok F sc__law_is_sure [] b__law_is_sure fun cdv A outer s H E vs hr => dv__law_is_sure T cdv A outer s H E vs hr), g, F.kp, F.binds fun _ _ _ _ _ _ us hl => match us, hl with | [_, _], _ => rfl⟩
theorem dv_sure {f : Addr} (T : Tx P w K mg base) (cdv : Value) (A : Around) (outer : List PySem.Env) (s : Shared) (H : Hp) (E : XK) (vs : List V) (hr : Room 0 (cxOf (L2.CX P w) P w K mg base ["kind", "outcomes", "goals"] "sure" (defScope s_sure) f cdv A outer s H E).A) :
    PSs (cxOf (L2.CX P w) P w K mg base ["kind", "outcomes", "goals"] "sure" (defScope s_sure) f cdv A outer s H E) (defBody s_sure) (vS ⟨mg, K⟩ (fun cls d _ H => E cls d H) [] vs b_sure) := by
  have tk : Takes (cxOf (L2.CX P w) P w K mg base ["kind", "outcomes", "goals"] "sure" (defScope s_sure) f cdv A outer s H E) (fun cls d _ H => E cls d H) := takes_of rfl rfl rfl rfl
  exact (vss_one (vs_ret (ve_and (ve_callB ops_all (cr_all rfl) rfl T.z_all rfl (va_cons (po_ex (ve_lc (own := [("outcomes", 1)]) rfl sc_sure.nd (vi_seq (ve_fld (po_var (pv 0)) (fld_looks T))) (blkOk_by (by kernel_rfl)) ⟨fun s H C cl fp w0 => (vg_name sc_sure.nd rfl (.inl rfl) (may_wp (by decide)))⟩ ⟨fun s H C cl fp => vts_nil⟩ ⟨fun s H C cl fp => (ve_cmp ops_eq (op_eqP (hu64 hr)) (po_ex (ve_callB ops_len call_lenA rfl T.z_len rfl (va_cons (po_var (pv 1)) (va_nil pa_nil)))) (po_ex ve_int))⟩)) (va_nil pa_nil))) (pe_one (ve_callB ops_all (cr_all rfl) rfl T.z_all rfl (va_cons (po_ex (ve_lc (own := [("goals", 2)]) rfl sc_sure.nd (vi_seq (ve_fld (po_var (pv 0)) (fld_drifts T))) (blkOk_by (by kernel_rfl)) ⟨fun s H C cl fp w0 => (vg_name sc_sure.nd rfl (.inl rfl) (may_wp (by decide)))⟩ ⟨fun s H C cl fp => vts_nil⟩ ⟨fun s H C cl fp => (ve_cmp ops_eq (op_eqP (hu64 hr)) (po_ex (ve_callB ops_len call_lenA rfl T.z_len rfl (va_cons (po_var (pv 2)) (va_nil pa_nil)))) (po_ex ve_int))⟩)) (va_nil pa_nil)))))))
theorem dn_sure (T : Tx P w K mg base) : DnP P w K mg base "sure" 1 f_sure := by
  obtain ⟨f, fd, F, g⟩ := T.d_sure
  exact ⟨f, fd, ["kind"], (def_ok F sc_sure [] b_sure fun cdv A outer s H E vs hr => dv_sure T cdv A outer s H E vs hr), g, F.kp, F.binds fun _ _ _ _ _ _ us hl => match us, hl with | [_], _ => rfl⟩
theorem dv_check_standing {f : Addr} (T : Tx P w K mg base) (cdv : Value) (A : Around) (outer : List PySem.Env) (s : Shared) (H : Hp) (E : XK) (vs : List V) (hr : Room 2 (cxOf (L2.CX P w) P w K mg base ["kind", "standing"] "check_standing" (defScope s_check_standing) f cdv A outer s H E).A) :
    PSs (cxOf (L2.CX P w) P w K mg base ["kind", "standing"] "check_standing" (defScope s_check_standing) f cdv A outer s H E) (defBody s_check_standing) (vS ⟨mg, K⟩ (fun cls d _ H => E cls d H) [] vs b_check_standing) := by
  have tk : Takes (cxOf (L2.CX P w) P w K mg base ["kind", "standing"] "check_standing" (defScope s_check_standing) f cdv A outer s H E) (fun cls d _ H => E cls d H) := takes_of rfl rfl rfl rfl
  exact (vss_one (vs_if (vt_not (vt_tru (po_ex (ve_call (dn_is_below T) (hr.mono (by decide)) rfl tk (va_cons (po_ex (ve_fld (po_var (pv 0)) (fld_size T))) (va_cons (po_var (pv 1)) (va_nil pa_nil))))))) (vss_one (vs_raise0 rfl tk T.xc_NoStanding rfl)) vss_nil))
theorem dn_check_standing (T : Tx P w K mg base) : DnP P w K mg base "check_standing" 3 f_check_standing := by
  obtain ⟨f, fd, F, g⟩ := T.d_check_standing
  exact ⟨f, fd, ["kind", "standing"], (def_ok F sc_check_standing [] b_check_standing fun cdv A outer s H E vs hr => dv_check_standing T cdv A outer s H E vs hr), g, F.kp, F.binds fun _ _ _ _ _ _ us hl => match us, hl with | [_, _], _ => rfl⟩
theorem dv_check_sure {f : Addr} (T : Tx P w K mg base) (cdv : Value) (A : Around) (outer : List PySem.Env) (s : Shared) (H : Hp) (E : XK) (vs : List V) (hr : Room 1 (cxOf (L2.CX P w) P w K mg base ["kind"] "check_sure" (defScope s_check_sure) f cdv A outer s H E).A) :
    PSs (cxOf (L2.CX P w) P w K mg base ["kind"] "check_sure" (defScope s_check_sure) f cdv A outer s H E) (defBody s_check_sure) (vS ⟨mg, K⟩ (fun cls d _ H => E cls d H) [] vs b_check_sure) := by
  have tk : Takes (cxOf (L2.CX P w) P w K mg base ["kind"] "check_sure" (defScope s_check_sure) f cdv A outer s H E) (fun cls d _ H => E cls d H) := takes_of rfl rfl rfl rfl
  exact (vss_one (vs_if (vt_not (vt_tru (po_ex (ve_call (dn_sure T) (hr.mono (by decide)) rfl tk (va_cons (po_var (pv 0)) (va_nil pa_nil)))))) (vss_one (vs_raise0 rfl tk T.xc_NotSure rfl)) vss_nil))
theorem dn_check_sure (T : Tx P w K mg base) : DnP P w K mg base "check_sure" 2 f_check_sure := by
  obtain ⟨f, fd, F, g⟩ := T.d_check_sure
  exact ⟨f, fd, ["kind"], (def_ok F sc_check_sure [] b_check_sure fun cdv A outer s H E vs hr => dv_check_sure T cdv A outer s H E vs hr), g, F.kp, F.binds fun _ _ _ _ _ _ us hl => match us, hl with | [_], _ => rfl⟩
theorem dv_only_goal {f : Addr} (T : Tx P w K mg base) (cdv : Value) (A : Around) (outer : List PySem.Env) (s : Shared) (H : Hp) (E : XK) (vs : List V) (hr : Room 0 (cxOf (L2.CX P w) P w K mg base ["kind", "standing"] "only_goal" (defScope s_only_goal) f cdv A outer s H E).A) :
    PSs (cxOf (L2.CX P w) P w K mg base ["kind", "standing"] "only_goal" (defScope s_only_goal) f cdv A outer s H E) (defBody s_only_goal) (vS ⟨mg, K⟩ (fun cls d _ H => E cls d H) [] vs b_only_goal) := by
  have tk : Takes (cxOf (L2.CX P w) P w K mg base ["kind", "standing"] "only_goal" (defScope s_only_goal) f cdv A outer s H E) (fun cls d _ H => E cls d H) := takes_of rfl rfl rfl rfl
  exact (vss_one (vs_ret (ve_ix (hu64 hr) (po_ex (ve_ix (hu64 hr) (po_ex (ve_ix (hu64 hr) (po_ex (ve_fld (po_var (pv 0)) (fld_looks T))) (po_var (pv 1)) (fun _ _ => rfl) (fun _ _ => rfl))) (po_ex ve_int) (fun _ _ => rfl) (fun _ _ => rfl))) (po_ex ve_int) (fun _ _ => rfl) (fun _ _ => rfl))))
theorem dn_only_goal (T : Tx P w K mg base) : DnP P w K mg base "only_goal" 1 f_only_goal := by
  obtain ⟨f, fd, F, g⟩ := T.d_only_goal
  exact ⟨f, fd, ["kind", "standing"], (def_ok F sc_only_goal [] b_only_goal fun cdv A outer s H E vs hr => dv_only_goal T cdv A outer s H E vs hr), g, F.kp, F.binds fun _ _ _ _ _ _ us hl => match us, hl with | [_, _], _ => rfl⟩
theorem dv_trail_from {f : Addr} (T : Tx P w K mg base) (cdv : Value) (A : Around) (outer : List PySem.Env) (s : Shared) (H : Hp) (E : XK) (vs : List V) (hr : Room 1 (cxOf (L2.CX P w) P w K mg base ["kind", "standing", "trail"] "trail_from" (defScope s_trail_from) f cdv A outer s H E).A) :
    PSs (cxOf (L2.CX P w) P w K mg base ["kind", "standing", "trail"] "trail_from" (defScope s_trail_from) f cdv A outer s H E) (defBody s_trail_from) (vS ⟨mg, K⟩ (fun cls d _ H => E cls d H) [] vs b_trail_from) := by
  have tk : Takes (cxOf (L2.CX P w) P w K mg base ["kind", "standing", "trail"] "trail_from" (defScope s_trail_from) f cdv A outer s H E) (fun cls d _ H => E cls d H) := takes_of rfl rfl rfl rfl
  exact (vss_cons (vs_set sc_trail_from.nd rfl (.inl rfl) (ve_lst (va_cons (po_ex (ve_var (pv 1))) (va_nil pa_nil))) (by decide))
    (vss_cons (vs_while [] fuel_trail_from (passes_of rfl) (vt_cmp ops_in (op_notInA (hu64 hr)) (po_ex (ve_call (dn_only_goal T) (hr.mono (by decide)) rfl tk (va_cons (po_var (pv 0)) (va_cons (po_ex (ve_ix (hu64 hr) (po_var (pv 2)) (po_ex (ve_neg (po_ex ve_int))) (fun _ _ => rfl) (fun _ _ => rfl))) (va_nil pa_nil))))) (po_var (pv 2))) (vss_one (vs_expr (ve_mut opm_append PySem.F.plainAttrs_list PySem.F.slot_list_append PySem.F.type_list_append mt_append (pv 2) (va_cons (po_ex (ve_fz (ve_call (dn_only_goal T) (hr.mono (by decide)) rfl tk (va_cons (po_var (pv 0)) (va_cons (po_ex (ve_ix (hu64 hr) (po_var (pv 2)) (po_ex (ve_neg (po_ex ve_int))) (fun _ _ => rfl) (fun _ _ => rfl))) (va_nil pa_nil)))))) (va_nil pa_nil))))))
    (vss_one (vs_ret (ve_move (pv 2))))))
theorem dn_trail_from (T : Tx P w K mg base) : DnP P w K mg base "trail_from" 2 f_trail_from := by
  obtain ⟨f, fd, F, g⟩ := T.d_trail_from
  exact ⟨f, fd, ["kind", "standing"], (def_ok F sc_trail_from [] b_trail_from fun cdv A outer s H E vs hr => dv_trail_from T cdv A outer s H E vs hr), g, F.kp, F.binds fun _ _ _ _ _ _ us hl => match us, hl with | [_, _], _ => rfl⟩
theorem dv_round_begin {f : Addr} (T : Tx P w K mg base) (cdv : Value) (A : Around) (outer : List PySem.Env) (s : Shared) (H : Hp) (E : XK) (vs : List V) (hr : Room 1 (cxOf (L2.CX P w) P w K mg base ["kind", "trail"] "round_begin" (defScope s_round_begin) f cdv A outer s H E).A) :
    PSs (cxOf (L2.CX P w) P w K mg base ["kind", "trail"] "round_begin" (defScope s_round_begin) f cdv A outer s H E) (defBody s_round_begin) (vS ⟨mg, K⟩ (fun cls d _ H => E cls d H) [1] vs b_round_begin) := by
  have tk : Takes (cxOf (L2.CX P w) P w K mg base ["kind", "trail"] "round_begin" (defScope s_round_begin) f cdv A outer s H E) (fun cls d _ H => E cls d H) := takes_of rfl rfl rfl rfl
  exact (vss_one (vs_ret (ve_mut opm_index PySem.F.plainAttrs_list PySem.F.slot_list_index PySem.F.type_list_index mt_index (pv 1) (va_cons (po_ex (ve_fz (ve_call (dn_only_goal T) (hr.mono (by decide)) rfl tk (va_cons (po_var (pv 0)) (va_cons (po_ex (ve_ix (hu64 hr) (po_var (pv 1)) (po_ex (ve_neg (po_ex ve_int))) (fun _ _ => rfl) (fun _ _ => rfl))) (va_nil pa_nil)))))) (va_nil pa_nil)))))
theorem dn_round_begin (T : Tx P w K mg base) : DnP P w K mg base "round_begin" 2 f_round_begin := by
  obtain ⟨f, fd, F, g⟩ := T.d_round_begin
  exact ⟨f, fd, ["kind", "trail"], (def_ok F sc_round_begin [1] b_round_begin fun cdv A outer s H E vs hr => dv_round_begin T cdv A outer s H E vs hr), g, F.kp, F.binds fun _ _ _ _ _ _ us hl => match us, hl with | [_, _], _ => rfl⟩
theorem dv_least_turn {f : Addr} (T : Tx P w K mg base) (cdv : Value) (A : Around) (outer : List PySem.Env) (s : Shared) (H : Hp) (E : XK) (vs : List V) (hr : Room 0 (cxOf (L2.CX P w) P w K mg base ["answers", "at"] "least_turn" (defScope s_least_turn) f cdv A outer s H E).A) :
    PSs (cxOf (L2.CX P w) P w K mg base ["answers", "at"] "least_turn" (defScope s_least_turn) f cdv A outer s H E) (defBody s_least_turn) (vS ⟨mg, K⟩ (fun cls d _ H => E cls d H) [] vs b_least_turn) := by
  have tk : Takes (cxOf (L2.CX P w) P w K mg base ["answers", "at"] "least_turn" (defScope s_least_turn) f cdv A outer s H E) (fun cls d _ H => E cls d H) := takes_of rfl rfl rfl rfl
  exact (vss_one (vs_ret (ve_callB ops_minT (call_minT rfl (hu64 hr)) rfl T.z_min rfl (va_cons (po_ex (ve_lc (own := [("at", 1)]) rfl sc_least_turn.nd (vi_range1 rfl T.z_range (ve_callB ops_len call_lenA rfl T.z_len rfl (va_cons (po_var (pv 0)) (va_nil pa_nil)))) (blkOk_by (by kernel_rfl)) ⟨fun s H C cl fp w0 => (vg_name sc_least_turn.nd rfl (.inl rfl) (may_wp (by decide)))⟩ ⟨fun s H C cl fp => vts_nil⟩ ⟨fun s H C cl fp => (ve_fz (ve_op ops_add op_addA (po_ex (ve_sl (po_var (pv 0)) (vp_some (ve_var (pv 1))) vp_none)) (po_ex (ve_sl (po_var (pv 0)) vp_none (vp_some (ve_var (pv 1)))))))⟩)) (va_nil pa_nil)))))
theorem dn_least_turn (T : Tx P w K mg base) : DnP P w K mg base "least_turn" 1 f_least_turn := by
  obtain ⟨f, fd, F, g⟩ := T.d_least_turn
  exact ⟨f, fd, ["answers"], (def_ok F sc_least_turn [] b_least_turn fun cdv A outer s H E vs hr => dv_least_turn T cdv A outer s H E vs hr), g, F.kp, F.binds fun _ _ _ _ _ _ us hl => match us, hl with | [_], _ => rfl⟩
theorem dv_shortest_round {f : Addr} (T : Tx P w K mg base) (cdv : Value) (A : Around) (outer : List PySem.Env) (s : Shared) (H : Hp) (E : XK) (vs : List V) (hr : Room 0 (cxOf (L2.CX P w) P w K mg base ["answers", "size", "fits", "many"] "shortest_round" (defScope s_shortest_round) f cdv A outer s H E).A) :
    PSs (cxOf (L2.CX P w) P w K mg base ["answers", "size", "fits", "many"] "shortest_round" (defScope s_shortest_round) f cdv A outer s H E) (defBody s_shortest_round) (vS ⟨mg, K⟩ (fun cls d _ H => E cls d H) [] vs b_shortest_round) := by
  have tk : Takes (cxOf (L2.CX P w) P w K mg base ["answers", "size", "fits", "many"] "shortest_round" (defScope s_shortest_round) f cdv A outer s H E) (fun cls d _ H => E cls d H) := takes_of rfl rfl rfl rfl
  exact (vss_cons (vs_set sc_shortest_round.nd rfl (.inr rfl) (ve_callB ops_len call_lenA rfl T.z_len rfl (va_cons (po_var (pv 0)) (va_nil pa_nil))) (by decide))
    (vss_cons (vs_setLc (own := [("many", 3)]) rfl sc_shortest_round.nd rfl rfl (by decide) (sw_true rfl rfl rfl (by kernel_rfl)) (vi_range2 rfl T.z_range ve_int (ve_op ops_add op_addA (po_var (pv 1)) (po_ex ve_int))) (blkOk_by (by kernel_rfl)) ⟨fun s H C cl fp w0 => (vg_name sc_shortest_round.nd rfl (.inl rfl) (may_wp (by decide)))⟩ ⟨fun s H C cl fp => (vts_one (vt_cmp ops_eq (op_eqP (hu64 hr)) (po_ex (ve_op ops_mulT op_mulT (po_ex (ve_sl (po_var (pv 0)) vp_none (vp_some (ve_var (pv 3))))) (po_ex (ve_op ops_div op_fdiv (po_var (pv 1)) (po_var (pv 3)))))) (po_var (pv 0))))⟩ ⟨fun s H C cl fp => (ve_var (pv 3))⟩)
    (vss_one (vs_ret (ve_sl (po_var (pv 0)) vp_none (vp_some (ve_ix (hu64 hr) (po_var (pv 2)) (po_ex ve_int) (fun _ _ => rfl) (fun _ _ => rfl))))))))
theorem dn_shortest_round (T : Tx P w K mg base) : DnP P w K mg base "shortest_round" 1 f_shortest_round := by
  obtain ⟨f, fd, F, g⟩ := T.d_shortest_round
  exact ⟨f, fd, ["answers"], (def_ok F sc_shortest_round [] b_shortest_round fun cdv A outer s H E vs hr => dv_shortest_round T cdv A outer s H E vs hr), g, F.kp, F.binds fun _ _ _ _ _ _ us hl => match us, hl with | [_], _ => rfl⟩
theorem dv_class_of {f : Addr} (T : Tx P w K mg base) (cdv : Value) (A : Around) (outer : List PySem.Env) (s : Shared) (H : Hp) (E : XK) (vs : List V) (hr : Room 3 (cxOf (L2.CX P w) P w K mg base ["kind", "standing", "trail", "turns", "place"] "class_of" (defScope s_class_of) f cdv A outer s H E).A) :
    PSs (cxOf (L2.CX P w) P w K mg base ["kind", "standing", "trail", "turns", "place"] "class_of" (defScope s_class_of) f cdv A outer s H E) (defBody s_class_of) (vS ⟨mg, K⟩ (fun cls d _ H => E cls d H) [] vs b_class_of) := by
  have tk : Takes (cxOf (L2.CX P w) P w K mg base ["kind", "standing", "trail", "turns", "place"] "class_of" (defScope s_class_of) f cdv A outer s H E) (fun cls d _ H => E cls d H) := takes_of rfl rfl rfl rfl
  exact (vss_cons (vs_expr (ve_call (dn_check_standing T) (hr.mono (by decide)) rfl tk (va_cons (po_var (pv 0)) (va_cons (po_var (pv 1)) (va_nil pa_nil)))))
    (vss_cons (vs_expr (ve_call (dn_check_sure T) (hr.mono (by decide)) rfl tk (va_cons (po_var (pv 0)) (va_nil pa_nil))))
    (vss_cons (vs_set sc_class_of.nd rfl (.inl rfl) (ve_call (dn_trail_from T) (hr.mono (by decide)) rfl tk (va_cons (po_var (pv 0)) (va_cons (po_var (pv 1)) (va_nil pa_nil)))) (by decide))
    (vss_cons (vs_setLc (own := [("place", 4)]) rfl sc_class_of.nd rfl rfl (by decide) (sw_true rfl rfl rfl (by kernel_rfl)) (vi_seq (ve_sl (po_var (pv 2)) (vp_some (ve_call (dn_round_begin T) (hr.mono (by decide)) rfl tk (va_cons (po_var (pv 0)) (va_cons (po_var (pv 2)) (va_nil pa_nil))))) vp_none)) (blkOk_by (by kernel_rfl)) ⟨fun s H C cl fp w0 => (vg_name sc_class_of.nd rfl (.inl rfl) (may_wp (by decide)))⟩ ⟨fun s H C cl fp => vts_nil⟩ ⟨fun s H C cl fp => (ve_ix (hu64 hr) (po_ex (ve_ix (hu64 hr) (po_ex (ve_ix (hu64 hr) (po_ex (ve_fld (po_var (pv 0)) (fld_looks T))) (po_var (pv 4)) (fun _ _ => rfl) (fun _ _ => rfl))) (po_ex ve_int) (fun _ _ => rfl) (fun _ _ => rfl))) (po_ex ve_int) (fun _ _ => rfl) (fun _ _ => rfl))⟩)
    (vss_one (vs_ret (ve_call (dn_least_turn T) (hr.mono (by decide)) rfl tk (va_cons (po_ex (ve_call (dn_shortest_round T) (hr.mono (by decide)) rfl tk (va_cons (po_ex (ve_callTy ops_tuple call_tuple_of rfl T.z_tuple rfl (va_cons (po_var (pv 3)) (va_nil pa_nil)))) (va_nil pa_nil)))) (va_nil pa_nil)))))))))
theorem dn_class_of (T : Tx P w K mg base) : DnP P w K mg base "class_of" 4 f_class_of := by
  obtain ⟨f, fd, F, g⟩ := T.d_class_of
  exact ⟨f, fd, ["kind", "standing"], (def_ok F sc_class_of [] b_class_of fun cdv A outer s H E vs hr => dv_class_of T cdv A outer s H E vs hr), g, F.kp, F.binds fun _ _ _ _ _ _ us hl => match us, hl with | [_, _], _ => rfl⟩
theorem dv__law_long_row {f : Addr} (T : Tx P w K mg base) (cdv : Value) (A : Around) (outer : List PySem.Env) (s : Shared) (H : Hp) (E : XK) (vs : List V) (hr : Room 0 (cxOf (L2.CX P w) P w K mg base ["_law_looks", "_law_standing", "_law_many", "_law_row", "_law_turn", "_law_answer"] "_law_long_row" (defScope s__law_long_row) f cdv A outer s H E).A) :
    PSs (cxOf (L2.CX P w) P w K mg base ["_law_looks", "_law_standing", "_law_many", "_law_row", "_law_turn", "_law_answer"] "_law_long_row" (defScope s__law_long_row) f cdv A outer s H E) (defBody s__law_long_row) (vS ⟨mg, K⟩ (fun cls d _ H => E cls d H) [] vs b__law_long_row) := by
  have tk : Takes (cxOf (L2.CX P w) P w K mg base ["_law_looks", "_law_standing", "_law_many", "_law_row", "_law_turn", "_law_answer"] "_law_long_row" (defScope s__law_long_row) f cdv A outer s H E) (fun cls d _ H => E cls d H) := takes_of rfl rfl rfl rfl
  exact (vss_cons (vs_set sc__law_long_row.nd rfl (.inl rfl) (ve_lst (va_nil pa_nil)) (by decide))
    (vss_cons (vs_for [4, 5] (passes_of rfl) rfl (vi_range1 rfl T.z_range (ve_var (pv 2))) (vg_name sc__law_long_row.nd rfl (.inl rfl) (may_pn (by decide))) (vss_cons (vs_asg (fun d => (nb_tup (nb_cons (fun _ => nb_set) (nb_cons (fun _ => nb_set) (fun _ => nb_nil)))) d) (ve_ix (hu64 hr) (po_ex (ve_ix (hu64 hr) (po_var (pv 0)) (po_var (pv 1)) (fun _ _ => rfl) (fun _ _ => rfl))) (po_ex ve_int) (fun _ _ => rfl) (fun _ _ => rfl)) (vg_tup rfl (vgs_cons (vg_name sc__law_long_row.nd rfl (.inl rfl) (may_pn (by decide))) (vgs_cons (vg_name sc__law_long_row.nd rfl (.inl rfl) (may_pn (by decide))) vgs_nil))))
    (vss_one (vs_expr (ve_mut opm_append PySem.F.plainAttrs_list PySem.F.slot_list_append PySem.F.type_list_append mt_append (pv 3) (va_cons (po_ex (ve_var (pv 5))) (va_nil pa_nil)))))))
    (vss_one (vs_ret (ve_lst (va_cons (po_ex (ve_callTy ops_tuple call_tuple_of rfl T.z_tuple rfl (va_cons (po_var (pv 3)) (va_nil pa_nil)))) (va_cons (po_ex (ve_var (pv 1))) (va_nil pa_nil))))))))
theorem dn__law_long_row (T : Tx P w K mg base) : DnP P w K mg base "_law_long_row" 1 f__law_long_row := by
  obtain ⟨f, fd, F, g⟩ := T.d__law_long_row
  exact ⟨f, fd, ["_law_looks", "_law_standing", "_law_many"], (def_ok F sc__law_long_row [] b__law_long_row fun cdv A outer s H E vs hr => dv__law_long_row T cdv A outer s H E vs hr), g, F.kp, F.binds fun _ _ _ _ _ _ us hl => match us, hl with | [_, _, _], _ => rfl⟩
theorem dv__law_class {f : Addr} (T : Tx P w K mg base) (cdv : Value) (A : Around) (outer : List PySem.Env) (s : Shared) (H : Hp) (E : XK) (vs : List V) (hr : Room 1 (cxOf (L2.CX P w) P w K mg base ["_law_looks", "_law_standing", "_law_behind", "_law_row", "_law_length", "_law_at"] "_law_class" (defScope s__law_class) f cdv A outer s H E).A) :
    PSs (cxOf (L2.CX P w) P w K mg base ["_law_looks", "_law_standing", "_law_behind", "_law_row", "_law_length", "_law_at"] "_law_class" (defScope s__law_class) f cdv A outer s H E) (defBody s__law_class) (vS ⟨mg, K⟩ (fun cls d _ H => E cls d H) [] vs b__law_class) := by
  have tk : Takes (cxOf (L2.CX P w) P w K mg base ["_law_looks", "_law_standing", "_law_behind", "_law_row", "_law_length", "_law_at"] "_law_class" (defScope s__law_class) f cdv A outer s H E) (fun cls d _ H => E cls d H) := takes_of rfl rfl rfl rfl
  exact (vss_cons (vs_set sc__law_class.nd rfl (.inl rfl) (ve_ix (hu64 hr) (po_ex (ve_call (dn__law_long_row T) (hr.mono (by decide)) rfl tk (va_cons (po_var (pv 0)) (va_cons (po_var (pv 1)) (va_cons (po_ex ve_int) (va_nil pa_nil)))))) (po_ex ve_int) (fun _ _ => rfl) (fun _ _ => rfl)) (by decide))
    (vss_cons (vs_set sc__law_class.nd rfl (.inr rfl) (ve_ix (hu64 hr) (po_ex (ve_call (dn__law_long_row T) (hr.mono (by decide)) rfl tk (va_cons (po_var (pv 0)) (va_cons (po_var (pv 2)) (va_cons (po_ex ve_int) (va_nil pa_nil)))))) (po_ex ve_int) (fun _ _ => rfl) (fun _ _ => rfl)) (by decide))
    (vss_cons (vs_for [4] (passes_of rfl) rfl (vi_range2 rfl T.z_range ve_int ve_int) (vg_name sc__law_class.nd rfl (.inr rfl) (may_pn (by decide))) (vss_one (vs_if (vt_cmp ops_eq (op_eqP (hu64 hr)) (po_ex (ve_sl (po_var (pv 3)) (vp_some (ve_var (pv 4))) vp_none)) (po_ex (ve_sl (po_var (pv 3)) vp_none (vp_some (ve_op ops_sub op_sub (po_ex ve_int) (po_var (pv 4))))))) (vss_one (vs_ret (ve_callB ops_minT (call_minT rfl (hu64 hr)) rfl T.z_min rfl (va_cons (po_ex (ve_lc (own := [("_law_at", 5)]) rfl sc__law_class.nd (vi_range1 rfl T.z_range (ve_var (pv 4))) (blkOk_by (by kernel_rfl)) ⟨fun s H C cl fp w0 => (vg_name sc__law_class.nd rfl (.inl rfl) (may_wp (by decide)))⟩ ⟨fun s H C cl fp => vts_nil⟩ ⟨fun s H C cl fp => (ve_fz (ve_sl (po_var (pv 3)) (vp_some (ve_var (pv 5))) (vp_some (ve_op ops_add op_addA (po_var (pv 5)) (po_var (pv 4))))))⟩)) (va_nil pa_nil))))) vss_nil)))
    (vss_one (vs_ret (ve_tup (va_nil pa_nil)))))))
theorem dn__law_class (T : Tx P w K mg base) : DnP P w K mg base "_law_class" 2 f__law_class := by
  obtain ⟨f, fd, F, g⟩ := T.d__law_class
  exact ⟨f, fd, ["_law_looks", "_law_standing"], (def_ok F sc__law_class [] b__law_class fun cdv A outer s H E vs hr => dv__law_class T cdv A outer s H E vs hr), g, F.kp, F.binds fun _ _ _ _ _ _ us hl => match us, hl with | [_, _], _ => rfl⟩
theorem dv_law {f : Addr} (T : Tx P w K mg base) {cA tabA : Addr} (TB : LamX.TabB base mg cA tabA) (hT : TabOf ⟨mg, K⟩ tabA) (A : Around) (outer : List PySem.Env) (s : Shared) (H : Hp) (E : XK) (hr : Room 9 (cxOf (L2.CX P w) P w K mg base ["_law_script", "_law_pool_here", "_law_looks", "_law_drifts", "_law_puts", "_law_kind", "_law_due", "_law_standing", "_law_told", "$tab"] "law" (defScope s_law) f (.ref cA) A outer s H E).A) (hgd : (cxOf (L2.CX P w) P w K mg base ["_law_script", "_law_pool_here", "_law_looks", "_law_drifts", "_law_puts", "_law_kind", "_law_due", "_law_standing", "_law_told", "$tab"] "law" (defScope s_law) f (.ref cA) A outer s H E).A.guards = some []) :
    PSs (cxOf (L2.CX P w) P w K mg base ["_law_script", "_law_pool_here", "_law_looks", "_law_drifts", "_law_puts", "_law_kind", "_law_due", "_law_standing", "_law_told", "$tab"] "law" (defScope s_law) f (.ref cA) A outer s H E) (defBody s_law) (wS ⟨mg, K⟩ b_law) := by
  have tk : Takes (cxOf (L2.CX P w) P w K mg base ["_law_script", "_law_pool_here", "_law_looks", "_law_drifts", "_law_puts", "_law_kind", "_law_due", "_law_standing", "_law_told", "$tab"] "law" (defScope s_law) f (.ref cA) A outer s H E) (fun cls d _ H => E cls d H) := takes_of rfl rfl rfl rfl
  obtain ⟨gA, gd, FG, mgg⟩ := T.d__law_sure_told
  have bg_ := FG.binds (ps := ["_law_call"]) fun _ _ _ _ _ _ us hl => match us, hl with | [_], _ => rfl
  have kpg := FG.kp
  obtain ⟨ocg, odg, kVg, docg, pmg, ang, cdg, ctg, oslg, rfl, lkg, hcg⟩ := FG.ex
  exact (wss_cons (ws_of (W := fun cls d _ H => E cls d H) (vs_set sc_law.nd rfl (.inl rfl) (ve_call (dn__law_pool T) (hr.mono (by decide)) rfl tk (va_cons (po_var (pv 0)) (va_nil pa_nil))) (by decide)))
    (wss_cons (ws_of (W := fun cls d _ H => E cls d H) (vs_asg (fun d => (nb_tup (nb_cons (fun _ => nb_set) (nb_cons (fun _ => nb_set) (nb_cons (fun _ => nb_set) (fun _ => nb_nil))))) d) (ve_call (dn__law_nearly_sure T) (hr.mono (by decide)) rfl tk (va_cons (po_var (pv 1)) (va_nil pa_nil))) (vg_tup rfl (vgs_cons (vg_name sc_law.nd rfl (.inl rfl) (may_pn (by decide))) (vgs_cons (vg_name sc_law.nd rfl (.inl rfl) (may_pn (by decide))) (vgs_cons (vg_name sc_law.nd rfl (.inl rfl) (may_pn (by decide))) vgs_nil))))))
    (wss_cons (ws_of (W := fun cls d _ H => E cls d H) (vs_set sc_law.nd rfl (.inr rfl) (ve_make (cn_Kind T) (hr.mono (by decide)) rfl tk (va_cons (po_ex (ve_var (pv 2))) (va_cons (po_ex (ve_var (pv 3))) (va_cons (po_ex (ve_var (pv 4))) (va_nil pa_nil))))) (by decide)))
    (wss_cons (ws_of (W := fun cls d _ H => E cls d H) (vs_set sc_law.nd rfl (.inl rfl) (ve_call (dn__law_is_sure T) (hr.mono (by decide)) rfl tk (va_cons (po_var (pv 2)) (va_cons (po_var (pv 3)) (va_nil pa_nil)))) (by decide)))
    (wss_cons (ws_of (W := fun cls d _ H => E cls d H) (vs_if (PW.pt (vt_or (vt_not (vt_tru (po_ex (ve_callB (ops_isi (isi_0 T)) call_isiA rfl T.z_isinstance rfl (va_cons (po_ex (ve_call (dn_sure T) (hr.mono (by decide)) rfl tk (va_cons (po_var (pv 5)) (va_nil pa_nil)))) (va_cons (po_ex (ve_ty rfl T.z_bool rfl)) (va_nil pa_nil))))))) (pw_or1 (vt_cmp ops_ne (op_neP (hu64 hr)) (po_ex (ve_call (dn_sure T) (hr.mono (by decide)) rfl tk (va_cons (po_var (pv 5)) (va_nil pa_nil)))) (po_var (pv 6)))))) (vss_one (vs_ret ve_bl)) vss_nil))
    (wss_cons (ws_forR (W := fun cls d _ H => E cls d H) [7, 8] (passes_of rfl) rfl rfl T.z_range (ve_callB ops_len call_lenA rfl T.z_len rfl (va_cons (po_var (pv 2)) (va_nil pa_nil))) sc_law.nd rfl (.inr rfl) (wss_cons (ws_told (k := 7) (j := 9) (x := "_law_sure_told") (a := "_law_call") (ret := "refused") (Ng := ["_law_call", "_law_told"]) (CS := He.ga K "NotSure") (P := tabA) rfl mgg kpg lkg hcg bg_ sc__law_sure_told rfl (.inl rfl) (told_give (hge := rfl) (hme := T.k_NotSure) (hde := by decide) (hN := rfl) (hnd := by decide +kernel) (htl := rfl)) T.xm_NotSure TB rfl hT rfl (hr.mono (by decide)) (LamX.lamS_by (by kernel_rfl)) rfl (fun _ _ _ _ _ => rfl) (fun A outer s H E f c' hr => have tk := takes_of rfl rfl rfl rfl; (ve_call (dn_class_of T) (hr.mono (by decide)) rfl tk (va_cons (po_var (pv 5)) (va_cons (po_var (pv 7)) (va_nil pa_nil))))) sc_law.nd rfl (.inl rfl))
    (wss_cons (ws_of (W := fun cls d _ H => E cls d H) (vs_if (PW.pt (vt_and (vt_not (vt_tru (po_var (pv 6)))) (pw_and1 (vt_cmp ops_ne (op_neP (hu64 hr)) (po_var (pv 8)) (po_ex ve_str))))) (vss_one (vs_ret ve_bl)) vss_nil))
    (wss_one (ws_of (W := fun cls d _ H => E cls d H) (vs_if (PW.pt (vt_and (vt_tru (po_var (pv 6))) (pw_and1 (PW.pt (vt_or (vt_not (vt_tru (po_ex (ve_callB (ops_isi (isi_0 T)) call_isiA rfl T.z_isinstance rfl (va_cons (po_var (pv 8)) (va_cons (po_ex (ve_ty rfl T.z_tuple rfl)) (va_nil pa_nil))))))) (pw_or1 (vt_cmp ops_ne (op_neP (hu64 hr)) (po_var (pv 8)) (po_ex (ve_call (dn__law_class T) (hr.mono (by decide)) rfl tk (va_cons (po_var (pv 2)) (va_cons (po_var (pv 7)) (va_nil pa_nil)))))))))))) (vss_one (vs_ret ve_bl)) vss_nil))))))
    (wss_one (ws_of (W := fun cls d _ H => E cls d H) (vs_ret ve_bl)))))))))
end
end K09

set_option Elab.async false
set_option linter.all false
set_option maxRecDepth 100000
set_option maxHeartbeats 0
namespace K09
open PySem PySem.Spec PyProof.Rows L2 VL Q
theorem tx {P : Program} {w : World} {K : PySem.W.Frag} {h : Heap} {mg : Str → Option Value} (X : K.In h) (G : h.Ns mainGlobals mg) (c : He.SaysD fa_ fn_ K) (cx : ex_ K = true) (base : Heap) : Tx P w K mg base where
  z_abs := He.free_ok X G (c.fact 0 (f := .free "abs") rfl)
  z_all := He.free_ok X G (c.fact 1 (f := .free "all") rfl)
  z_bool := He.free_ok X G (c.fact 2 (f := .free "bool") rfl)
  z_int := He.free_ok X G (c.fact 3 (f := .free "int") rfl)
  z_isinstance := He.free_ok X G (c.fact 4 (f := .free "isinstance") rfl)
  z_len := He.free_ok X G (c.fact 5 (f := .free "len") rfl)
  z_min := He.free_ok X G (c.fact 6 (f := .free "min") rfl)
  z_range := He.free_ok X G (c.fact 7 (f := .free "range") rfl)
  z_set := He.free_ok X G (c.fact 8 (f := .free "set") rfl)
  z_sorted := He.free_ok X G (c.fact 9 (f := .free "sorted") rfl)
  z_tuple := He.free_ok X G (c.fact 10 (f := .free "tuple") rfl)
  z_zip := He.free_ok X G (c.fact 11 (f := .free "zip") rfl)
  c_ANSWERS := He.int_ok X G (c.fact 12 (f := .int "ANSWERS" 10) rfl)
  c_MOST_OUTCOMES := He.int_ok X G (c.fact 13 (f := .int "MOST_OUTCOMES" 4) rfl)
  c_MOST_PUTS := He.int_ok X G (c.fact 14 (f := .int "MOST_PUTS" 4) rfl)
  c_MOST_STANDINGS := He.int_ok X G (c.fact 15 (f := .int "MOST_STANDINGS" 8) rfl)
  k_NoStanding := He.glo_ok X G (c.fact 53 (f := .glo "NoStanding") rfl)
  k_NotSure := He.glo_ok X G (c.fact 54 (f := .glo "NotSure") rfl)
  xc_NoStanding := by
    obtain ⟨a, b, c1, d⟩ := He.exc_ok (c.fact 55 (f := .exc "NoStanding") rfl)
    exact ⟨_, He.glo_ok X G (c.fact 53 (f := .glo "NoStanding") rfl), a, b, c1, d⟩
  xc_NotSure := by
    obtain ⟨a, b, c1, d⟩ := He.exc_ok (c.fact 56 (f := .exc "NotSure") rfl)
    exact ⟨_, He.glo_ok X G (c.fact 54 (f := .glo "NotSure") rfl), a, b, c1, d⟩
  xm_NotSure := (exm_cons (He.glo_ok X G (c.fact 53 (f := .glo "NoStanding") rfl)) (He.exm_ok (c.fact 57 (f := .exm "NoStanding" "NotSure" false) rfl)) (exm_cons (He.glo_ok X G (c.fact 54 (f := .glo "NotSure") rfl)) (He.exm_ok (c.fact 58 (f := .exm "NotSure" "NotSure" true) rfl)) exm_nil))
  ok_Kind := ⟨fun C e => by
    have g : mg "Kind" = some (.ref (He.ga K "Kind")) := He.glo_ok X G (c.fact 46 (f := .glo "Kind") rfl)
    have e : mg "Kind" = some (.ref C) := e
    rw [g] at e; cases e
    exact He.cls_ok (c.fact 47 (f := .cls "Kind") rfl), fun C e f hf => by
    have g : mg "Kind" = some (.ref (He.ga K "Kind")) := He.glo_ok X G (c.fact 46 (f := .glo "Kind") rfl)
    have e : mg "Kind" = some (.ref C) := e
    rw [g] at e; cases e
    simp only [List.mem_cons, List.not_mem_nil, or_false] at hf
    rcases hf with rfl | rfl | rfl | rfl
    · exact He.noat_ok (c.fact 48 (f := .noat "Kind" "looks") rfl)
    · exact He.noat_ok (c.fact 49 (f := .noat "Kind" "drifts") rfl)
    · exact He.noat_ok (c.fact 50 (f := .noat "Kind" "puts") rfl)
    · exact He.noat_ok (c.fact 51 (f := .noat "Kind" "size") rfl)⟩
  d__law_pool := by
    obtain ⟨fd, F⟩ := c.def_ 0 (d := dd__law_pool) rfl
    exact ⟨_, fd, He5.fun_of (st := s__law_pool) F, He.glo_ok X G (c.fact 16 (f := .glo "_law_pool") rfl)⟩
  d__law_draw := by
    obtain ⟨fd, F⟩ := c.def_ 1 (d := dd__law_draw) rfl
    exact ⟨_, fd, He5.fun_of (st := s__law_draw) F, He.glo_ok X G (c.fact 17 (f := .glo "_law_draw") rfl)⟩
  d__law_pick := by
    obtain ⟨fd, F⟩ := c.def_ 2 (d := dd__law_pick) rfl
    exact ⟨_, fd, He5.fun_of (st := s__law_pick) F, He.glo_ok X G (c.fact 18 (f := .glo "_law_pick") rfl)⟩
  d__law_kind_parts := by
    obtain ⟨fd, F⟩ := c.def_ 3 (d := dd__law_kind_parts) rfl
    exact ⟨_, fd, He5.fun_of (st := s__law_kind_parts) F, He.glo_ok X G (c.fact 19 (f := .glo "_law_kind_parts") rfl)⟩
  d__law_nearly_sure := by
    obtain ⟨fd, F⟩ := c.def_ 4 (d := dd__law_nearly_sure) rfl
    exact ⟨_, fd, He5.fun_of (st := s__law_nearly_sure) F, He.glo_ok X G (c.fact 20 (f := .glo "_law_nearly_sure") rfl)⟩
  d_is_tuple := by
    obtain ⟨fd, F⟩ := c.def_ 5 (d := dd_is_tuple) rfl
    exact ⟨_, fd, He5.fun_of (st := s_is_tuple) F, He.glo_ok X G (c.fact 21 (f := .glo "is_tuple") rfl)⟩
  d_is_integer := by
    obtain ⟨fd, F⟩ := c.def_ 6 (d := dd_is_integer) rfl
    exact ⟨_, fd, He5.fun_of (st := s_is_integer) F, He.glo_ok X G (c.fact 22 (f := .glo "is_integer") rfl)⟩
  d_is_below := by
    obtain ⟨fd, F⟩ := c.def_ 7 (d := dd_is_below) rfl
    exact ⟨_, fd, He5.fun_of (st := s_is_below) F, He.glo_ok X G (c.fact 23 (f := .glo "is_below") rfl)⟩
  d_is_outcome := by
    obtain ⟨fd, F⟩ := c.def_ 8 (d := dd_is_outcome) rfl
    exact ⟨_, fd, He5.fun_of (st := s_is_outcome) F, He.glo_ok X G (c.fact 24 (f := .glo "is_outcome") rfl)⟩
  d_rising := by
    obtain ⟨fd, F⟩ := c.def_ 9 (d := dd_rising) rfl
    exact ⟨_, fd, He5.fun_of (st := s_rising) F, He.glo_ok X G (c.fact 25 (f := .glo "rising") rfl)⟩
  d_are_outcomes := by
    obtain ⟨fd, F⟩ := c.def_ 10 (d := dd_are_outcomes) rfl
    exact ⟨_, fd, He5.fun_of (st := s_are_outcomes) F, He.glo_ok X G (c.fact 26 (f := .glo "are_outcomes") rfl)⟩
  d_are_looks := by
    obtain ⟨fd, F⟩ := c.def_ 11 (d := dd_are_looks) rfl
    exact ⟨_, fd, He5.fun_of (st := s_are_looks) F, He.glo_ok X G (c.fact 27 (f := .glo "are_looks") rfl)⟩
  d_are_rising_standings := by
    obtain ⟨fd, F⟩ := c.def_ 12 (d := dd_are_rising_standings) rfl
    exact ⟨_, fd, He5.fun_of (st := s_are_rising_standings) F, He.glo_ok X G (c.fact 28 (f := .glo "are_rising_standings") rfl)⟩
  d_are_drifts := by
    obtain ⟨fd, F⟩ := c.def_ 13 (d := dd_are_drifts) rfl
    exact ⟨_, fd, He5.fun_of (st := s_are_drifts) F, He.glo_ok X G (c.fact 29 (f := .glo "are_drifts") rfl)⟩
  d_is_put := by
    obtain ⟨fd, F⟩ := c.def_ 14 (d := dd_is_put) rfl
    exact ⟨_, fd, He5.fun_of (st := s_is_put) F, He.glo_ok X G (c.fact 30 (f := .glo "is_put") rfl)⟩
  d_are_puts := by
    obtain ⟨fd, F⟩ := c.def_ 15 (d := dd_are_puts) rfl
    exact ⟨_, fd, He5.fun_of (st := s_are_puts) F, He.glo_ok X G (c.fact 31 (f := .glo "are_puts") rfl)⟩
  m_Kind_init := by
    obtain ⟨fd, F⟩ := c.def_ 16 (d := dd_Kind_init) rfl
    exact ⟨_, _, fd, He.mkr_ok (c.fact 52 (f := .mkr "Kind") rfl), He5.fun_of (st := s_Kind_init) F, He.glo_ok X G (c.fact 46 (f := .glo "Kind") rfl)⟩
  d__law_is_sure := by
    obtain ⟨fd, F⟩ := c.def_ 17 (d := dd__law_is_sure) rfl
    exact ⟨_, fd, He5.fun_of (st := s__law_is_sure) F, He.glo_ok X G (c.fact 32 (f := .glo "_law_is_sure") rfl)⟩
  d_sure := by
    obtain ⟨fd, F⟩ := c.def_ 18 (d := dd_sure) rfl
    exact ⟨_, fd, He5.fun_of (st := s_sure) F, He.glo_ok X G (c.fact 33 (f := .glo "sure") rfl)⟩
  d_check_standing := by
    obtain ⟨fd, F⟩ := c.def_ 19 (d := dd_check_standing) rfl
    exact ⟨_, fd, He5.fun_of (st := s_check_standing) F, He.glo_ok X G (c.fact 34 (f := .glo "check_standing") rfl)⟩
  d_check_sure := by
    obtain ⟨fd, F⟩ := c.def_ 20 (d := dd_check_sure) rfl
    exact ⟨_, fd, He5.fun_of (st := s_check_sure) F, He.glo_ok X G (c.fact 35 (f := .glo "check_sure") rfl)⟩
  d_only_goal := by
    obtain ⟨fd, F⟩ := c.def_ 21 (d := dd_only_goal) rfl
    exact ⟨_, fd, He5.fun_of (st := s_only_goal) F, He.glo_ok X G (c.fact 36 (f := .glo "only_goal") rfl)⟩
  d_trail_from := by
    obtain ⟨fd, F⟩ := c.def_ 22 (d := dd_trail_from) rfl
    exact ⟨_, fd, He5.fun_of (st := s_trail_from) F, He.glo_ok X G (c.fact 37 (f := .glo "trail_from") rfl)⟩
  d_round_begin := by
    obtain ⟨fd, F⟩ := c.def_ 23 (d := dd_round_begin) rfl
    exact ⟨_, fd, He5.fun_of (st := s_round_begin) F, He.glo_ok X G (c.fact 38 (f := .glo "round_begin") rfl)⟩
  d_least_turn := by
    obtain ⟨fd, F⟩ := c.def_ 24 (d := dd_least_turn) rfl
    exact ⟨_, fd, He5.fun_of (st := s_least_turn) F, He.glo_ok X G (c.fact 39 (f := .glo "least_turn") rfl)⟩
  d_shortest_round := by
    obtain ⟨fd, F⟩ := c.def_ 25 (d := dd_shortest_round) rfl
    exact ⟨_, fd, He5.fun_of (st := s_shortest_round) F, He.glo_ok X G (c.fact 40 (f := .glo "shortest_round") rfl)⟩
  d_class_of := by
    obtain ⟨fd, F⟩ := c.def_ 26 (d := dd_class_of) rfl
    exact ⟨_, fd, He5.fun_of (st := s_class_of) F, He.glo_ok X G (c.fact 41 (f := .glo "class_of") rfl)⟩
  d__law_long_row := by
    obtain ⟨fd, F⟩ := c.def_ 27 (d := dd__law_long_row) rfl
    exact ⟨_, fd, He5.fun_of (st := s__law_long_row) F, He.glo_ok X G (c.fact 42 (f := .glo "_law_long_row") rfl)⟩
  d__law_class := by
    obtain ⟨fd, F⟩ := c.def_ 28 (d := dd__law_class) rfl
    exact ⟨_, fd, He5.fun_of (st := s__law_class) F, He.glo_ok X G (c.fact 43 (f := .glo "_law_class") rfl)⟩
  d_law := by
    obtain ⟨fd, F⟩ := c.def_ 29 (d := dd_law) rfl
    exact ⟨_, fd, He5.fun_of (st := s_law) F, He.glo_ok X G (c.fact 44 (f := .glo "law") rfl)⟩
  d__law_sure_told := by
    obtain ⟨fd, F⟩ := c.def_ 30 (d := dd__law_sure_told) rfl
    exact ⟨_, fd, He5.fun_of (st := s__law_sure_told) F, He.glo_ok X G (c.fact 45 (f := .glo "_law_sure_told") rfl)⟩
end K09
open PySem PySem.W PySem.Calls PyProof.Rows in
theorem K09.holds_of (hm : ∀ ns : List Int, ns.length ≤ 63 → ∃ ρ, Q.b_law (some (.scr ns) :: (List.replicate 8 none ++ [some (.tab true)])) = .rt (.bl true) ρ) : PySem.Challenge.rw_lookspoil_k09_whole_sure_kinds_and_class.Holds := by
  w_on; o_law
  refine HandSHeadRun.head_any (r := OpenLaw.row PySem.Challenge.rw_lookspoil_k09_whole_sure_kinds_and_class) (q := view (OpenLaw.row PySem.Challenge.rw_lookspoil_k09_whole_sure_kinds_and_class).prog [44]) (H := K09.hk) (ob := K09.ob) (M := 9000) (loose := K09.nm_) (d := HandSHeadRun.topDef (OpenLaw.row PySem.Challenge.rw_lookspoil_k09_whole_sure_kinds_and_class).prog 44) (kwd := []) K09.ob_eq
    (by kernel_rfl) (fun s => by kernel_rfl) K09.run (by kernel_rfl) (by kernel_rfl) (by kernel_rfl) (by rfl) (by first | assumption | decide +kernel) (by decide +kernel) ⟨rfl, rfl, rfl, rfl, rfl, by decide +kernel⟩ ?hw ?hc
  case hw => w_witness2
  case hc =>
    refine VE.walk_topT (l := PySem.Challenge.rw_lookspoil_k09_whole_sure_kinds_and_class) (n := 63) (x := "_law_script") rfl (by decide) (by kernel_rfl) ?F
    intro w mg fa h Y G hmg0
    obtain ⟨K, KX, c0⟩ := Y
    have cx := c0.more
    have c := c0.t.d
    have hmg : mg ("law" : PySem.Str) = some (.ref fa) := by
      have e : (HandSHeadRun.topDef (OpenLaw.row PySem.Challenge.rw_lookspoil_k09_whole_sure_kinds_and_class).prog 44).name = ("law" : PySem.Str) := by kernel_rfl
      rw [← e]
      exact hmg0
    obtain ⟨fd, FD⟩ := c.def_ 29 (d := K09.dd_law) rfl
    have F : L2.Fun K "law" "law" K09.s_law _ fd := He5.fun_of (st := K09.s_law) FD
    have g : mg ("law" : PySem.Str) = some (.ref (He.ga K "law")) := He.glo_ok KX G (c.fact 44 (f := .glo "law") rfl)
    rw [hmg] at g; cases g
    have b := L2.FunD.bindsA (ps := ["_law_script"]) FD fun _ _ _ _ _ _ us hl => match us, hl with | [_], _ => rfl
    have m1 : (("law", none) : He.Defn) ∈ ([("law", none)] : List He.Defn) := List.mem_singleton.mpr rfl
    have hd := c0.hd _ m1
    have hcode : fd.code = .ref (He.cT K ("law", none)).1 := by
      obtain ⟨oc, od, kV, doc, pm, an, cdv, ct, osl, rfl, lk, hci⟩ := F.ex
      obtain ⟨cc, e⟩ := He.codeIn_ref hci
      have e2 := He.codeOf_eq (K := K) (p := ("law", none)) lk e
      show cdv = _
      rw [show (He.cT K ("law", none)).1 = He.codeOf K ("law", none) from rfl, e2, e]
    have hT : VL.TabOf ⟨mg, K⟩ (He.cT K ("law", none)).2 := by
      obtain ⟨oc, od, kV, doc, pm, an, cdv, ct, osl, rfl, lk, hci⟩ := F.ex
      exact VE.tab_of hmg lk rfl hcode hd
    refine ⟨K, fd, VL.spTop ⟨mg, K⟩ Q.b_law 8 (He.cT K ("law", none)).2, (He.cT K ("law", none)).1, (He.cT K ("law", none)).2, KX, c0.empty _ m1, c0.out _ m1, PySem.W.codeHd_of_K KX hd, fun s u => b s [u] rfl, fun H a ns hl hP hS => ?_, fun base kb gb TB =>
      VL.def_topL F K09.sc_law Q.b_law (k := 9) ⟨rfl, by decide, by decide⟩ rfl rfl (gh := "$tab") rfl (by unfold L2.Vis; decide +kernel) hT hcode fun outer s H E vs hr hgd => K09.dv_law (K09.tx KX G c cx base) TB hT callerA outer s H E hr hgd⟩
    obtain ⟨ρ, e⟩ := hm ns hl
    exact ⟨fun _ => rfl, a, ns, ρ, rfl, hS, hP, e⟩

open PySem PySem.Spec PyProof.Rows L2 VL
local macro_rules
  | `(tactic| simp only [vls_] $[$l]?) => `(tactic| simp only [th_ok, th_exc, tS_ok, tS_exc, sth_nx, sth_rt, sth_bk, sth_ct, sth_exc, opt_some, at_val, at_slot, ev_gC, ev_gVar, ev_gMove, ev_oVar, ev_oEx, ev_gFz, ev_aNil, ev_aCons, ev_op1, ev_op2, atAll_nil, atAll_cons, ev_callB, vals_nil, vals_cons, ev_lst, ev_tup, ev_fld, ev_sl, ev_pNone, ev_pInt, ev_tVal, ev_tTru, ev_and, ev_or, ev_not, ev_yes, ev_andV, ev_orV, ev_notV, ev_ife, ev_gDict, ev_chain, chainR_t, chainR_f, ev_make, mkE_ret, mkE_exc, es_seq, es_bind, es_pass, es_break, es_cont, es_ret, es_retN, es_expr, es_if, es_setSlot, es_set, es_for, es_asg, es_putEnd, es_put, es_setF, es_mut, es_mut0, es_augI, ei_seq, ei_range1, ei_range2, ei_zip, et_nil, et_cons, et_tup, et_lst, ev_lc, ev_dc, ev_call, outE_ret, lend_nil, lend_val, lend_slot, back_nil, back_val, back_slot, lentB_eq, tB_ok, ev_compL, ev_compD, ev_compLK, ev_compDK, ev_emLst, ev_emDct, goG_nil, goG_cons, loopG_nil, noExc_nx, noExc_rt, ev_mutIx, es_augIx, ev_disp1, ev_callK, Kx.val, ei_enum, ev_get1, ev_listRg, ev_sortSC, ev_emInt, List.getElem?_cons_zero, List.getElem?_cons_succ, List.getElem?_nil, List.set_cons_zero, List.set_cons_succ, List.length_cons, List.length_nil, List.map_cons, List.map_nil, Option.map_some, Option.map_none, Option.bind_some, Option.bind_none, Option.join_some, Option.join_none, Option.isNone_some, Option.isNone_none, Bool.false_eq_true, Bool.not_true, Bool.not_false, if_true, if_false, ite_true, ite_false, decide_true, decide_false, forget, maskA, finA, List.not_mem_nil, List.mem_cons, List.mem_singleton, Nat.add_zero, Nat.zero_add, or_false, false_or, or_true, true_or, and_self, and_true, true_and, and_false, false_and, Nat.reduceAdd, Nat.reduceSub, Nat.reduceLT, Nat.reduceEqDiff, Nat.reduceLeDiff, List.replicate, List.cons_append, List.nil_append, reduceCtorEq, Option.some.injEq, D.fz, D.fzd, Bool.and_true, Bool.true_and, Bool.and_false, Bool.false_and, Bool.and_self, Bool.not_eq_true, fIx_lst, fIx_tup, fAt_0, fAt_1, fAt_2, fAt_3, fAt_4, fLt_ii, fGt_ii, fLe_ii, fGe_ii, fEq_ii, fNe_ii, fSub_ii, fAdd_ii, fNeg_i, fInt_i, fInt_b, fLen_l, fLen_t, fLen_d, fTuple_l, fTuple_t, fList_l, fList_t, fList_d, fAll_l, fAny_l, blsOf_cons, fPutL_0, fPutL_1, fPutL_2, fPutL_3, fReverse_l, seqOf_l, seqOf_t, truth_l, truth_b, isT_l, isLst_l, isLst_d, fPut_t, fPut_f, fSl_t, fSl_s, cut_tail, endS_nx, endS_rt, endS_bk, endS_ct, tE_nx, Int.toNat_natCast, decide_eq_true_eq, beq_self_eq_true] $[$l]?)
  | `(tactic| simp only [vls_, $args,*] $[$l]?) => `(tactic| simp only [th_ok, th_exc, tS_ok, tS_exc, sth_nx, sth_rt, sth_bk, sth_ct, sth_exc, opt_some, at_val, at_slot, ev_gC, ev_gVar, ev_gMove, ev_oVar, ev_oEx, ev_gFz, ev_aNil, ev_aCons, ev_op1, ev_op2, atAll_nil, atAll_cons, ev_callB, vals_nil, vals_cons, ev_lst, ev_tup, ev_fld, ev_sl, ev_pNone, ev_pInt, ev_tVal, ev_tTru, ev_and, ev_or, ev_not, ev_yes, ev_andV, ev_orV, ev_notV, ev_ife, ev_gDict, ev_chain, chainR_t, chainR_f, ev_make, mkE_ret, mkE_exc, es_seq, es_bind, es_pass, es_break, es_cont, es_ret, es_retN, es_expr, es_if, es_setSlot, es_set, es_for, es_asg, es_putEnd, es_put, es_setF, es_mut, es_mut0, es_augI, ei_seq, ei_range1, ei_range2, ei_zip, et_nil, et_cons, et_tup, et_lst, ev_lc, ev_dc, ev_call, outE_ret, lend_nil, lend_val, lend_slot, back_nil, back_val, back_slot, lentB_eq, tB_ok, ev_compL, ev_compD, ev_compLK, ev_compDK, ev_emLst, ev_emDct, goG_nil, goG_cons, loopG_nil, noExc_nx, noExc_rt, ev_mutIx, es_augIx, ev_disp1, ev_callK, Kx.val, ei_enum, ev_get1, ev_listRg, ev_sortSC, ev_emInt, List.getElem?_cons_zero, List.getElem?_cons_succ, List.getElem?_nil, List.set_cons_zero, List.set_cons_succ, List.length_cons, List.length_nil, List.map_cons, List.map_nil, Option.map_some, Option.map_none, Option.bind_some, Option.bind_none, Option.join_some, Option.join_none, Option.isNone_some, Option.isNone_none, Bool.false_eq_true, Bool.not_true, Bool.not_false, if_true, if_false, ite_true, ite_false, decide_true, decide_false, forget, maskA, finA, List.not_mem_nil, List.mem_cons, List.mem_singleton, Nat.add_zero, Nat.zero_add, or_false, false_or, or_true, true_or, and_self, and_true, true_and, and_false, false_and, Nat.reduceAdd, Nat.reduceSub, Nat.reduceLT, Nat.reduceEqDiff, Nat.reduceLeDiff, List.replicate, List.cons_append, List.nil_append, reduceCtorEq, Option.some.injEq, D.fz, D.fzd, Bool.and_true, Bool.true_and, Bool.and_false, Bool.false_and, Bool.and_self, Bool.not_eq_true, fIx_lst, fIx_tup, fAt_0, fAt_1, fAt_2, fAt_3, fAt_4, fLt_ii, fGt_ii, fLe_ii, fGe_ii, fEq_ii, fNe_ii, fSub_ii, fAdd_ii, fNeg_i, fInt_i, fInt_b, fLen_l, fLen_t, fLen_d, fTuple_l, fTuple_t, fList_l, fList_t, fList_d, fAll_l, fAny_l, blsOf_cons, fPutL_0, fPutL_1, fPutL_2, fPutL_3, fReverse_l, seqOf_l, seqOf_t, truth_l, truth_b, isT_l, isLst_l, isLst_d, fPut_t, fPut_f, fSl_t, fSl_s, cut_tail, endS_nx, endS_rt, endS_bk, endS_ct, tE_nx, Int.toNat_natCast, decide_eq_true_eq, beq_self_eq_true, $args,*] $[$l]?)
set_option linter.all false
set_option maxRecDepth 100000
set_option maxHeartbeats 2000000
namespace VL
open PySem PySem.Spec PyProof.Rows L2
/-! ### typed values -/

theorem fzdL_ints (l : List Int) : fzdL (l.map D.int) = true := by rw [fzdL_all]; simp [D.fzd]
theorem fzL_ints (l : List Int) : fzL (l.map D.int) = l.map D.int := fzL_of _ (fzdL_ints l)
theorem fzdL_enc {α : Type} {enc : α → D} (h : ∀ x, (enc x).fzd = true) (l : List α) : fzdL (l.map enc) = true := by
  rw [fzdL_all, List.all_map]
  exact List.all_eq_true.mpr fun x _ => h x
theorem fzL_enc {α : Type} {enc : α → D} (h : ∀ x, (enc x).fzd = true) (l : List α) : fzL (l.map enc) = l.map enc := fzL_of _ (fzdL_enc h l)
theorem fAt_enc {α : Type} {enc : α → D} (h : ∀ x, (enc x).fzd = true) {l : List α} {n : Nat} {x : α} (e : l[n]? = some x) : fAt (l.map enc) (n : Int) = some (enc x) := by
  rw [fAt_nat (x := enc x) (by rw [List.getElem?_map, e]; rfl), h x]; rfl
theorem fAt_ints {l : List Int} {i : Int} (h0 : 0 ≤ i) (h1 : i < l.length) : ∃ x ∈ l, fAt (l.map D.int) i = some (.int x) := by
  obtain ⟨n, rfl⟩ := Int.eq_ofNat_of_zero_le h0
  have hn : n < l.length := by omega
  exact ⟨l[n], List.getElem_mem hn, fAt_enc (fun _ => rfl) (List.getElem?_eq_getElem hn)⟩
theorem fAt_mem {xs : List D} (hf : fzdL xs = true) {i : Int} (h0 : 0 ≤ i) (h1 : i < xs.length) : ∃ x ∈ xs, fAt xs i = some x := by
  obtain ⟨n, rfl⟩ := Int.eq_ofNat_of_zero_le h0
  have hn : n < xs.length := by omega
  refine ⟨xs[n], List.getElem_mem hn, ?_⟩
  rw [fAt_nat (List.getElem?_eq_getElem hn)]
  rw [fzdL_all] at hf
  rw [if_pos (List.all_eq_true.mp hf _ (List.getElem_mem hn))]
theorem mulL {i j : Int} (h1 : -(2 ^ 64) < i) (h2 : i < 2 ^ 64) : fMul (.int i) (.int j) = some (.int (i * j)) := fMul_ii (by
  rw [Bool.or_eq_true]
  exact .inl (small64_iff.mpr ⟨h1, h2⟩))
theorem mulR {i j : Int} (h1 : -(2 ^ 64) < j) (h2 : j < 2 ^ 64) : fMul (.int i) (.int j) = some (.int (i * j)) := fMul_ii (by
  rw [Bool.or_eq_true]
  exact .inr (small64_iff.mpr ⟨h1, h2⟩))
/-! ### isinstance -/
theorem isi_one {d : D} {n m : String} {b : Bool} (ht : d.tag = some (.ty n)) (hm : builtinT m = true) (hb : isOne (.ty n) (.ty m) = b) : fIsi [] [d, .ty m] = some (.bl b) := by
  subst hb
  show (match d.tag, (D.ty m).asT with
    | some t, some u => if (okT [] u && clsIn [] t) = true then some (D.bl (isOne t u)) else none
    | _, _ => none) = _
  rw [ht]
  show (if (builtinT m && true) = true then some (D.bl (isOne (.ty n) (.ty m))) else none) = _
  rw [hm]; rfl
theorem isi_int_int {i : Int} : fIsi [] [.int i, .ty "int"] = some (.bl true) := (isi_one (n := "int") rfl (by decide) (by decide))
theorem isi_int_bool {i : Int} : fIsi [] [.int i, .ty "bool"] = some (.bl false) := (isi_one (n := "int") rfl (by decide) (by decide))
theorem isi_tup {xs : List D} : fIsi [] [.tup xs, .ty "tuple"] = some (.bl true) := (isi_one (n := "tuple") rfl (by decide) (by decide))
theorem isi_lst {o : Bool} {xs : List D} : fIsi [] [.lst o xs, .ty "list"] = some (.bl true) := (isi_one (n := "list") rfl (by decide) (by decide))
/-! ### dicts that are sets -/
def κO (p : Int × Int) : DK := .t [.inl p.1, .inl p.2]
def κI (i : Int) : DK := .k (.inl i)
theorem κO_inj (x y : Int × Int) (h : κO x = κO y) : x = y := by
  unfold κO at h
  simp only [DK.t.injEq, List.cons.injEq, Sum.inl.injEq, and_true] at h
  exact Prod.ext h.1 h.2
theorem κI_inj (x y : Int) (h : κI x = κI y) : x = y := by
  unfold κI at h
  simpa using h
abbrev setO (l : List (Int × Int)) : D := .dct true true (l.map fun x => (κO x, D.bl true))
abbrev setI (l : List Int) : D := .dct true false (l.map fun x => (κI x, D.bl true))
theorem setO_nil : D.dct true true [] = setO [] := rfl
theorem setI_nil : D.dct true false [] = setI [] := rfl
/-! ### order -/
theorem dLt_int (i j : Int) : PySem.W.dataLt (.int i) (.int j) = decide (i < j) := by
  show (decide (i < j) || (!decide (j < i) && false)) = _
  simp
theorem dLt_irrefl (a : PyData) : PySem.W.dataLt a a = false := (listOrd itemOrd).irrefl _
theorem dLt_trans {a b c : PyData} (h1 : PySem.W.dataLt a b = true) (h2 : PySem.W.dataLt b c = true) : PySem.W.dataLt a c = true := (listOrd itemOrd).trans _ _ _ h1 h2
theorem dLe_trans {a b c : PyData} (h1 : PySem.W.dataLt b a = false) (h2 : PySem.W.dataLt c b = false) : PySem.W.dataLt c a = false := by
  cases e : PySem.W.dataLt c a with
  | false => rfl
  | true =>
    rcases (listOrd itemOrd).negTrans (PySem.W.keyToks c) (PySem.W.keyToks b) (PySem.W.keyToks a) e with h | h
    · rw [show PySem.W.dataLt c b = true from h] at h2; cases h2
    · rw [show PySem.W.dataLt b a = true from h] at h1; cases h1
theorem dLe_total (a b : PyData) : (!PySem.W.dataLt b a || !PySem.W.dataLt a b) = true := by
  cases e : PySem.W.dataLt b a with
  | false => rfl
  | true =>
    cases e2 : PySem.W.dataLt a b with
    | false => rfl
    | true =>
      have := dLt_trans e e2
      rw [dLt_irrefl] at this; cases this
theorem dLt_of_ne {a b : PyData} (h : PySem.W.keyToks a ≠ PySem.W.keyToks b) (h2 : PySem.W.dataLt b a = false) : PySem.W.dataLt a b = true := by
  cases e : PySem.W.dataLt a b with
  | true => rfl
  | false => exact absurd ((listOrd itemOrd).total _ _ e h2) h
/-- sorted() over encoded values -/
def leE {α : Type} (dat : α → PyData) (x y : α) : Bool := !PySem.W.dataLt (dat y) (dat x)
structure Enc {α : Type} (enc : α → D) (dat : α → PyData) : Prop where
  cmp : ∀ x, (enc x).cmp = some (dat x)
  al : ∀ x y, PySem.W.alike (dat x) (dat y) = true
  fz : ∀ x, (enc x).fzd = true
  so : (∀ x, ∃ y r, dat x = .tuple (y :: r)) ∨ (∀ x, ∃ i, dat x = .int i)
theorem mapM_enc {α : Type} {enc : α → D} {dat : α → PyData} (h : ∀ x, (enc x).cmp = some (dat x)) : ∀ l : List α, (l.map enc).mapM D.cmp = some (l.map dat)
  | [] => rfl
  | x :: l => by rw [List.map_cons, List.mapM_cons, h x, mapM_enc h l]; rfl
theorem zip_enc {α : Type} {enc : α → D} {dat : α → PyData} : ∀ l : List α, (l.map enc).zip (l.map dat) = l.map fun x => (enc x, dat x)
  | [] => rfl
  | x :: l => by simp [zip_enc l]
theorem sortD_enc {α : Type} {enc : α → D} {dat : α → PyData} (h : Enc enc dat) {l : List α} (hl : l.length < big) : sortD (l.map enc) = some ((l.mergeSort (leE dat)).map enc) := by
  unfold sortD
  rw [mapM_enc h.cmp]
  have h1 : alAll (l.map dat) = true := by
    unfold alAll
    rw [List.all_map]
    refine List.all_eq_true.mpr fun x _ => ?_
    show (l.map dat).all _ = true
    rw [List.all_map]
    exact List.all_eq_true.mpr fun y _ => h.al x y
  have h2 : sortable (l.map dat) = true := by
    unfold sortable
    rw [Bool.or_eq_true]
    rcases h.so with s | s
    · refine .inl ?_
      rw [List.all_map]
      refine List.all_eq_true.mpr fun x _ => ?_
      obtain ⟨y, r, e⟩ := s x
      simp only [Function.comp, e]
    · refine .inr ?_
      rw [List.all_map]
      refine List.all_eq_true.mpr fun x _ => ?_
      obtain ⟨i, e⟩ := s x
      simp only [Function.comp, e]
  show (if (alAll (l.map dat) && sortable (l.map dat) && decide ((l.map dat).length < big)) = true then some ((((l.map enc).zip (l.map dat)).mergeSort (PySem.W.dataLe false Prod.snd)).map Prod.fst) else none) = _
  rw [if_pos (by rw [h1, h2, List.length_map]; simp [hl]), zip_enc]
  rw [← List.map_mergeSort (r := leE dat) (f := fun x => (enc x, dat x)) fun a _ b _ => rfl]
  rw [List.map_map]
  rfl
theorem fSorted_lst {α : Type} {enc : α → D} {dat : α → PyData} (h : Enc enc dat) {o : Bool} {l : List α} (hl : l.length < big) : fSorted [.lst o (l.map enc)] = some (.lst true ((l.mergeSort (leE dat)).map enc)) := by
  show ((sortD (l.map enc)).bind fun ys => if fzdL ys = true then some (D.lst true ys) else none) = _
  rw [sortD_enc h hl]
  show (if fzdL _ = true then some _ else none) = _
  rw [if_pos (fzdL_enc h.fz _)]
theorem fSorted_dct {α : Type} {enc : α → D} {dat : α → PyData} {dk : α → DK} {v : α → D} (h : Enc enc dat) (hk : ∀ x, dOfDK (dk x) = enc x) {o t : Bool} {l : List α} (hl : l.length < big) : fSorted [.dct o t (l.map fun x => (dk x, v x))] = some (.lst true ((l.mergeSort (leE dat)).map enc)) := by
  show (sortD ((l.map fun x => (dk x, v x)).map fun kv => dOfDK kv.1)).map (fun ys => D.lst true ys) = _
  rw [List.map_map, show ((fun kv : DK × D => dOfDK kv.1) ∘ fun x => (dk x, v x)) = enc from funext fun x => hk x, sortD_enc h hl]
  rfl
/-- what sorted() tells: the same things, rising -/
theorem srt_perm {α : Type} (dat : α → PyData) (l : List α) : (l.mergeSort (leE dat)).Perm l := List.mergeSort_perm l _
theorem srt_le {α : Type} (dat : α → PyData) (l : List α) : (l.mergeSort (leE dat)).Pairwise fun x y => leE dat x y = true :=
  List.pairwise_mergeSort (fun a b c h1 h2 => by
    have h1 : (!PySem.W.dataLt (dat b) (dat a)) = true := h1
    have h2 : (!PySem.W.dataLt (dat c) (dat b)) = true := h2
    show (!PySem.W.dataLt (dat c) (dat a)) = true
    rw [Bool.not_eq_true'] at h1 h2 ⊢
    exact dLe_trans h1 h2) (fun a b => dLe_total (dat a) (dat b)) l
theorem srt_lt {α : Type} {dat : α → PyData} (inj : ∀ x y, PySem.W.keyToks (dat x) = PySem.W.keyToks (dat y) → x = y) {l : List α} (hn : l.Nodup) : (l.mergeSort (leE dat)).Pairwise fun x y => PySem.W.dataLt (dat x) (dat y) = true := by
  have h1 := srt_le dat l
  have h2 : (l.mergeSort (leE dat)).Nodup := (srt_perm dat l).nodup_iff.mpr hn
  exact (h1.and h2).imp fun {x y} ⟨a, b⟩ => dLt_of_ne (fun e => b (inj x y e)) (by unfold leE at a; rwa [Bool.not_eq_true'] at a)
/-- ints -/
theorem enc_int : Enc D.int PyData.int := ⟨fun x => cmp_int, fun _ _ => rfl, fun _ => rfl, .inr fun x => ⟨x, rfl⟩⟩
def srt (l : List Int) : List Int := l.mergeSort (leE PyData.int)
theorem mem_srt {l : List Int} {x : Int} : x ∈ srt l ↔ x ∈ l := (srt_perm PyData.int l).mem_iff
theorem srt_up {l : List Int} (hn : l.Nodup) : (srt l).Pairwise (· < ·) := (srt_lt (dat := PyData.int) (fun x y e => by
  have e : [(Sum.inl x : Int ⊕ List Nat)] = [Sum.inl y] := e
  simpa using e) hn).imp fun {x y} h => by
    rw [dLt_int] at h
    exact of_decide_eq_true h
theorem srt_len {l : List Int} : (srt l).length = l.length := (srt_perm PyData.int l).length_eq
/-- rising lists with the same members are the same -/
theorem up_ext {a b : List Int} (ha : a.Pairwise (· < ·)) (hb : b.Pairwise (· < ·)) (h : ∀ x, x ∈ a ↔ x ∈ b) : a = b := by
  have na : a.Nodup := ha.imp fun h => Int.ne_of_lt h
  have nb : b.Nodup := hb.imp fun h => Int.ne_of_lt h
  exact List.Perm.eq_of_pairwise (le := (· < ·)) (fun x y _ _ h1 h2 => by omega) ha hb ((List.perm_ext_iff_of_nodup na nb).mpr h)
end VL

set_option linter.all false
set_option maxRecDepth 100000
set_option maxHeartbeats 4000000
namespace VL
open PySem PySem.Spec PyProof.Rows L2
/-! ### typed values: compared -/
structure Ty {α : Type} [DecidableEq α] (enc : α → D) (dat : α → PyData) (k : Nat) : Prop where
  py : ∀ x, (enc x).py = some (dat x)
  pl : ∀ x, (dat x).plain = true
  de : ∀ x, (dat x).depth ≤ k
  ev : ∀ x y, PyData.eqv (dat x) (dat y) = decide (x = y)
  fz : ∀ x, (enc x).fzd = true
section
variable {α β : Type} [DecidableEq α] [DecidableEq β] {enc : α → D} {dat : α → PyData} {enc2 : β → D} {dat2 : β → PyData} {k k2 : Nat}
theorem ty_py_int (i : Int) : (D.int i).py = some (.int i) := by rw [D.py]
theorem Ty.int : Ty D.int PyData.int 0 := ⟨ty_py_int, fun _ => rfl, fun _ => Nat.le_refl 0, fun x y => by
  rw [PyData.eqv]
  by_cases h : x = y
  · subst h; simp
  · simp [h], fun _ => rfl⟩
theorem Ty.bl : Ty D.bl PyData.bool 0 := ⟨fun _ => by rw [D.py], fun _ => rfl, fun _ => Nat.le_refl 0, fun x y => by
  rw [PyData.eqv]
  by_cases h : x = y
  · subst h; simp
  · simp [h], fun _ => rfl⟩
theorem Ty.str : Ty D.str PyData.str 0 := ⟨fun _ => by rw [D.py], fun _ => rfl, fun _ => Nat.le_refl 0, fun x y => by
  rw [PyData.eqv]
  by_cases h : x = y
  · subst h; simp
  · simp [h], fun _ => rfl⟩
theorem ty_pyL_nil : pyL [] = some [] := by rw [pyL]
theorem ty_pyL_cons {x : D} {xs : List D} {p : PyData} {ps : List PyData} (h : x.py = some p) (h2 : pyL xs = some ps) : pyL (x :: xs) = some (p :: ps) := by rw [pyL, h, h2]
theorem Ty.pyL (h : Ty enc dat k) : ∀ l : List α, VL.pyL (l.map enc) = some (l.map dat)
  | [] => ty_pyL_nil
  | x :: l => ty_pyL_cons (h.py x) (Ty.pyL h l)
theorem Ty.plA (h : Ty enc dat k) : ∀ l : List α, PyData.plainAll (l.map dat) = true
  | [] => rfl
  | x :: l => by rw [List.map_cons, PyData.plainAll, h.pl x, Ty.plA h l]; rfl
theorem Ty.deA (h : Ty enc dat k) : ∀ l : List α, PyData.depthAll (l.map dat) ≤ k
  | [] => Nat.zero_le _
  | x :: l => by rw [List.map_cons, PyData.depthAll]; exact Nat.max_le.mpr ⟨h.de x, Ty.deA h l⟩
theorem Ty.evA (h : Ty enc dat k) : ∀ l m : List α, PyData.eqvAll (l.map dat) (m.map dat) = decide (l = m)
  | [], [] => rfl
  | [], _ :: _ => by simp [PyData.eqvAll]
  | _ :: _, [] => by simp [PyData.eqvAll]
  | x :: l, y :: m => by
    rw [List.map_cons, List.map_cons, PyData.eqvAll, h.ev x y, Ty.evA h l m]
    by_cases a : x = y
    · by_cases b : l = m <;> simp [a, b]
    · simp [a]
theorem Ty.tup (h : Ty enc dat k) : Ty (fun l : List α => D.tup (l.map enc)) (fun l => .tuple (l.map dat)) (k + 1) := ⟨fun l => by rw [D.py, h.pyL l]; rfl, fun l => by rw [PyData.plain]; exact h.plA l, fun l => by rw [PyData.depth]; exact Nat.succ_le_succ (h.deA l), fun l m => by rw [PyData.eqv]; exact h.evA l m, fun l => fzdL_enc h.fz l⟩
theorem Ty.lst (h : Ty enc dat k) : Ty (fun l : List α => D.lst false (l.map enc)) (fun l => .list (l.map dat)) (k + 1) := ⟨fun l => by rw [D.py, h.pyL l]; rfl, fun l => by rw [PyData.plain]; exact h.plA l, fun l => by rw [PyData.depth]; exact Nat.succ_le_succ (h.deA l), fun l m => by rw [PyData.eqv]; exact h.evA l m, fun l => by rw [D.fzd, fzdL_enc h.fz l]; rfl⟩
theorem Ty.pair (h : Ty enc dat k) (h2 : Ty enc2 dat2 k2) : Ty (fun p : α × β => D.tup [enc p.1, enc2 p.2]) (fun p => .tuple [dat p.1, dat2 p.2]) (max k k2 + 1) := ⟨fun p => by rw [D.py, ty_pyL_cons (h.py _) (ty_pyL_cons (h2.py _) ty_pyL_nil)]; rfl, fun p => by simp [PyData.plain, PyData.plainAll, h.pl, h2.pl], fun p => by
    have := h.de p.1; have := h2.de p.2
    simp only [PyData.depth, PyData.depthAll]; omega, fun p q => by
    rw [PyData.eqv, PyData.eqvAll, PyData.eqvAll, PyData.eqvAll, h.ev, h2.ev]
    obtain ⟨a, b⟩ := p; obtain ⟨c, d⟩ := q
    by_cases e : a = c
    · by_cases f : b = d <;> simp [e, f]
    · simp [e], fun p => by simp [D.fzd, fzdL, h.fz, h2.fz]⟩
theorem ty_cmp {d : D} {p : PyData} (h : d.py = some p) (h1 : p.plain = true) (h2 : p.depth ≤ 40) : d.cmp = some p := by
  unfold D.cmp
  rw [h]
  show (if (p.plain && decide (p.depth ≤ 40)) = true then some p else none) = some p
  rw [if_pos (by rw [h1, decide_eq_true h2]; rfl)]
theorem Ty.cmp (h : Ty enc dat k) (hk : k ≤ 40) (x : α) : (enc x).cmp = some (dat x) := ty_cmp (h.py x) (h.pl x) (Nat.le_trans (h.de x) hk)
/-- a list that is owned is compared as one that is not -/
theorem cmp_own {o : Bool} {xs : List D} : (D.lst o xs).cmp = (D.lst false xs).cmp := by unfold D.cmp; rw [D.py, D.py]
theorem Ty.eq (h : Ty enc dat k) (hk : k ≤ 40) {d e : D} {x y : α} (hd : d.cmp = (enc x).cmp) (he : e.cmp = (enc y).cmp) : fEq d e = some (.bl (decide (x = y))) := by
  unfold fEq
  rw [hd, he, h.cmp hk, h.cmp hk]
  simp only [h.ev]
theorem Ty.ne (h : Ty enc dat k) (hk : k ≤ 40) {d e : D} {x y : α} (hd : d.cmp = (enc x).cmp) (he : e.cmp = (enc y).cmp) : fNe d e = some (.bl (!decide (x = y))) := by
  unfold fNe
  rw [hd, he, h.cmp hk, h.cmp hk]
  simp only [h.ev]
theorem Ty.anyEv (h : Ty enc dat k) (x : α) (l : List α) : ((l.map dat).any fun z => PyData.eqv z (dat x)) = decide (x ∈ l) := by
  rw [List.any_map]
  by_cases m : x ∈ l
  · rw [decide_eq_true m]
    exact List.any_eq_true.mpr ⟨x, m, by simp [Function.comp, h.ev]⟩
  · rw [decide_eq_false m]
    refine List.any_eq_false.mpr fun y my => ?_
    simp only [Function.comp, h.ev, decide_eq_true_eq]
    exact fun e => m (e ▸ my)
theorem Ty.inL (h : Ty enc dat k) (hk : k ≤ 40) {n : Bool} {x : α} {l : List α} : fInL n (enc x) (l.map enc) = some (.bl (if n = true then !decide (x ∈ l) else decide (x ∈ l))) := by
  unfold fInL
  rw [h.cmp hk, h.pyL]
  simp only [h.plA, if_true, h.anyEv]
theorem Ty.inLst (h : Ty enc dat k) (hk : k ≤ 40) {n o : Bool} {x : α} {l : List α} : fIn n (enc x) (.lst o (l.map enc)) = some (.bl (if n = true then !decide (x ∈ l) else decide (x ∈ l))) := h.inL hk
theorem Ty.inTup (h : Ty enc dat k) (hk : k ≤ 40) {n : Bool} {x : α} {l : List α} : fIn n (enc x) (.tup (l.map enc)) = some (.bl (if n = true then !decide (x ∈ l) else decide (x ∈ l))) := h.inL hk
end
mutual
theorem eqv_refl : ∀ p : PyData, p.plain = true → PyData.eqv p p = true
  | .none, _ => by rw [PyData.eqv]
  | .bool b, _ => by rw [PyData.eqv]; simp
  | .int i, _ => by rw [PyData.eqv]; simp
  | .str s, _ => by rw [PyData.eqv]; simp
  | .list xs, h => by rw [PyData.eqv]; exact eqvAll_refl xs (by rwa [PyData.plain] at h)
  | .tuple xs, h => by rw [PyData.eqv]; exact eqvAll_refl xs (by rwa [PyData.plain] at h)
  | .dict _, h => by rw [PyData.plain] at h; cases h
theorem eqvAll_refl : ∀ xs : List PyData, PyData.plainAll xs = true → PyData.eqvAll xs xs = true
  | [], _ => by rw [PyData.eqvAll]
  | x :: xs, h => by
    rw [PyData.plainAll, Bool.and_eq_true] at h
    rw [PyData.eqvAll, eqv_refl x h.1, eqvAll_refl xs h.2]; rfl
end
theorem fEq_same {d e : D} {p : PyData} (h : d.cmp = some p) (h2 : e.cmp = some p) : fEq d e = some (.bl true) := by
  unfold fEq
  rw [h, h2]
  simp only
  rw [eqv_refl p (D.cmp_ok h).2.1]
theorem fNe_same {d e : D} {p : PyData} (h : d.cmp = some p) (h2 : e.cmp = some p) : fNe d e = some (.bl false) := by
  unfold fNe
  rw [h, h2]
  simp only
  rw [eqv_refl p (D.cmp_ok h).2.1]
  rfl
/-- the law's end -/
theorem law_run {size : Nat} {body : S} {ns : List Int} (h : ∃ x ρ, body (some (D.scr ns) :: List.replicate (size - 1) none) = .rt (.bl true) (x :: ρ)) : ∃ as, runDef 1 size [] body [.scr ns] = .ret (.bl true) as := by
  obtain ⟨x, ρ, h⟩ := h
  refine ⟨[.scr ns], run_go rfl ?_⟩
  show outD [] [.scr ns] (body (some (D.scr ns) :: List.replicate (size - 1) none)) = _
  rw [h]
  exact outD_rt rfl
def zipO (d e : D) : Option (List D) := match d, e with
  | .lst _ xs, .lst _ ys => some (zipD (fzL xs) (fzL ys))
  | .tup xs, .tup ys => some (zipD (fzL xs) (fzL ys))
  | _, _ => none
theorem ei_zip2 {g g2 : M D} {ρ : VL.Env} : iZip g g2 ρ = (g ρ).th fun d ρ => (g2 ρ).th fun e ρ => opt (zipO d e) ρ := by
  rw [ei_zip]
  refine Ev.th_cg ?_
  funext d ρ
  refine Ev.th_cg ?_
  funext e ρ
  cases d <;> cases e <;> rfl
end VL

set_option linter.all false
namespace GR
variable {α : Type} [DecidableEq α] {nx : α → List α}
inductive Rc (nx : α → List α) (s : α) : α → Prop
  | refl : Rc nx s s
  | step {t u : α} : Rc nx s t → u ∈ nx t → Rc nx s u
omit [DecidableEq α] in
theorem Rc.trans {s t u : α} (h : Rc nx s t) (h2 : Rc nx t u) : Rc nx s u := by
  induction h2 with
  | refl => exact h
  | step _ m ih => exact .step ih m
omit [DecidableEq α] in
theorem Rc.head {s t u : α} (h : t ∈ nx s) (h2 : Rc nx t u) : Rc nx s u := (Rc.step .refl h).trans h2
/-- of those that are new -/
def push : List α → List α × List α → List α × List α
  | [], p => p
  | g :: gs, p => if g ∈ p.1 then push gs p else push gs (p.1 ++ [g], p.2 ++ [g])
theorem push_ok : ∀ (gs F W : List α), ∃ N, push gs (F, W) = (F ++ N, W ++ N) ∧ (F.Nodup → (F ++ N).Nodup) ∧ (∀ x ∈ N, x ∈ gs) ∧ (∀ x ∈ gs, x ∈ F ++ N)
  | [], F, W => ⟨[], by simp [push], by simp, by simp, by simp⟩
  | g :: gs, F, W => by
    unfold push
    by_cases h : g ∈ F
    · rw [if_pos h]
      obtain ⟨N, e, nd, a, b⟩ := push_ok gs F W
      refine ⟨N, e, nd, fun x m => List.mem_cons_of_mem _ (a x m), fun x m => ?_⟩
      rcases List.mem_cons.mp m with rfl | m
      · exact List.mem_append_left _ h
      · exact b x m
    · rw [if_neg h]
      obtain ⟨N, e, nd, a, b⟩ := push_ok gs (F ++ [g]) (W ++ [g])
      refine ⟨g :: N, by rw [e]; simp, fun hF => ?_, fun x m => ?_, fun x m => ?_⟩
      · have := nd (by
          rw [List.nodup_append]
          refine ⟨hF, by simp, fun x m y m2 e2 => ?_⟩
          rw [List.mem_singleton] at m2
          exact h (m2 ▸ e2 ▸ m))
        simpa using this
      · rcases List.mem_cons.mp m with rfl | m
        · exact List.mem_cons_self
        · exact List.mem_cons_of_mem _ (a x m)
      · rcases List.mem_cons.mp m with rfl | m
        · simp
        · have := b x m
          simpa using this
theorem nodup_len {U : List α} : ∀ {F : List α}, F.Nodup → (∀ x ∈ F, x ∈ U) → F.length ≤ U.length := by
  intro F
  induction F generalizing U with
  | nil => intro _ _; simp
  | cons x F ih =>
    intro nd h
    rw [List.nodup_cons] at nd
    have hx := h x List.mem_cons_self
    have := ih (U := U.erase x) nd.2 fun y m => (List.mem_erase_of_ne (fun (e : y = x) => nd.1 (e ▸ m))).mpr (h y (List.mem_cons_of_mem _ m))
    rw [List.length_erase_of_mem hx] at this
    have hp := List.length_pos_of_mem hx
    simp only [List.length_cons]
    omega
/-- found and left, on the way -/
structure Clo (nx : α → List α) (U xs F W : List α) : Prop where
  nd : F.Nodup
  sub : ∀ x ∈ F, x ∈ U
  wf : ∀ x ∈ W, x ∈ F
  st : ∀ x ∈ xs, x ∈ F
  rc : ∀ t ∈ F, ∃ s ∈ xs, Rc nx s t
  cl : ∀ s ∈ F, s ∉ W → ∀ u ∈ nx s, u ∈ F
theorem Clo.step {U xs F W : List α} {h : α} (c : Clo nx U xs F (W ++ [h])) (hU : ∀ s ∈ U, ∀ u ∈ nx s, u ∈ U) : ∃ N, push (nx h) (F, W) = (F ++ N, W ++ N) ∧ Clo nx U xs (F ++ N) (W ++ N) ∧ 2 * (U.length - (F ++ N).length) + (W ++ N).length < 2 * (U.length - F.length) + (W ++ [h]).length := by
  obtain ⟨N, e, nd, a, b⟩ := push_ok (nx h) F W
  have hF : h ∈ F := c.wf h (by simp)
  have sb : ∀ x ∈ F ++ N, x ∈ U := fun x m => (List.mem_append.mp m).elim (c.sub x) fun m => hU h (c.sub h hF) x (a x m)
  have l1 := nodup_len (nd c.nd) sb
  have l0 := nodup_len c.nd c.sub
  refine ⟨N, e, ⟨nd c.nd, sb, fun x m => ?_, fun x m => List.mem_append_left _ (c.st x m), fun t m => ?_, fun s m nm u mu => ?_⟩, ?_⟩
  · rcases List.mem_append.mp m with m | m
    · exact List.mem_append_left _ (c.wf x (List.mem_append_left _ m))
    · exact List.mem_append_right _ m
  · rcases List.mem_append.mp m with m | m
    · exact c.rc t m
    · obtain ⟨s, ms, r⟩ := c.rc h hF
      exact ⟨s, ms, r.step (a t m)⟩
  · simp only [List.mem_append, not_or] at nm
    rcases List.mem_append.mp m with m | m
    · by_cases e : s = h
      · subst e
        exact b u mu
      · exact List.mem_append_left _ (c.cl s m (by simp [nm.1, e]) u mu)
    · exact absurd m nm.2
  · simp only [List.length_append, List.length_cons, List.length_nil] at l1 ⊢
    omega
theorem Clo.start {U xs : List α} (hx : xs.Nodup) (hU : ∀ x ∈ xs, x ∈ U) : Clo nx U xs xs xs := ⟨hx, hU, fun _ m => m, fun _ m => m, fun t m => ⟨t, m, .refl⟩, fun s m n => absurd m n⟩
theorem Clo.fin {U xs F : List α} (c : Clo nx U xs F []) {t : α} : t ∈ F ↔ ∃ s ∈ xs, Rc nx s t := by
  refine ⟨c.rc t, fun ⟨s, m, r⟩ => ?_⟩
  have : ∀ {t}, Rc nx s t → t ∈ F := fun {t} r => by
    induction r with
    | refl => exact c.st s m
    | step _ mu ih => exact c.cl _ ih (by simp) _ mu
  exact this r
/-- rounds: each member's goals are taken in -/
def addAll (nx : α → List α) : List α → List α → List α
  | [], F => F
  | h :: hs, F => addAll nx hs (push (nx h) (F, [])).1
theorem addAll_ok : ∀ (hs F : List α), ∃ N, addAll nx hs F = F ++ N ∧ (F.Nodup → (F ++ N).Nodup) ∧ (∀ x ∈ N, ∃ h ∈ hs, x ∈ nx h) ∧ (∀ h ∈ hs, ∀ x ∈ nx h, x ∈ F ++ N)
  | [], F => ⟨[], by simp [addAll], by simp, by simp, by simp⟩
  | h :: hs, F => by
    obtain ⟨N, e, nd, a, b⟩ := push_ok (nx h) F []
    obtain ⟨N2, e2, nd2, a2, b2⟩ := addAll_ok hs (F ++ N)
    refine ⟨N ++ N2, ?_, fun q => ?_, fun x m => ?_, fun k mk x mx => ?_⟩
    · unfold addAll
      rw [e, ← List.append_assoc]
      exact e2
    · rw [← List.append_assoc]
      exact nd2 (nd q)
    · rcases List.mem_append.mp m with m | m
      · exact ⟨h, List.mem_cons_self, a x m⟩
      · obtain ⟨k, mk, q⟩ := a2 x m
        exact ⟨k, List.mem_cons_of_mem _ mk, q⟩
    · rw [← List.append_assoc]
      rcases List.mem_cons.mp mk with rfl | mk
      · exact List.mem_append_left _ (b x mx)
      · exact b2 k mk x mx
def rounds (nx : α → List α) : Nat → List α → List α
  | 0, F => F
  | k + 1, F => rounds nx k (addAll nx F F)
structure Rnd (nx : α → List α) (U xs F : List α) : Prop where
  nd : F.Nodup
  sub : ∀ x ∈ F, x ∈ U
  st : ∀ x ∈ xs, x ∈ F
  rc : ∀ t ∈ F, ∃ s ∈ xs, Rc nx s t
def closedL (nx : α → List α) (F : List α) : Prop := ∀ s ∈ F, ∀ u ∈ nx s, u ∈ F
theorem Rnd.round {U xs F : List α} (c : Rnd nx U xs F) (hU : ∀ s ∈ U, ∀ u ∈ nx s, u ∈ U) : Rnd nx U xs (addAll nx F F) ∧ ((closedL nx F ∧ addAll nx F F = F) ∨ F.length + 1 ≤ (addAll nx F F).length) := by
  obtain ⟨N, e, nd, a, b⟩ := addAll_ok (nx := nx) F F
  rw [e]
  refine ⟨⟨nd c.nd, fun x m => ?_, fun x m => List.mem_append_left _ (c.st x m), fun t m => ?_⟩, ?_⟩
  · rcases List.mem_append.mp m with m | m
    · exact c.sub x m
    · obtain ⟨h, mh, q⟩ := a x m
      exact hU h (c.sub h mh) x q
  · rcases List.mem_append.mp m with m | m
    · exact c.rc t m
    · obtain ⟨h, mh, q⟩ := a t m
      obtain ⟨s, ms, r⟩ := c.rc h mh
      exact ⟨s, ms, r.step q⟩
  · cases N with
    | nil => exact .inl ⟨fun s m u mu => by have := b s m u mu; simpa using this, by simp⟩
    | cons x N => refine .inr ?_; simp
theorem rounds_ok {U xs : List α} (hU : ∀ s ∈ U, ∀ u ∈ nx s, u ∈ U) : ∀ (k : Nat) (F : List α), Rnd nx U xs F → Rnd nx U xs (rounds nx k F) ∧ (closedL nx (rounds nx k F) ∨ F.length + k ≤ (rounds nx k F).length)
  | 0, F, c => ⟨c, .inr (by simp [rounds])⟩
  | k + 1, F, c => by
    have ⟨c2, h⟩ := c.round hU
    have ⟨c3, h3⟩ := rounds_ok hU k _ c2
    refine ⟨c3, ?_⟩
    unfold rounds
    rcases h3 with h3 | h3
    · exact .inl h3
    · rcases h with ⟨h, e⟩ | h
      · refine .inl ?_
        rw [e]
        have : ∀ j, rounds nx j F = F := by
          intro j
          induction j with
          | zero => rfl
          | succ j ih => unfold rounds; rw [e]; exact ih
        rw [this]
        exact h
      · exact .inr (by omega)
theorem rounds_fin {U xs : List α} (hU : ∀ s ∈ U, ∀ u ∈ nx s, u ∈ U) (hx : xs.Nodup) (hs : ∀ x ∈ xs, x ∈ U) (h1 : 1 ≤ xs.length) {k : Nat} (hk : U.length ≤ k) {t : α} : t ∈ rounds nx k xs ↔ ∃ s ∈ xs, Rc nx s t := by
  obtain ⟨c, h⟩ := rounds_ok hU k xs ⟨hx, hs, fun _ m => m, fun t m => ⟨t, m, .refl⟩⟩
  have l := nodup_len c.nd c.sub
  have cl : closedL nx (rounds nx k xs) := h.resolve_right (by omega)
  refine ⟨c.rc t, fun ⟨s, m, r⟩ => ?_⟩
  have : ∀ {t}, Rc nx s t → t ∈ rounds nx k xs := fun {t} r => by
    induction r with
    | refl => exact c.st s m
    | step _ mu ih => exact cl _ ih _ mu
  exact this r
theorem rounds_nodup {U xs : List α} (hU : ∀ s ∈ U, ∀ u ∈ nx s, u ∈ U) (hx : xs.Nodup) (hs : ∀ x ∈ xs, x ∈ U) (k : Nat) : (rounds nx k xs).Nodup ∧ ∀ x ∈ rounds nx k xs, x ∈ U := by
  obtain ⟨c, _⟩ := rounds_ok hU k xs ⟨hx, hs, fun _ m => m, fun t m => ⟨t, m, .refl⟩⟩
  exact ⟨c.nd, c.sub⟩
end GR

set_option linter.all false
set_option maxRecDepth 100000
set_option maxHeartbeats 4000000
namespace VL
open PySem PySem.Spec PyProof.Rows L2
/-! ### kinds -/
def oD (p : Int × Int) : D := .tup [.int p.1, .int p.2]
def oP (p : Int × Int) : PyData := .tuple [.int p.1, .int p.2]
def iT (l : List Int) : D := .tup (l.map .int)
def rowD (l : List (Int × Int)) : D := .tup (l.map oD)
def putD (p : Int × List Int) : D := .tup [.int p.1, iT p.2]
def looksD (l : List (List (Int × Int))) : D := .tup (l.map rowD)
def driftsD (l : List (List Int)) : D := .tup (l.map iT)
def putsD (l : List (Int × List Int)) : D := .tup (l.map putD)
theorem oD_fzd (p : Int × Int) : (oD p).fzd = true := rfl
theorem iT_fzd (l : List Int) : (iT l).fzd = true := fzdL_ints l
theorem rowD_fzd (l : List (Int × Int)) : (rowD l).fzd = true := fzdL_enc oD_fzd l
theorem putD_fzd (p : Int × List Int) : (putD p).fzd = true := by
  show (true && (fzdL (p.2.map D.int) && true)) = true
  rw [fzdL_ints]; rfl
theorem looksD_fzd (l) : (looksD l).fzd = true := fzdL_enc rowD_fzd l
theorem driftsD_fzd (l) : (driftsD l).fzd = true := fzdL_enc iT_fzd l
theorem putsD_fzd (l) : (putsD l).fzd = true := fzdL_enc putD_fzd l
theorem py_int (i : Int) : (D.int i).py = some (.int i) := by rw [D.py]
theorem pyL_nil : pyL [] = some [] := by rw [pyL]
theorem pyL_cons {x : D} {xs : List D} {p : PyData} {ps : List PyData} (h : x.py = some p) (h2 : pyL xs = some ps) : pyL (x :: xs) = some (p :: ps) := by rw [pyL, h, h2]
theorem pyL_enc {α : Type} {enc : α → D} {dat : α → PyData} (h : ∀ x, (enc x).py = some (dat x)) : ∀ l : List α, pyL (l.map enc) = some (l.map dat)
  | [] => pyL_nil
  | x :: l => pyL_cons (h x) (pyL_enc h l)
theorem cmp_of {d : D} {p : PyData} (h : d.py = some p) (h1 : p.plain = true) (h2 : p.depth ≤ 40) : d.cmp = some p := by
  unfold D.cmp
  rw [h]
  show (if (p.plain && decide (p.depth ≤ 40)) = true then some p else none) = some p
  rw [if_pos (by rw [h1, decide_eq_true h2]; rfl)]
theorem oD_py (p : Int × Int) : (oD p).py = some (oP p) := by
  unfold oD
  rw [D.py, pyL_cons (py_int _) (pyL_cons (py_int _) pyL_nil)]
  rfl
theorem oD_cmp (p : Int × Int) : (oD p).cmp = some (oP p) := cmp_of (oD_py p) (by simp [oP, PyData.plain, PyData.plainAll]) (by simp [oP, PyData.depth, PyData.depthAll])
theorem enc_o : Enc oD oP := ⟨oD_cmp, fun x y => by simp [oP, PySem.W.alike, PySem.W.alikeAll], oD_fzd, .inl fun x => ⟨_, _, rfl⟩⟩
theorem oP_inj (x y : Int × Int) (h : PySem.W.keyToks (oP x) = PySem.W.keyToks (oP y)) : x = y := by
  simp only [oP, PySem.W.keyToks, PySem.W.keyToksAll, List.cons_append, List.nil_append, List.cons.injEq, Sum.inl.injEq, true_and, and_true] at h
  exact Prod.ext h.1 h.2
def ltO (x y : Int × Int) : Prop := PySem.W.dataLt (oP x) (oP y) = true
/-- a dict that is a set: each key stands for True -/
def ins {α : Type} [DecidableEq α] (a : α) (l : List α) : List α := if a ∈ l then l else l ++ [a]
theorem mem_ins {α : Type} [DecidableEq α] {a x : α} {l : List α} : x ∈ ins a l ↔ x = a ∨ x ∈ l := by
  unfold ins
  split
  · rename_i h
    exact ⟨.inr, fun q => q.elim (fun e => e ▸ h) id⟩
  · simp [or_comm]
theorem nodup_ins {α : Type} [DecidableEq α] {a : α} {l : List α} (h : l.Nodup) : (ins a l).Nodup := by
  unfold ins
  split
  · exact h
  · rename_i c
    refine List.nodup_append.mpr ⟨h, by simp, fun x m y m2 e => ?_⟩
    rw [List.mem_singleton] at m2
    subst m2 e
    exact c m
theorem ins_len {α : Type} [DecidableEq α] {a : α} {l : List α} : (ins a l).length ≤ l.length + 1 := by
  unfold ins
  split
  · omega
  · simp
theorem ins_pos {α : Type} [DecidableEq α] {a : α} {l : List α} : 1 ≤ (ins a l).length := by
  unfold ins
  split
  · rename_i h
    exact List.length_pos_of_mem h
  · simp
theorem kput_set {α : Type} [DecidableEq α] {κ : α → DK} (inj : ∀ x y, κ x = κ y → x = y) {v : D} (a : α) (l : List α) : kput (l.map fun x => (κ x, v)) (κ a) v = (ins a l).map fun x => (κ x, v) := by
  have e1 : ((l.map fun x => (κ x, v)).any fun kv => decide (kv.1 = κ a)) = decide (a ∈ l) := by
    rw [List.any_map]
    by_cases h : a ∈ l
    · rw [decide_eq_true h]
      exact List.any_eq_true.mpr ⟨a, h, decide_eq_true rfl⟩
    · rw [decide_eq_false h]
      refine List.any_eq_false.mpr fun x m => ?_
      simp only [Function.comp, decide_eq_true_eq]
      exact fun e => h (inj _ _ e ▸ m)
  unfold kput ins
  rw [e1]
  by_cases h : a ∈ l
  · rw [if_pos (decide_eq_true h), if_pos h, List.map_map]
    apply List.map_congr_left
    intro x _
    simp only [Function.comp]
    split <;> rfl
  · rw [if_neg (by simpa using h), if_neg h]
    simp
theorem khas_set {α : Type} [DecidableEq α] {κ : α → DK} (inj : ∀ x y, κ x = κ y → x = y) {v : D} (a : α) (l : List α) : khas (l.map fun x => (κ x, v)) (κ a) = decide (a ∈ l) := by
  unfold khas
  rw [List.any_map]
  by_cases h : a ∈ l
  · rw [decide_eq_true h]
    exact List.any_eq_true.mpr ⟨a, h, decide_eq_true rfl⟩
  · rw [decide_eq_false h]
    refine List.any_eq_false.mpr fun x m => ?_
    simp only [Function.comp, decide_eq_true_eq]
    exact fun e => h (inj _ _ e ▸ m)
theorem fPutD_set {α : Type} [DecidableEq α] {κ : α → DK} (inj : ∀ x y, κ x = κ y → x = y) {v k : D} {t : Bool} {a : α} {l : List α} (hk : dkey k = some (κ a)) (ht : (κ a).isK = !t) (hl : l.length < big) (hv : v.fzd = true) :
    fPutD (.dct true t (l.map fun x => (κ x, v))) [k, v] = some (.non, .dct true t ((ins a l).map fun x => (κ x, v))) := by
  show (match dkey k with
    | some dk => if ((dk.isK == !t) && decide ((l.map fun x => (κ x, v)).length < big) && (v.fzd || !khas (l.map fun x => (κ x, v)) dk)) = true then some (D.non, D.dct true t (kput (l.map fun x => (κ x, v)) dk v)) else none
    | none => none) = _
  rw [hk]
  simp only
  rw [if_pos (by rw [ht, hv, List.length_map]; simp [hl]), kput_set inj]
theorem put_setO {a b : Int} {l : List (Int × Int)} (hl : l.length < big) : fPutD (setO l) [.tup [.int a, .int b], .bl true] = some (.non, setO (ins (a, b) l)) := fPutD_set (κ := κO) κO_inj (a := (a, b)) rfl rfl hl rfl
theorem put_setI {a : Int} {l : List Int} (hl : l.length < big) : fPutD (setI l) [.int a, .bl true] = some (.non, setI (ins a l)) := fPutD_set (κ := κI) κI_inj (a := a) rfl rfl hl rfl
theorem sort_setO {l : List (Int × Int)} (hl : l.length < big) : fSorted [setO l] = some (.lst true ((l.mergeSort (leE oP)).map oD)) := fSorted_dct (dk := κO) (v := fun _ => D.bl true) enc_o (fun x => rfl) hl
theorem sort_setI {l : List Int} (hl : l.length < big) : fSorted [setI l] = some (.lst true ((srt l).map .int)) := fSorted_dct (dk := κI) (v := fun _ => D.bl true) enc_int (fun x => rfl) hl
/-- the parts of a right kind of n standings -/
structure ValidK (n : Nat) (L : List (List (Int × Int))) (Dr : List (List Int)) (Pu : List (Int × List Int)) : Prop where
  n1 : 1 ≤ n
  n8 : n ≤ 8
  ll : L.length = n
  dl : Dr.length = n
  lr : ∀ r ∈ L, (1 ≤ r.length ∧ r.length ≤ 4) ∧ (∀ o ∈ r, (0 ≤ o.1 ∧ o.1 < 10) ∧ (0 ≤ o.2 ∧ o.2 < n)) ∧ r.Pairwise ltO
  dr : ∀ r ∈ Dr, (∀ s ∈ r, 0 ≤ s ∧ s < n) ∧ r.Pairwise (· < ·)
  pl : Pu.length ≤ 4
  pr : ∀ p ∈ Pu, (0 ≤ p.1 ∧ p.1 < n) ∧ (∀ s ∈ p.2, 0 ≤ s ∧ s < n) ∧ p.2.Pairwise (· < ·)
theorem up_len {n : Nat} : ∀ {l : List Int}, (∀ s ∈ l, 0 ≤ s ∧ s < n) → l.Pairwise (· < ·) → l.length ≤ n := fun {l} h p => by
  have key : ∀ (l : List Int) (lo : Int), (∀ s ∈ l, lo ≤ s ∧ s < n) → l.Pairwise (· < ·) → lo ≤ n → (l.length : Int) ≤ n - lo := by
    intro l
    induction l with
    | nil => intro lo _ _ h; simp; omega
    | cons x l ih =>
      intro lo h p hlo
      have hx := h x List.mem_cons_self
      rw [List.pairwise_cons] at p
      have := ih (x + 1) (fun s m => ⟨by have := p.1 s m; omega, (h s (List.mem_cons_of_mem _ m)).2⟩) p.2 (by omega)
      simp only [List.length_cons]
      omega
  have := key l 0 h p (by omega)
  omega
end VL

set_option linter.all false
set_option maxRecDepth 100000
set_option maxHeartbeats 4000000
namespace Q
open PySem PySem.Spec PyProof.Rows L2 VL
/-- the dice: what is left of great numbers, the small ones, the one in hand, how many were asked -/
def poolD (g s : List Int) (a b : Int) : D := .lst true [.lst false (g.map .int), .lst false (s.map .int), .int a, .int b]
def IsPool (p : D) : Prop := ∃ g s a b, p = poolD g s a b
theorem IsPool.fzd {p : D} (h : IsPool p) : p.fzd = false := by
  obtain ⟨g, s, a, b, rfl⟩ := h
  rfl
theorem pool_ok (ns : List Int) : ∃ p, f__law_pool [.scr ns] = .ret p [.scr ns] ∧ IsPool p := by
  have hb : ((ns.take 63).map D.int).length < big := by
    rw [List.length_map, List.length_take]
    exact Nat.lt_of_le_of_lt (Nat.min_le_left _ _) (by decide)
  have e18 : fPow (.int 10) (.int 18) = some (.int 1000000000000000000) := rfl
  have c1 : ∀ (x : Int) , lcTurn q1t__law_pool q1c__law_pool q1e__law_pool [3] (.int x) [some (.scr ns), none, none, none] = .ok (if decide (1000000000000000000 ≤ (if x < 0 then -x else x)) = true then some (.int (if x < 0 then -x else x)) else none) [some (.scr ns), none, none, none] := by
    intro x
    have ea : fAbs [.int x] = some (.int (if x < 0 then -x else x)) := rfl
    unfold lcTurn q1t__law_pool q1c__law_pool q1e__law_pool
    by_cases h : 1000000000000000000 ≤ (if x < 0 then -x else x)
    · simp only [vls_, setO_nil, setI_nil, isi_int_int, isi_int_bool, isi_tup, isi_lst, tE_nx, ea, e18, h]
    · simp only [vls_, setO_nil, setI_nil, isi_int_int, isi_int_bool, isi_tup, isi_lst, tE_nx, ea, e18, h]
  have c2 : ∀ (x : Int) (y : D), lcTurn q2t__law_pool q2c__law_pool q2e__law_pool [3] (.int x) [some (.scr ns), some y, none, none] = .ok (if decide ((if x < 0 then -x else x) < 1000000000000000000) = true then some (.int (x % 1000003)) else none) [some (.scr ns), some y, none, none] := by
    intro x y
    have ea : fAbs [.int x] = some (.int (if x < 0 then -x else x)) := rfl
    unfold lcTurn q2t__law_pool q2c__law_pool q2e__law_pool
    by_cases h : (if x < 0 then -x else x) < 1000000000000000000
    · simp only [vls_, setO_nil, setI_nil, isi_int_int, isi_int_bool, isi_tup, isi_lst, tE_nx, ea, e18, h, fMod_ii (show (0 : Int) < 1000003 by decide)]
    · simp only [vls_, setO_nil, setI_nil, isi_int_int, isi_int_bool, isi_tup, isi_lst, tE_nx, ea, e18, h]
  have l1 := lcGo_filterE (t := q1t__law_pool) (c := q1c__law_pool) (e := q1e__law_pool) (own := [3]) (enc := D.int) (p := fun x => decide (1000000000000000000 ≤ (if x < 0 then -x else x))) (F := fun x : Int => .int (if x < 0 then -x else x)) (xs := ns.take 63) fun x _ => c1 x
  have l2 := fun y => lcGo_filterE (t := q2t__law_pool) (c := q2c__law_pool) (e := q2e__law_pool) (own := [3]) (enc := D.int) (p := fun x => decide ((if x < 0 then -x else x) < 1000000000000000000)) (F := fun x : Int => .int (x % 1000003)) (xs := ns.take 63) fun x _ => c2 x y
  have m1 : ∀ (p : Int → Bool) (F : Int → Int) (l : List Int), (l.filter p).map (fun x => D.int (F x)) = ((l.filter p).map F).map D.int := fun p F l => by rw [List.map_map]; rfl
  rw [m1] at l1
  simp only [m1] at l2
  refine ⟨poolD (((ns.take 63).filter fun x => decide (1000000000000000000 ≤ (if x < 0 then -x else x))).map fun x : Int => (if x < 0 then -x else x)) (((ns.take 63).filter fun x => decide ((if x < 0 then -x else x) < 1000000000000000000)).map fun x : Int => x % 1000003) 0 0, ?_, _, _, _, _, rfl⟩
  unfold f__law_pool
  refine run_go rfl ?_
  unfold b__law_pool
  have ct : ∀ xs : List D, cutD xs none (some 63) = xs.take 63 := fun xs => cut_upto 63
  simp only [vls_, setO_nil, setI_nil, isi_int_int, isi_int_bool, isi_tup, isi_lst, ct, ← List.map_take, fzL_ints, hb, l1, l2, fzdL_ints, show ((0 + 1 + 1 + 1 + 1 : Nat) < big) from by decide]
  refine outD_rt ?_
  rfl
section
variable {g s : List Int} {a b m : Int}
theorem draw_A (ha : 1 < a) (hm : 0 < m) (hm2 : m < 1073741824) : f__law_draw [poolD g s a b, .int m] = .ret (.int (a % m)) [poolD g s (a / m) b, .int m] := by
  have h1 : ¬ a ≤ 1 := by omega
  have f1 := fzdL_ints g; have f2 := fzdL_ints s; have f3 := fzL_ints g; have f4 := fzL_ints s
  unfold f__law_draw
  refine run_go rfl ?_
  unfold b__law_draw poolD
  simp only [vls_, setO_nil, setI_nil, isi_int_int, isi_int_bool, isi_tup, isi_lst, fMod_ii hm, fDiv_ii hm hm2, h1, ha, f1, f2, f3, f4]
  exact outD_rt rfl
theorem draw_B {x : Int} (ha : a ≤ 1) (hx : 1 < x) (hm : 0 < m) (hm2 : m < 1073741824) : f__law_draw [poolD (x :: g) s a b, .int m] = .ret (.int (x % m)) [poolD g s (x / m) b, .int m] := by
  have f1 := fzdL_ints g; have f2 := fzdL_ints s; have f3 := fzL_ints g; have f4 := fzL_ints s
  have l0 : (0 : Int) < ((x :: g).map D.int).length := by simp
  have p1 : fAt ((x :: g).map D.int) 0 = some (.int x) := fAt_0
  have p2 : fzdL ((x :: g).map D.int) = true := fzdL_ints _
  have p3 : fzL ((x :: g).map D.int) = (x :: g).map D.int := fzL_ints _
  have p4 : cutD ((x :: g).map D.int) (some 1) none = g.map D.int := cut_tail
  unfold f__law_draw
  refine run_go rfl ?_
  unfold b__law_draw poolD
  generalize (x :: g).map D.int = xg at *
  simp only [vls_, setO_nil, setI_nil, isi_int_int, isi_int_bool, isi_tup, isi_lst, fMod_ii hm, fDiv_ii hm hm2, ha, hx, f1, f2, f3, f4, l0, p1, p2, p3, p4, fSl_l p2]
  exact outD_rt rfl
def n1 (c b : Int) : Int := ((c + 7919 * (b + 1) + 1) * 48271) % 2147483647
def n2 (c b : Int) : Int := (n1 c b * (n1 c b / 1009 + 69621)) % 2147483647
def n3 (c b : Int) : Int := (n2 c b * (n2 c b / 2003 + 40692)) % 2147483399
theorem draw_D (hg : a ≤ 1) (hh : ¬ (0 : Int) < (g.map D.int).length) (hm : 0 < m) : ∃ c, f__law_draw [poolD g s a b, .int m] = .ret (.int (n3 c b / 16 % m)) [poolD g s a (b + 1), .int m] := by
  have h1 : ¬ 1 < a := by omega
  have f1 := fzdL_ints g; have f2 := fzdL_ints s; have f3 := fzL_ints g; have f4 := fzL_ints s
  have e1 : ∀ x, fMul (.int 7919) (.int x) = some (.int (7919 * x)) := fun x => mulL (by decide) (by decide)
  have e2 : ∀ x, fMul (.int x) (.int 48271) = some (.int (x * 48271)) := fun x => mulR (by decide) (by decide)
  have e3 : ∀ x y, fMul (.int (x % 2147483647)) (.int y) = some (.int (x % 2147483647 * y)) := fun x y => by
    have q1 : 0 ≤ x % 2147483647 := Int.emod_nonneg _ (by decide)
    have q2 : x % 2147483647 < 2147483647 := Int.emod_lt_of_pos _ (by decide)
    exact mulL (by omega) (by omega)
  have d1 : ∀ x, fDiv (.int x) (.int 1009) = some (.int (x / 1009)) := fun x => fDiv_ii (by decide) (by decide)
  have d2 : ∀ x, fDiv (.int x) (.int 2003) = some (.int (x / 2003)) := fun x => fDiv_ii (by decide) (by decide)
  have d3 : ∀ x, fDiv (.int x) (.int 16) = some (.int (x / 16)) := fun x => fDiv_ii (by decide) (by decide)
  have r1 : ∀ x, fMod (.int x) (.int 2147483647) = some (.int (x % 2147483647)) := fun x => fMod_ii (by decide)
  have r2 : ∀ x, fMod (.int x) (.int 2147483399) = some (.int (x % 2147483399)) := fun x => fMod_ii (by decide)
  by_cases hs : (0 : Int) < (s.map D.int).length
  · obtain ⟨c, _, hc⟩ := fAt_ints (l := s) (i := (b + 1) % ((s.map D.int).length : Int)) (Int.emod_nonneg _ (by omega)) (by rw [List.length_map] at *; exact Int.emod_lt_of_pos _ hs)
    refine ⟨c, ?_⟩
    unfold f__law_draw
    refine run_go rfl ?_
    unfold b__law_draw poolD
    generalize s.map D.int = ss at *
    generalize g.map D.int = gg at *
    simp only [vls_, setO_nil, setI_nil, isi_int_int, isi_int_bool, isi_tup, isi_lst, fMod_ii hs, fMod_ii hm, hg, h1, hh, hs, hc, f1, f2, f3, f4, e1, e2, e3, d1, d2, d3, r1, r2]
    exact outD_rt rfl
  · refine ⟨0, ?_⟩
    unfold f__law_draw
    refine run_go rfl ?_
    unfold b__law_draw poolD
    generalize s.map D.int = ss at *
    generalize g.map D.int = gg at *
    simp only [vls_, setO_nil, setI_nil, isi_int_int, isi_int_bool, isi_tup, isi_lst, fMod_ii hm, hg, h1, hh, hs, f1, f2, f3, f4, e1, e2, e3, d1, d2, d3, r1, r2]
    exact outD_rt rfl
/-- a great number is taken that is at most 1 -/
theorem draw_E {x : Int} (ha : a ≤ 1) (hx : x ≤ 1) (hm : 0 < m) : ∃ c, f__law_draw [poolD (x :: g) s a b, .int m] = .ret (.int (n3 c b / 16 % m)) [poolD g s x (b + 1), .int m] := by
  have h1 : ¬ 1 < x := by omega
  have f1 := fzdL_ints g; have f2 := fzdL_ints s; have f3 := fzL_ints g; have f4 := fzL_ints s
  have l0 : (0 : Int) < ((x :: g).map D.int).length := by simp
  have p1 : fAt ((x :: g).map D.int) 0 = some (.int x) := fAt_0
  have p2 : fzdL ((x :: g).map D.int) = true := fzdL_ints _
  have p3 : fzL ((x :: g).map D.int) = (x :: g).map D.int := fzL_ints _
  have p4 : cutD ((x :: g).map D.int) (some 1) none = g.map D.int := cut_tail
  have e1 : ∀ x, fMul (.int 7919) (.int x) = some (.int (7919 * x)) := fun x => mulL (by decide) (by decide)
  have e2 : ∀ x, fMul (.int x) (.int 48271) = some (.int (x * 48271)) := fun x => mulR (by decide) (by decide)
  have e3 : ∀ x y, fMul (.int (x % 2147483647)) (.int y) = some (.int (x % 2147483647 * y)) := fun x y => by
    have q1 : 0 ≤ x % 2147483647 := Int.emod_nonneg _ (by decide)
    have q2 : x % 2147483647 < 2147483647 := Int.emod_lt_of_pos _ (by decide)
    exact mulL (by omega) (by omega)
  have d1 : ∀ x, fDiv (.int x) (.int 1009) = some (.int (x / 1009)) := fun x => fDiv_ii (by decide) (by decide)
  have d2 : ∀ x, fDiv (.int x) (.int 2003) = some (.int (x / 2003)) := fun x => fDiv_ii (by decide) (by decide)
  have d3 : ∀ x, fDiv (.int x) (.int 16) = some (.int (x / 16)) := fun x => fDiv_ii (by decide) (by decide)
  have r1 : ∀ x, fMod (.int x) (.int 2147483647) = some (.int (x % 2147483647)) := fun x => fMod_ii (by decide)
  have r2 : ∀ x, fMod (.int x) (.int 2147483399) = some (.int (x % 2147483399)) := fun x => fMod_ii (by decide)
  by_cases hs : (0 : Int) < (s.map D.int).length
  · obtain ⟨c, _, hc⟩ := fAt_ints (l := s) (i := (b + 1) % ((s.map D.int).length : Int)) (Int.emod_nonneg _ (by omega)) (by rw [List.length_map] at *; exact Int.emod_lt_of_pos _ hs)
    refine ⟨c, ?_⟩
    unfold f__law_draw
    refine run_go rfl ?_
    unfold b__law_draw poolD
    generalize s.map D.int = ss at *
    generalize (x :: g).map D.int = xg at *
    generalize g.map D.int = gg at *
    simp only [vls_, setO_nil, setI_nil, isi_int_int, isi_int_bool, isi_tup, isi_lst, fMod_ii hs, fMod_ii hm, ha, h1, hs, hc, f1, f2, f3, f4, e1, e2, e3, d1, d2, d3, r1, r2, l0, p1, p2, p3, p4, fSl_l p2]
    exact outD_rt rfl
  · refine ⟨0, ?_⟩
    unfold f__law_draw
    refine run_go rfl ?_
    unfold b__law_draw poolD
    generalize s.map D.int = ss at *
    generalize (x :: g).map D.int = xg at *
    generalize g.map D.int = gg at *
    simp only [vls_, setO_nil, setI_nil, isi_int_int, isi_int_bool, isi_tup, isi_lst, fMod_ii hm, ha, h1, hs, f1, f2, f3, f4, e1, e2, e3, d1, d2, d3, r1, r2, l0, p1, p2, p3, p4, fSl_l p2]
    exact outD_rt rfl
end
theorem draw_ok {p : D} {m : Int} (hp : IsPool p) (hm : 0 < m) (hm2 : m < 1073741824) : ∃ r p', f__law_draw [p, .int m] = .ret (.int r) [p', .int m] ∧ IsPool p' ∧ 0 ≤ r ∧ r < m := by
  obtain ⟨g, s, a, b, rfl⟩ := hp
  have nn : ∀ x : Int, 0 ≤ x % m ∧ x % m < m := fun x => ⟨Int.emod_nonneg _ (by omega), Int.emod_lt_of_pos _ hm⟩
  by_cases ha : a ≤ 1
  · cases g with
    | nil =>
      obtain ⟨c, e⟩ := draw_D (g := []) (s := s) (b := b) ha (by simp) hm
      exact ⟨_, _, e, ⟨_, _, _, _, rfl⟩, nn _⟩
    | cons x g =>
      by_cases hx : x ≤ 1
      · obtain ⟨c, e⟩ := draw_E (g := g) (s := s) (b := b) ha hx hm
        exact ⟨_, _, e, ⟨_, _, _, _, rfl⟩, nn _⟩
      · exact ⟨_, _, draw_B ha (by omega) hm hm2, ⟨_, _, _, _, rfl⟩, nn _⟩
  · exact ⟨_, _, draw_A (by omega) hm hm2, ⟨_, _, _, _, rfl⟩, nn _⟩
theorem pick_ok {p : D} {o : Bool} {xs : List D} (hp : IsPool p) (hf : fzdL xs = true) (hl : 0 < xs.length) (hl2 : xs.length < 1073741824) : ∃ x p', f__law_pick [p, .lst o xs] = .ret x [p', .lst false xs] ∧ IsPool p' ∧ x ∈ xs := by
  obtain ⟨r, p', e, hp', h0, h1⟩ := draw_ok (m := (xs.length : Int)) hp (by omega) (by omega)
  obtain ⟨x, hx, ex⟩ := fAt_mem hf h0 h1
  refine ⟨x, p', ?_, hp', hx⟩
  have q1 := hp.fzd
  have q2 := fzL_of _ hf
  unfold f__law_pick
  refine run_go rfl ?_
  unfold b__law_pick
  simp only [vls_, setO_nil, setI_nil, isi_int_int, isi_int_bool, isi_tup, isi_lst, q1, q2, e, ex]
  exact outD_rt rfl
end Q

set_option linter.all false
set_option maxRecDepth 100000
set_option maxHeartbeats 4000000
namespace Q
open PySem PySem.Spec PyProof.Rows L2 VL
theorem pickI_ok {p : D} {o : Bool} {ks : List Int} (hp : IsPool p) (hl : 0 < ks.length) (hl2 : ks.length < 1000) : ∃ k p', f__law_pick [p, .lst o (ks.map .int)] = .ret (.int k) [p', .lst false (ks.map .int)] ∧ IsPool p' ∧ k ∈ ks := by
  obtain ⟨x, p', e, hp', hx⟩ := pick_ok (o := o) hp (fzdL_ints ks) (by simpa using hl) (by rw [List.length_map]; omega)
  obtain ⟨k, hk, rfl⟩ := List.mem_map.mp hx
  exact ⟨k, p', e, hp', hk⟩
theorem big8 {n : Nat} (h : n ≤ 100) : n < big := by
  have : (100 : Nat) < big := by decide
  omega
theorem upTo_len (n : Nat) : (VL.upTo 0 n).length = n := by simp [VL.upTo]
theorem upTo_succ (n : Nat) : VL.upTo 0 (n + 1) = VL.upTo 0 n ++ [.int n] := by simp [VL.upTo, List.range_succ]
/-- outcomes of one standing -/
theorem kp_l1 {st : Bool} {m a lk dr sg : D} {mi ai : Int} (em : m = .int mi) (ea : a = .int ai) (hm : 0 < mi ∧ mi ≤ 8) (ha : 0 < ai ∧ ai ≤ 10) :
    ∀ (ds : List D) (p : D) (ps : List (Int × Int)), IsPool p → ps.Nodup → (∀ o ∈ ps, (0 ≤ o.1 ∧ o.1 < ai) ∧ (0 ≤ o.2 ∧ o.2 < mi)) → ps.length + ds.length ≤ 4 →
    ∃ p' ps', loopS (setSlot 8) l1__law_kind_parts [8] ds [some p, some (.bl st), some m, some a, some lk, some dr, some sg, some (setO ps), none, none, none, none] = .nx [some p', some (.bl st), some m, some a, some lk, some dr, some sg, some (setO ps'), none, none, none, none] ∧
      IsPool p' ∧ ps'.Nodup ∧ (∀ o ∈ ps', (0 ≤ o.1 ∧ o.1 < ai) ∧ (0 ≤ o.2 ∧ o.2 < mi)) ∧ ps'.length ≤ ps.length + ds.length ∧ (ps ≠ [] ∨ ds ≠ [] → ps' ≠ [])
  | [], p, ps, hp, nd, bd, hl => ⟨p, ps, rfl, hp, nd, bd, by simp, fun h => h.elim id fun h => absurd rfl h⟩
  | d :: ds, p, ps, hp, nd, bd, hl => by
    subst em ea
    obtain ⟨r1, p1, e1, hp1, b1⟩ := draw_ok (m := ai) hp ha.1 (by omega)
    obtain ⟨r2, p2, e2, hp2, b2⟩ := draw_ok (m := mi) hp1 hm.1 (by omega)
    simp only [List.length_cons] at hl
    have hb : ps.length < big := big8 (by omega)
    have q := put_setO (a := r1) (b := r2) hb
    have f1 := hp.fzd; have f2 := hp1.fzd
    have t : turnS (setSlot 8) l1__law_kind_parts [8] d [some p, some (.bl st), some (.int mi), some (.int ai), some lk, some dr, some sg, some (setO ps), none, none, none, none] = .nx [some p2, some (.bl st), some (.int mi), some (.int ai), some lk, some dr, some sg, some (setO (ins (r1, r2) ps)), none, none, none, none] := by
      rw [turnS_eq]
      unfold l1__law_kind_parts
      simp only [vls_, setO_nil, setI_nil, isi_int_int, isi_int_bool, isi_tup, isi_lst, e1, e2, f1, f2, fzdL, show ((0 + 1 + 1 : Nat) < big) from by decide, q, endS_nx]
    rw [loopS_nx t]
    have nd2 := nodup_ins (a := (r1, r2)) nd
    have ln := ins_len (a := (r1, r2)) (l := ps)
    obtain ⟨p', ps', h1, h2, h3, h4, h5, h6⟩ := kp_l1 (st := st) (lk := lk) (dr := dr) (sg := sg) rfl rfl hm ha ds p2 (ins (r1, r2) ps) hp2 nd2 (fun o mo => (mem_ins.mp mo).elim (fun e => by rw [e]; exact ⟨b1, b2⟩) (bd o)) (by omega)
    refine ⟨p', ps', h1, h2, h3, h4, by simp only [List.length_cons]; omega, fun _ => h6 (.inl fun z => ?_)⟩
    have := ins_pos (a := (r1, r2)) (l := ps)
    rw [z] at this
    simp at this
theorem kp_l2 {st : Bool} {a lk dr sg oc : D} {mi : Int} (hm : 0 < mi ∧ mi ≤ 8) :
    ∀ (ds : List D) (p : D) (ps : List Int), IsPool p → ps.Nodup → (∀ o ∈ ps, 0 ≤ o ∧ o < mi) → ps.length + ds.length ≤ 4 →
    ∃ p' ps', loopS (setSlot 8) l2__law_kind_parts [8] ds [some p, some (.bl st), some (.int mi), some a, some lk, some dr, some sg, some oc, none, some (setI ps), none, none] = .nx [some p', some (.bl st), some (.int mi), some a, some lk, some dr, some sg, some oc, none, some (setI ps'), none, none] ∧
      IsPool p' ∧ ps'.Nodup ∧ (∀ o ∈ ps', 0 ≤ o ∧ o < mi) ∧ ps'.length ≤ ps.length + ds.length
  | [], p, ps, hp, nd, bd, hl => ⟨p, ps, rfl, hp, nd, bd, by simp⟩
  | d :: ds, p, ps, hp, nd, bd, hl => by
    obtain ⟨r2, p2, e2, hp2, b2⟩ := draw_ok (m := mi) hp hm.1 (by omega)
    simp only [List.length_cons] at hl
    have hb : ps.length < big := big8 (by omega)
    have q := put_setI (a := r2) hb
    have f1 := hp.fzd
    have t : turnS (setSlot 8) l2__law_kind_parts [8] d [some p, some (.bl st), some (.int mi), some a, some lk, some dr, some sg, some oc, none, some (setI ps), none, none] = .nx [some p2, some (.bl st), some (.int mi), some a, some lk, some dr, some sg, some oc, none, some (setI (ins r2 ps)), none, none] := by
      rw [turnS_eq]
      unfold l2__law_kind_parts
      simp only [vls_, setO_nil, setI_nil, isi_int_int, isi_int_bool, isi_tup, isi_lst, e2, f1, q, endS_nx]
    rw [loopS_nx t]
    have nd2 := nodup_ins (a := r2) nd
    have ln := ins_len (a := r2) (l := ps)
    obtain ⟨p', ps', h1, h2, h3, h4, h5⟩ := kp_l2 (st := st) (a := a) (lk := lk) (dr := dr) (sg := sg) (oc := oc) hm ds p2 (ins r2 ps) hp2 nd2 (fun o mo => (mem_ins.mp mo).elim (fun e => by rw [e]; exact b2) (bd o)) (by omega)
    exact ⟨p', ps', h1, h2, h3, h4, by simp only [List.length_cons]; omega⟩
def RowOk (mi ai : Int) (r : List (Int × Int)) : Prop := (1 ≤ r.length ∧ r.length ≤ 4) ∧ (∀ o ∈ r, (0 ≤ o.1 ∧ o.1 < ai) ∧ (0 ≤ o.2 ∧ o.2 < mi)) ∧ r.Pairwise ltO
def DrOk (mi : Int) (r : List Int) : Prop := (∀ s ∈ r, 0 ≤ s ∧ s < mi) ∧ r.Pairwise (· < ·)
theorem row_of {mi ai : Int} {ps : List (Int × Int)} (nd : ps.Nodup) (bd : ∀ o ∈ ps, (0 ≤ o.1 ∧ o.1 < ai) ∧ (0 ≤ o.2 ∧ o.2 < mi)) (h1 : ps ≠ []) (h4 : ps.length ≤ 4) : RowOk mi ai (ps.mergeSort (leE oP)) := by
  have pm := srt_perm oP ps
  have hl : (ps.mergeSort (leE oP)).length = ps.length := pm.length_eq
  have hpos : 0 < ps.length := List.length_pos_iff.mpr h1
  exact ⟨⟨by omega, by omega⟩, fun o m => bd o (pm.mem_iff.mp m), srt_lt oP_inj nd⟩
theorem dr_of {mi : Int} {ps : List Int} (nd : ps.Nodup) (bd : ∀ o ∈ ps, 0 ≤ o ∧ o < mi) : DrOk mi (srt ps) := ⟨fun o m => bd o (mem_srt.mp m), srt_up nd⟩
/-- the number of turns of a loop over range(1 if steady else pick) -/
theorem kp_i1 {st : Bool} {x2 x3 x4 x5 x6 x7 x8 x9 x10 x11 : Option D} {p : D} (hp : IsPool p) : ∃ (T : Nat) (p' : D), (1 ≤ T ∧ T ≤ 4) ∧ IsPool p' ∧ (st = true → T = 1) ∧ i1__law_kind_parts [some p, some (.bl st), x2, x3, x4, x5, x6, x7, x8, x9, x10, x11] = .ok (VL.upTo 0 T) [some p', some (.bl st), x2, x3, x4, x5, x6, x7, x8, x9, x10, x11] := by
  cases st with
  | true =>
    refine ⟨1, p, by omega, hp, fun _ => rfl, ?_⟩
    unfold i1__law_kind_parts
    simp only [vls_, setO_nil, setI_nil, isi_int_int, isi_int_bool, isi_tup, isi_lst, rng1_ok (show (1 : Int).natAbs < 1000000000 by decide)]
    rfl
  | false =>
    obtain ⟨k, p1, e, hp1, hk⟩ := pickI_ok (o := true) (ks := [1, 1, 1, 2, 2, 3, 4]) hp (by decide) (by decide)
    have hk2 : 1 ≤ k ∧ k ≤ 4 := by simp at hk; omega
    refine ⟨k.toNat, p1, by omega, hp1, (fun h => by cases h), ?_⟩
    have f1 := hp.fzd
    simp only [List.map_cons, List.map_nil] at e
    unfold i1__law_kind_parts
    simp only [vls_, setO_nil, setI_nil, isi_int_int, isi_int_bool, isi_tup, isi_lst, show ((0 + 1 + 1 + 1 + 1 + 1 + 1 + 1 : Nat) < big) from by decide, f1, e, rng1_ok (show k.natAbs < 1000000000 by omega)]
theorem kp_i2 {st : Bool} {x2 x3 x4 x5 x6 x7 x8 x9 x10 x11 : Option D} {p : D} (hp : IsPool p) : ∃ (T : Nat) (p' : D), T ≤ 4 ∧ IsPool p' ∧ (st = true → T = 0) ∧ i2__law_kind_parts [some p, some (.bl st), x2, x3, x4, x5, x6, x7, x8, x9, x10, x11] = .ok (VL.upTo 0 T) [some p', some (.bl st), x2, x3, x4, x5, x6, x7, x8, x9, x10, x11] := by
  cases st with
  | true =>
    refine ⟨0, p, by omega, hp, fun _ => rfl, ?_⟩
    unfold i2__law_kind_parts
    simp only [vls_, setO_nil, setI_nil, isi_int_int, isi_int_bool, isi_tup, isi_lst, rng1_ok (show (0 : Int).natAbs < 1000000000 by decide)]
    rfl
  | false =>
    obtain ⟨k, p1, e, hp1, hk⟩ := pickI_ok (o := true) (ks := [0, 0, 0, 1, 2]) hp (by decide) (by decide)
    have hk2 : 0 ≤ k ∧ k ≤ 4 := by simp at hk; omega
    refine ⟨k.toNat, p1, by omega, hp1, (fun h => by cases h), ?_⟩
    have f1 := hp.fzd
    simp only [List.map_cons, List.map_nil] at e
    unfold i2__law_kind_parts
    simp only [vls_, setO_nil, setI_nil, isi_int_int, isi_int_bool, isi_tup, isi_lst, show ((0 + 1 + 1 + 1 + 1 + 1 : Nat) < big) from by decide, f1, e, rng1_ok (show k.natAbs < 1000000000 by omega)]
theorem kp_l3 {st : Bool} {mi ai : Int} {L : List (List (Int × Int))} {Dr : List (List Int)} {sg : Option D} {p d : D} (hm : 0 < mi ∧ mi ≤ 8) (ha : 0 < ai ∧ ai ≤ 10) (hp : IsPool p) (hL : L.length ≤ 8) (hD : Dr.length ≤ 8) :
    ∃ p' r s, turnS (setSlot 6) l3__law_kind_parts [7, 8, 9] d [some p, some (.bl st), some (.int mi), some (.int ai), some (.lst true (L.map rowD)), some (.lst true (Dr.map iT)), sg, none, none, none, none, none] =
      .nx [some p', some (.bl st), some (.int mi), some (.int ai), some (.lst true ((L ++ [r]).map rowD)), some (.lst true ((Dr ++ [s]).map iT)), some d, none, none, none, none, none] ∧ IsPool p' ∧ RowOk mi ai r ∧ DrOk mi s ∧ (st = true → r.length = 1 ∧ s = []) := by
  obtain ⟨T, p1, hT, hp1, hs1, i1⟩ := kp_i1 (st := st) (x2 := some (.int mi)) (x3 := some (.int ai)) (x4 := some (.lst true (L.map rowD))) (x5 := some (.lst true (Dr.map iT))) (x6 := some d) (x7 := some (setO [])) (x8 := none) (x9 := none) (x10 := none) (x11 := none) hp
  obtain ⟨p2, ps, e2, hp2, nd2, bd2, ln2, ne2⟩ := kp_l1 (st := st) (m := .int mi) (a := .int ai) (lk := .lst true (L.map rowD)) (dr := .lst true (Dr.map iT)) (sg := d) rfl rfl hm ha (VL.upTo 0 T) p1 [] hp1 List.nodup_nil (by simp) (by rw [upTo_len]; simp; omega)
  have ps0 : ps ≠ [] := ne2 (.inr fun z => by
    have := congrArg List.length z
    rw [upTo_len] at this
    simp at this; omega)
  rw [upTo_len] at ln2
  simp only [List.length_nil, Nat.zero_add] at ln2
  have ps4 : ps.length ≤ 4 := by omega
  obtain ⟨T', p3, hT', hp3, hs3, i2⟩ := kp_i2 (st := st) (x2 := some (.int mi)) (x3 := some (.int ai)) (x4 := some (.lst true (L.map rowD ++ [.tup ((ps.mergeSort (leE oP)).map oD)]))) (x5 := some (.lst true (Dr.map iT))) (x6 := some d) (x7 := some (setO ps)) (x8 := none) (x9 := some (setI [])) (x10 := none) (x11 := none) hp2
  obtain ⟨p4, qs, e4, hp4, nd4, bd4, ln4⟩ := kp_l2 (st := st) (a := .int ai) (lk := .lst true (L.map rowD ++ [.tup ((ps.mergeSort (leE oP)).map oD)])) (dr := .lst true (Dr.map iT)) (sg := d) (oc := setO ps) hm (VL.upTo 0 T') p3 [] hp3 List.nodup_nil (by simp) (by rw [upTo_len]; simp; omega)
  rw [upTo_len] at ln4
  simp only [List.length_nil, Nat.zero_add] at ln4
  refine ⟨p4, ps.mergeSort (leE oP), srt qs, ?_, hp4, row_of nd2 bd2 ps0 ps4, dr_of nd4 bd4, fun h => ?_⟩
  · have s1 := sort_setO (l := ps) (big8 (by omega))
    have s2 := sort_setI (l := qs) (big8 (by omega))
    have z1 := fzdL_enc oD_fzd (ps.mergeSort (leE oP))
    have z2 := fzdL_ints (srt qs)
    have a1 : ∀ x, fAppend (.lst true (L.map rowD)) [x] = some (.non, .lst true (L.map rowD ++ [x])) := fun x => fAppend_l (by rw [List.length_map]; exact big8 (by omega))
    have a2 : ∀ x, fAppend (.lst true (Dr.map iT)) [x] = some (.non, .lst true (Dr.map iT ++ [x])) := fun x => fAppend_l (by rw [List.length_map]; exact big8 (by omega))
    rw [turnS_eq]
    unfold l3__law_kind_parts
    simp only [vls_, setO_nil, setI_nil, isi_int_int, isi_int_bool, isi_tup, isi_lst, i1, i2, e2, e4, s1, s2, z1, z2, a1, a2, List.map_append]
    rfl
  · have h1 := hs1 h
    have h3 := hs3 h
    have hpos : 0 < ps.length := List.length_pos_iff.mpr ps0
    have e0 : qs = [] := List.eq_nil_of_length_eq_zero (by omega)
    rw [e0]
    exact ⟨by rw [(srt_perm oP ps).length_eq]; omega, by unfold srt; simp⟩
def rng (n : Nat) : List Int := (List.range n).map fun (k : Nat) => (k : Int)
theorem upTo_rng (n : Nat) : VL.upTo 0 n = (rng n).map .int := by
  unfold VL.upTo rng
  rw [List.map_map]
  apply List.map_congr_left
  intro k _
  simp
theorem rng_mem {n : Nat} {x : Int} : x ∈ rng n ↔ 0 ≤ x ∧ x < n := by
  unfold rng
  rw [List.mem_map]
  constructor
  · rintro ⟨k, hk, rfl⟩
    rw [List.mem_range] at hk
    omega
  · intro h
    exact ⟨x.toNat, by rw [List.mem_range]; omega, by omega⟩
theorem rng_up (n : Nat) : (rng n).Pairwise (· < ·) := by
  unfold rng
  rw [List.pairwise_map]
  exact List.pairwise_lt_range.imp fun h => by omega
theorem rng_len (n : Nat) : (rng n).length = n := by simp [rng]
theorem kp_q1 {x1 x2 x3 x4 x5 x7 x8 x9 x10 x11 : Option D} : ∀ (is : List Int) (p : D), IsPool p → ∃ (p' : D) (ts : List Int), lcGo q1t__law_kind_parts q1c__law_kind_parts q1e__law_kind_parts [6] (is.map .int) [some p, x1, x2, x3, x4, x5, none, x7, x8, x9, x10, x11] = .ok (ts.map .int) [some p', x1, x2, x3, x4, x5, none, x7, x8, x9, x10, x11] ∧ IsPool p' ∧ ts.Sublist is
  | [], p, hp => ⟨p, [], rfl, hp, List.Sublist.refl _⟩
  | i :: is, p, hp => by
    obtain ⟨r, p1, e, hp1, b⟩ := draw_ok (m := 3) hp (by decide) (by decide)
    obtain ⟨p', ts, h1, h2, h3⟩ := kp_q1 (x1 := x1) (x2 := x2) (x3 := x3) (x4 := x4) (x5 := x5) (x7 := x7) (x8 := x8) (x9 := x9) (x10 := x10) (x11 := x11) is p1 hp1
    have f1 := hp.fzd
    by_cases c : r = 0
    · refine ⟨p', i :: ts, ?_, h2, h3.cons_cons i⟩
      rw [List.map_cons]
      refine lcGo_cons (o := some (.int i)) (ys := ts.map .int) ?_ h1
      unfold lcTurn q1t__law_kind_parts q1c__law_kind_parts q1e__law_kind_parts
      simp only [vls_, setO_nil, setI_nil, isi_int_int, isi_int_bool, isi_tup, isi_lst, f1, e, c]
    · refine ⟨p', ts, ?_, h2, h3.cons i⟩
      rw [List.map_cons]
      refine lcGo_cons (o := none) (ys := ts.map .int) ?_ h1
      unfold lcTurn q1t__law_kind_parts q1c__law_kind_parts q1e__law_kind_parts
      simp only [vls_, setO_nil, setI_nil, isi_int_int, isi_int_bool, isi_tup, isi_lst, f1, e, c]
def PutOk (mi : Int) (q : Int × List Int) : Prop := (0 ≤ q.1 ∧ q.1 < mi) ∧ (∀ s ∈ q.2, 0 ≤ s ∧ s < mi) ∧ q.2.Pairwise (· < ·)
theorem kp_l4 {st : Bool} {mi : Nat} {a lk dr : D} (hm : 0 < mi ∧ mi ≤ 8) : ∀ (ds : List D) (p : D) (sg : Option D) (Pu : List (Int × List Int)), IsPool p → Pu.length + ds.length ≤ 4 → (∀ q ∈ Pu, PutOk mi q) →
    ∃ (p' : D) (sg' : Option D) (Pu' : List (Int × List Int)), loopS (setSlot 8) l4__law_kind_parts [8, 11] ds [some p, some (.bl st), some (.int mi), some a, some lk, some dr, sg, none, none, none, some (.lst true (Pu.map putD)), none] =
      .nx [some p', some (.bl st), some (.int mi), some a, some lk, some dr, sg', none, none, none, some (.lst true (Pu'.map putD)), none] ∧ IsPool p' ∧ Pu'.length ≤ 4 ∧ (∀ q ∈ Pu', PutOk mi q)
  | [], p, sg, Pu, hp, hl, hq => ⟨p, sg, Pu, rfl, hp, by simpa using hl, hq⟩
  | d :: ds, p, sg, Pu, hp, hl, hq => by
    simp only [List.length_cons] at hl
    obtain ⟨p1, ts, e1, hp1, sub⟩ := kp_q1 (x1 := some (.bl st)) (x2 := some (.int mi)) (x3 := some a) (x4 := some lk) (x5 := some dr) (x7 := none) (x8 := some d) (x9 := none) (x10 := some (.lst true (Pu.map putD))) (x11 := none) (rng mi) p hp
    obtain ⟨r, p2, e2, hp2, b⟩ := draw_ok (m := (mi : Int)) hp1 (by omega) (by omega)
    have f1 := hp1.fzd
    have z := fzdL_ints ts
    have a1 : ∀ x, fAppend (.lst true (Pu.map putD)) [x] = some (.non, .lst true (Pu.map putD ++ [x])) := fun x => fAppend_l (by rw [List.length_map]; exact big8 (by omega))
    have lr : ((rng mi).map D.int).length < big := by rw [List.length_map, rng_len]; exact big8 (by omega)
    have t : turnS (setSlot 8) l4__law_kind_parts [8, 11] d [some p, some (.bl st), some (.int mi), some a, some lk, some dr, sg, none, none, none, some (.lst true (Pu.map putD)), none] = .nx [some p2, some (.bl st), some (.int mi), some a, some lk, some dr, none, none, none, none, some (.lst true ((Pu ++ [(r, ts)]).map putD)), none] := by
      rw [turnS_eq]
      unfold l4__law_kind_parts
      simp only [vls_, setO_nil, setI_nil, isi_int_int, isi_int_bool, isi_tup, isi_lst, rng1_ok (show (mi : Int).natAbs < 1000000000 by omega), upTo_rng, lr, e1, z, f1, e2, fzdL, show ((0 + 1 + 1 : Nat) < big) from by decide, a1, List.map_append]
      rfl
    rw [loopS_nx t]
    refine kp_l4 hm ds p2 none (Pu ++ [(r, ts)]) hp2 (by simp; omega) fun q mq => ?_
    rcases List.mem_append.mp mq with mq | mq
    · exact hq q mq
    · rw [List.mem_singleton] at mq
      subst mq
      exact ⟨b, fun s ms => by have := rng_mem.mp (sub.subset ms); omega, (rng_up mi).sublist sub⟩
theorem kp_loop3 {st : Bool} {mi ai : Int} (hm : 0 < mi ∧ mi ≤ 8) (ha : 0 < ai ∧ ai ≤ 10) : ∀ (ds : List D) (p : D) (sg : Option D) (L : List (List (Int × Int))) (Dr : List (List Int)), IsPool p → L.length + ds.length ≤ 8 → Dr.length = L.length → (∀ r ∈ L, RowOk mi ai r) → (∀ r ∈ Dr, DrOk mi r) → (st = true → (∀ r ∈ L, r.length = 1) ∧ ∀ r ∈ Dr, r = []) →
    ∃ (p' : D) (sg' : Option D) (L' : List (List (Int × Int))) (Dr' : List (List Int)), loopS (setSlot 6) l3__law_kind_parts [7, 8, 9] ds [some p, some (.bl st), some (.int mi), some (.int ai), some (.lst true (L.map rowD)), some (.lst true (Dr.map iT)), sg, none, none, none, none, none] =
      .nx [some p', some (.bl st), some (.int mi), some (.int ai), some (.lst true (L'.map rowD)), some (.lst true (Dr'.map iT)), sg', none, none, none, none, none] ∧ IsPool p' ∧ L'.length = L.length + ds.length ∧ Dr'.length = L'.length ∧ (∀ r ∈ L', RowOk mi ai r) ∧ (∀ r ∈ Dr', DrOk mi r) ∧ (st = true → (∀ r ∈ L', r.length = 1) ∧ ∀ r ∈ Dr', r = [])
  | [], p, sg, L, Dr, hp, hl, hd, h1, h2, h3 => ⟨p, sg, L, Dr, rfl, hp, by simp, hd, h1, h2, h3⟩
  | d :: ds, p, sg, L, Dr, hp, hl, hd, h1, h2, h3 => by
    simp only [List.length_cons] at hl
    obtain ⟨p1, r, s, t, hp1, hr, hs, hst⟩ := kp_l3 (st := st) (L := L) (Dr := Dr) (sg := sg) (d := d) hm ha hp (by omega) (by omega)
    rw [loopS_nx t]
    obtain ⟨p', sg', L', Dr', e, q1, q2, q3, q4, q5, q6⟩ := kp_loop3 hm ha ds p1 (some d) (L ++ [r]) (Dr ++ [s]) hp1 (by simp; omega) (by simp; omega)
      (fun x m => (List.mem_append.mp m).elim (h1 x) fun m => by rw [List.mem_singleton] at m; rw [m]; exact hr)
      (fun x m => (List.mem_append.mp m).elim (h2 x) fun m => by rw [List.mem_singleton] at m; rw [m]; exact hs)
      (fun h => ⟨fun x m => (List.mem_append.mp m).elim ((h3 h).1 x) fun m => by rw [List.mem_singleton] at m; rw [m]; exact (hst h).1, fun x m => (List.mem_append.mp m).elim ((h3 h).2 x) fun m => by rw [List.mem_singleton] at m; rw [m]; exact (hst h).2⟩)
    exact ⟨p', sg', L', Dr', e, q1, by simp at q2 ⊢; omega, q3, q4, q5, q6⟩
theorem kind_parts_ok {st : Bool} {p : D} (hp : IsPool p) : ∃ p' n L Dr Pu, f__law_kind_parts [p, .bl st] = .ret (.lst true [looksD L, driftsD Dr, putsD Pu]) [p', .bl st] ∧ IsPool p' ∧ ValidK n L Dr Pu ∧ (st = true → (∀ r ∈ L, r.length = 1) ∧ ∀ r ∈ Dr, r = []) := by
  obtain ⟨m, p1, e1, hp1, hm⟩ := pickI_ok (o := true) (ks := [1, 2, 2, 3, 3, 4, 5, 8]) hp (by decide) (by decide)
  obtain ⟨a, p2, e2, hp2, ha⟩ := pickI_ok (o := true) (ks := [1, 2, 2, 3, 10]) hp1 (by decide) (by decide)
  have hm2 : 0 < m ∧ m ≤ 8 := by simp at hm; omega
  have ha2 : 0 < a ∧ a ≤ 10 := by simp at ha; omega
  obtain ⟨n, rfl⟩ := Int.eq_ofNat_of_zero_le (show 0 ≤ m by omega)
  obtain ⟨p3, sg3, L, Dr, e3, hp3, ln3, ld3, hL, hDr, hst⟩ := kp_loop3 (st := st) hm2 ha2 (VL.upTo 0 n) p2 none [] [] hp2 (by rw [upTo_len]; simp; omega) rfl (by simp) (by simp) (by simp)
  rw [upTo_len] at ln3
  simp only [List.length_nil, Nat.zero_add] at ln3
  obtain ⟨t, p4, e4, hp4, ht⟩ := pickI_ok (o := true) (ks := [0, 0, 1, 2, 4]) hp3 (by decide) (by decide)
  have ht2 : 0 ≤ t ∧ t ≤ 4 := by simp at ht; omega
  obtain ⟨T, rfl⟩ := Int.eq_ofNat_of_zero_le ht2.1
  obtain ⟨p5, sg5, Pu, e5, hp5, lp5, hPu⟩ := kp_l4 (st := st) (mi := n) (a := .int a) (lk := .lst true (L.map rowD)) (dr := .lst true (Dr.map iT)) (by omega) (VL.upTo 0 T) p4 sg3 [] hp4 (by rw [upTo_len]; simp; omega) (by simp)
  refine ⟨p5, n, L, Dr, Pu, ?_, hp5, ⟨by omega, by omega, ln3, by omega, fun r m => ⟨(hL r m).1, fun o mo => ⟨⟨((hL r m).2.1 o mo).1.1, by have := ((hL r m).2.1 o mo).1.2; omega⟩, ((hL r m).2.1 o mo).2⟩, (hL r m).2.2⟩, hDr, lp5, hPu⟩, hst⟩
  have f0 := hp.fzd; have f1 := hp1.fzd; have f3 := hp3.fzd
  have z1 := fzdL_enc rowD_fzd L
  have z2 := fzdL_enc iT_fzd Dr
  have z3 := fzdL_enc putD_fzd Pu
  simp only [List.map_cons, List.map_nil] at e1 e2 e3 e4 e5
  unfold f__law_kind_parts
  refine run_go rfl ?_
  unfold b__law_kind_parts i3__law_kind_parts i4__law_kind_parts
  have b3 : ((0 + 1 + 1 + 1 : Nat) < big) := by decide
  have b8 : ((0 + 1 + 1 + 1 + 1 + 1 + 1 + 1 + 1 : Nat) < big) := by decide
  have b5 : ((0 + 1 + 1 + 1 + 1 + 1 : Nat) < big) := by decide
  have b0 : ((0 : Nat) < big) := by decide
  simp only [vls_, setO_nil, setI_nil, isi_int_int, isi_int_bool, isi_tup, isi_lst, f0, f1, f3, e1, e2, e3, e4, e5, b0, b3, b5, b8, z1, z2, z3, rng1_ok (show (n : Int).natAbs < 1000000000 by omega), rng1_ok (show (T : Int).natAbs < 1000000000 by omega)]
  exact outD_rt rfl
end Q

set_option linter.all false
set_option maxRecDepth 100000
set_option maxHeartbeats 4000000
namespace Q
open PySem PySem.Spec PyProof.Rows L2 VL
/-! ### the checks of a right kind -/
theorem is_integer_ok (i : Int) : f_is_integer [.int i] = .ret (.bl true) [.int i] := by
  unfold f_is_integer
  refine run_go rfl ?_
  unfold b_is_integer
  simp only [vls_, setO_nil, setI_nil, isi_int_int, isi_int_bool, isi_tup, isi_lst]
  exact outD_rt rfl
theorem is_below_ok {n i : Int} (h0 : 0 ≤ i) (h1 : i < n) : f_is_below [.int n, .int i] = .ret (.bl true) [.int n, .int i] := by
  unfold f_is_below
  refine run_go rfl ?_
  unfold b_is_below
  simp only [vls_, setO_nil, setI_nil, isi_int_int, isi_int_bool, isi_tup, isi_lst, is_integer_ok, h0, h1]
  exact outD_rt rfl
theorem is_tuple_ok {a b : Int} {xs : List D} (hf : fzdL xs = true) (h0 : a ≤ xs.length) (h1 : (xs.length : Int) ≤ b) : f_is_tuple [.int a, .int b, .tup xs] = .ret (.bl true) [.int a, .int b, .tup xs] := by
  have q := fzL_of _ hf
  unfold f_is_tuple
  refine run_go rfl ?_
  unfold b_is_tuple
  simp only [vls_, setO_nil, setI_nil, isi_int_int, isi_int_bool, isi_tup, isi_lst, q, h0, h1]
  exact outD_rt rfl
theorem is_outcome_ok {n : Int} {o : Int × Int} (h1 : 0 ≤ o.1 ∧ o.1 < 10) (h2 : 0 ≤ o.2 ∧ o.2 < n) : f_is_outcome [.int n, oD o] = .ret (.bl true) [.int n, oD o] := by
  have t := is_tuple_ok (a := 2) (b := 2) (xs := [.int o.1, .int o.2]) rfl (Int.le_refl 2) (Int.le_refl 2)
  unfold f_is_outcome
  refine run_go rfl ?_
  unfold b_is_outcome oD
  simp only [vls_, setO_nil, setI_nil, isi_int_int, isi_int_bool, isi_tup, isi_lst, fzL, fzdL, t, is_below_ok h1.1 h1.2, is_below_ok h2.1 h2.2]
  exact outD_rt rfl
/-- rising: of pairs, of ints -/
theorem zipD_map {α : Type} (e : α → D) : ∀ l : List α, zipD (l.map e) ((l.map e).drop 1) = (l.zip (l.drop 1)).map fun p => .tup [e p.1, e p.2]
  | [] => rfl
  | [x] => rfl
  | x :: y :: l => by
    have := zipD_map e (y :: l)
    simp only [List.map_cons, List.drop_succ_cons, List.drop_zero, List.zip_cons_cons, zipD] at this ⊢
    rw [this]
theorem zip_up {α : Type} {R : α → α → Prop} : ∀ {l : List α}, l.Pairwise R → ∀ p ∈ l.zip (l.drop 1), R p.1 p.2
  | [], _, p, h => by simp at h
  | [x], _, p, h => by simp at h
  | x :: y :: l, hp, p, h => by
    rw [List.pairwise_cons] at hp
    simp only [List.drop_succ_cons, List.drop_zero, List.zip_cons_cons, List.mem_cons] at h
    rcases h with rfl | h
    · exact hp.1 y List.mem_cons_self
    · exact zip_up hp.2 p (by simpa using h)
theorem rising_ok {α : Type} {e : α → D} {l : List α} (hf : ∀ x, (e x).fzd = true) (hl : l.length < big) (h : ∀ p ∈ l.zip (l.drop 1), fLt (e p.1) (e p.2) = some (.bl true)) : f_rising [.tup (l.map e)] = .ret (.bl true) [.tup (l.map e)] := by
  have q := fzL_enc hf l
  have ct : cutD (l.map e) (some 1) none = (l.map e).drop 1 := by
    cases l with
    | nil => rfl
    | cons x l => exact cut_tail
  have q2 : fzL ((l.map e).drop 1) = (l.map e).drop 1 := by
    rw [← List.map_drop]; exact fzL_enc hf _
  have lz : ((l.zip (l.drop 1)).map fun p => D.tup [e p.1, e p.2]).length < big := by
    rw [List.length_map, List.length_zip]
    omega
  have lc := lcGo_mapE (t := q1t_rising) (c := tYesM) (e := q1e_rising) (own := [1, 2]) (ρ := [some (.tup (l.map e)), none, none]) (enc := fun p : α × α => D.tup [e p.1, e p.2]) (F := fun _ => .bl true) (xs := l.zip (l.drop 1)) fun p m => by
    have hp := h p m
    unfold lcTurn q1t_rising q1e_rising
    simp only [vls_, setO_nil, setI_nil, isi_int_int, isi_int_bool, isi_tup, isi_lst, hp]
  have al : blsOf ((l.zip (l.drop 1)).map fun _ => D.bl true) = some ((l.zip (l.drop 1)).map fun _ => true) := blsOf_map (fun _ => true) _
  have al2 : (((l.zip (l.drop 1)).map fun _ => true).all id) = true := by simp
  unfold f_rising
  refine run_go rfl ?_
  unfold b_rising
  simp only [vls_, setO_nil, setI_nil, isi_int_int, isi_int_bool, isi_tup, isi_lst, q, ct, q2, zipD_map, lz, lc, al, al2]
  exact outD_rt rfl
theorem lt_o {x y : Int × Int} (h : ltO x y) : fLt (oD x) (oD y) = some (.bl true) := by
  show (match (oD x).cmp, (oD y).cmp with
    | some p, some q => if (PySem.W.alike p q && !pyNone p) = true then some (D.bl (PySem.W.dataLt p q)) else none
    | _, _ => none) = _
  rw [oD_cmp, oD_cmp]
  show (if (PySem.W.alike (oP x) (oP y) && !pyNone (oP x)) = true then some (D.bl (PySem.W.dataLt (oP x) (oP y))) else none) = _
  rw [enc_o.al, show PySem.W.dataLt (oP x) (oP y) = true from h]
  rfl
theorem all_true {α : Type} (l : List α) : fAll [.lst true (l.map fun _ => D.bl true)] = some (.bl true) := by
  rw [fAll_l, blsOf_map (fun _ => true)]
  show some (D.bl _) = _
  congr 2
  simp
theorem are_outcomes_ok {n : Int} {r : List (Int × Int)} (h1 : 1 ≤ r.length ∧ r.length ≤ 4) (h2 : ∀ o ∈ r, (0 ≤ o.1 ∧ o.1 < 10) ∧ (0 ≤ o.2 ∧ o.2 < n)) (h3 : r.Pairwise ltO) : f_are_outcomes [.int n, rowD r] = .ret (.bl true) [.int n, rowD r] := by
  have t := is_tuple_ok (a := 1) (b := 4) (xs := r.map oD) (fzdL_enc oD_fzd r) (by rw [List.length_map]; omega) (by rw [List.length_map]; omega)
  have rs := rising_ok (e := oD) (l := r) oD_fzd (big8 (by omega)) fun p m => lt_o (zip_up h3 p m)
  have q := fzL_enc oD_fzd r
  have q2 := fzdL_enc oD_fzd r
  have lz : (r.map oD).length < big := by rw [List.length_map]; exact big8 (by omega)
  have lc := lcGo_mapE (t := q1t_are_outcomes) (c := tYesM) (e := q1e_are_outcomes) (own := [2]) (ρ := [some (.int n), some (.tup (r.map oD)), none]) (enc := oD) (F := fun _ => .bl true) (xs := r) fun o m => by
    have := is_outcome_ok (h2 o m).1 (h2 o m).2
    have z := oD_fzd o
    unfold lcTurn q1t_are_outcomes q1e_are_outcomes
    simp only [vls_, setO_nil, setI_nil, isi_int_int, isi_int_bool, isi_tup, isi_lst, this, z]
  have al := all_true r
  unfold f_are_outcomes
  refine run_go rfl ?_
  unfold b_are_outcomes rowD
  simp only [vls_, setO_nil, setI_nil, isi_int_int, isi_int_bool, isi_tup, isi_lst, q, q2, t, rs, lz, lc, al, -fAll_l]
  exact outD_rt rfl
theorem are_looks_ok {n : Nat} {L : List (List (Int × Int))} (hn : L.length = n) (h1 : 1 ≤ n) (h8 : n ≤ 8) (hr : ∀ r ∈ L, (1 ≤ r.length ∧ r.length ≤ 4) ∧ (∀ o ∈ r, (0 ≤ o.1 ∧ o.1 < 10) ∧ (0 ≤ o.2 ∧ o.2 < n)) ∧ r.Pairwise ltO) : f_are_looks [looksD L] = .ret (.bl true) [looksD L] := by
  subst hn
  have t := is_tuple_ok (a := 1) (b := 8) (xs := L.map rowD) (fzdL_enc rowD_fzd L) (by rw [List.length_map]; omega) (by rw [List.length_map]; omega)
  have q := fzL_enc rowD_fzd L
  have q2 := fzdL_enc rowD_fzd L
  have lz : (L.map rowD).length < big := by rw [List.length_map]; exact big8 (by omega)
  have lc := lcGo_mapE (t := q1t_are_looks) (c := tYesM) (e := q1e_are_looks) (own := [1]) (ρ := [some (.tup (L.map rowD)), none]) (enc := rowD) (F := fun _ => .bl true) (xs := L) fun r m => by
    have h := hr r m
    have := are_outcomes_ok (n := ((L.map rowD).length : Int)) h.1 (by rw [List.length_map]; exact h.2.1) h.2.2
    have z := rowD_fzd r
    unfold lcTurn q1t_are_looks q1e_are_looks
    simp only [vls_, setO_nil, setI_nil, isi_int_int, isi_int_bool, isi_tup, isi_lst, this, z]
  have al := all_true L
  unfold f_are_looks
  refine run_go rfl ?_
  unfold b_are_looks looksD
  simp only [vls_, setO_nil, setI_nil, isi_int_int, isi_int_bool, isi_tup, isi_lst, q, q2, t, lz, lc, al, -fAll_l]
  exact outD_rt rfl
theorem lt_i {x y : Int} (h : x < y) : fLt (D.int x) (D.int y) = some (.bl true) := by rw [fLt_ii, decide_eq_true h]
theorem are_rising_ok {n : Nat} {r : List Int} (h8 : n ≤ 8) (h2 : ∀ s ∈ r, 0 ≤ s ∧ s < n) (h3 : r.Pairwise (· < ·)) : f_are_rising_standings [.int n, iT r] = .ret (.bl true) [.int n, iT r] := by
  have hl := up_len h2 h3
  have t := is_tuple_ok (a := 0) (b := (n : Int)) (xs := r.map D.int) (fzdL_ints r) (by rw [List.length_map]; omega) (by rw [List.length_map]; omega)
  have rs := rising_ok (e := D.int) (l := r) (fun _ => rfl) (big8 (by omega)) fun p m => lt_i (zip_up h3 p m)
  have q := fzL_ints r
  have q2 := fzdL_ints r
  have lz : (r.map D.int).length < big := by rw [List.length_map]; exact big8 (by omega)
  have lc := lcGo_mapE (t := q1t_are_rising_standings) (c := tYesM) (e := q1e_are_rising_standings) (own := [2]) (ρ := [some (.int n), some (.tup (r.map D.int)), none]) (enc := D.int) (F := fun _ => .bl true) (xs := r) fun o m => by
    have := is_below_ok (h2 o m).1 (h2 o m).2
    unfold lcTurn q1t_are_rising_standings q1e_are_rising_standings
    simp only [vls_, setO_nil, setI_nil, isi_int_int, isi_int_bool, isi_tup, isi_lst, this]
  have al := all_true r
  unfold f_are_rising_standings
  refine run_go rfl ?_
  unfold b_are_rising_standings iT
  simp only [vls_, setO_nil, setI_nil, isi_int_int, isi_int_bool, isi_tup, isi_lst, q, q2, t, rs, lz, lc, al, -fAll_l]
  exact outD_rt rfl
theorem are_drifts_ok {n : Nat} {Dr : List (List Int)} (hn : Dr.length = n) (h8 : n ≤ 8) (hr : ∀ r ∈ Dr, (∀ s ∈ r, 0 ≤ s ∧ s < n) ∧ r.Pairwise (· < ·)) : f_are_drifts [.int n, driftsD Dr] = .ret (.bl true) [.int n, driftsD Dr] := by
  have t := is_tuple_ok (a := (n : Int)) (b := (n : Int)) (xs := Dr.map iT) (fzdL_enc iT_fzd Dr) (by rw [List.length_map]; omega) (by rw [List.length_map]; omega)
  have q := fzL_enc iT_fzd Dr
  have q2 := fzdL_enc iT_fzd Dr
  have lz : (Dr.map iT).length < big := by rw [List.length_map]; exact big8 (by omega)
  have lc := lcGo_mapE (t := q1t_are_drifts) (c := tYesM) (e := q1e_are_drifts) (own := [2]) (ρ := [some (.int n), some (.tup (Dr.map iT)), none]) (enc := iT) (F := fun _ => .bl true) (xs := Dr) fun r m => by
    have h := hr r m
    have := are_rising_ok h8 h.1 h.2
    have z := iT_fzd r
    unfold lcTurn q1t_are_drifts q1e_are_drifts
    simp only [vls_, setO_nil, setI_nil, isi_int_int, isi_int_bool, isi_tup, isi_lst, this, z]
  have al := all_true Dr
  unfold f_are_drifts
  refine run_go rfl ?_
  unfold b_are_drifts driftsD
  simp only [vls_, setO_nil, setI_nil, isi_int_int, isi_int_bool, isi_tup, isi_lst, q, q2, t, lz, lc, al, -fAll_l]
  exact outD_rt rfl
theorem is_put_ok {n : Nat} {p : Int × List Int} (h8 : n ≤ 8) (h1 : 0 ≤ p.1 ∧ p.1 < n) (h2 : ∀ s ∈ p.2, 0 ≤ s ∧ s < n) (h3 : p.2.Pairwise (· < ·)) : f_is_put [.int n, putD p] = .ret (.bl true) [.int n, putD p] := by
  have z := iT_fzd p.2
  have z2 : (iT p.2).fz = iT p.2 := D.fz_of _ z
  have t := is_tuple_ok (a := 2) (b := 2) (xs := [.int p.1, iT p.2]) (by simp [fzdL, z, D.fzd]) (Int.le_refl 2) (Int.le_refl 2)
  have a := are_rising_ok h8 h2 h3
  unfold f_is_put
  refine run_go rfl ?_
  unfold b_is_put putD
  simp only [vls_, setO_nil, setI_nil, isi_int_int, isi_int_bool, isi_tup, isi_lst, fzL, fzdL, z, z2, t, is_below_ok h1.1 h1.2, a]
  exact outD_rt rfl
theorem are_puts_ok {n : Nat} {Pu : List (Int × List Int)} (h8 : n ≤ 8) (hl : Pu.length ≤ 4) (hr : ∀ p ∈ Pu, (0 ≤ p.1 ∧ p.1 < n) ∧ (∀ s ∈ p.2, 0 ≤ s ∧ s < n) ∧ p.2.Pairwise (· < ·)) : f_are_puts [.int n, putsD Pu] = .ret (.bl true) [.int n, putsD Pu] := by
  have t := is_tuple_ok (a := 0) (b := 4) (xs := Pu.map putD) (fzdL_enc putD_fzd Pu) (by rw [List.length_map]; omega) (by rw [List.length_map]; omega)
  have q := fzL_enc putD_fzd Pu
  have q2 := fzdL_enc putD_fzd Pu
  have lz : (Pu.map putD).length < big := by rw [List.length_map]; exact big8 (by omega)
  have lc := lcGo_mapE (t := q1t_are_puts) (c := tYesM) (e := q1e_are_puts) (own := [2]) (ρ := [some (.int n), some (.tup (Pu.map putD)), none]) (enc := putD) (F := fun _ => .bl true) (xs := Pu) fun p m => by
    have h := hr p m
    have := is_put_ok h8 h.1 h.2.1 h.2.2
    have z := putD_fzd p
    unfold lcTurn q1t_are_puts q1e_are_puts
    simp only [vls_, setO_nil, setI_nil, isi_int_int, isi_int_bool, isi_tup, isi_lst, this, z]
  have al := all_true Pu
  unfold f_are_puts
  refine run_go rfl ?_
  unfold b_are_puts putsD
  simp only [vls_, setO_nil, setI_nil, isi_int_int, isi_int_bool, isi_tup, isi_lst, q, q2, t, lz, lc, al, -fAll_l]
  exact outD_rt rfl
/-- a right kind as an instance -/
def kindD (o : Bool) (n : Nat) (L : List (List (Int × Int))) (Dr : List (List Int)) (Pu : List (Int × List Int)) : D := .ins o "Kind" [("looks", looksD L), ("drifts", driftsD Dr), ("puts", putsD Pu), ("size", .int n)]
theorem kind_init_ok {n : Nat} {L : List (List (Int × Int))} {Dr : List (List Int)} {Pu : List (Int × List Int)} (h : ValidK n L Dr Pu) : f_Kind_init [.ins true "Kind" [], looksD L, driftsD Dr, putsD Pu] = .ret .non [kindD true n L Dr Pu, looksD L, driftsD Dr, putsD Pu] := by
  have a1 := are_looks_ok h.ll h.n1 h.n8 h.lr
  have a2 := are_drifts_ok h.dl h.n8 h.dr
  have a3 := are_puts_ok h.n8 h.pl h.pr
  have z1 := looksD_fzd L; have z2 := driftsD_fzd Dr; have z3 := putsD_fzd Pu
  have y1 := D.fz_of _ z1; have y2 := D.fz_of _ z2; have y3 := D.fz_of _ z3
  have ln : fLen [looksD L] = some (.int n) := by
    show some (D.int ((L.map rowD).length : Int)) = _
    rw [List.length_map, h.ll]
  have s1 : fSetF "looks" ["Kind"] (.ins true "Kind" []) [looksD L] = some (.non, .ins true "Kind" [("looks", looksD L)]) := if_pos (by rw [z1]; rfl)
  have s2 : fSetF "drifts" ["Kind"] (.ins true "Kind" [("looks", looksD L)]) [driftsD Dr] = some (.non, .ins true "Kind" [("looks", looksD L), ("drifts", driftsD Dr)]) := if_pos (by rw [z2]; rfl)
  have s3 : fSetF "puts" ["Kind"] (.ins true "Kind" [("looks", looksD L), ("drifts", driftsD Dr)]) [putsD Pu] = some (.non, .ins true "Kind" [("looks", looksD L), ("drifts", driftsD Dr), ("puts", putsD Pu)]) := if_pos (by rw [z3]; rfl)
  have s4 : fSetF "size" ["Kind"] (.ins true "Kind" [("looks", looksD L), ("drifts", driftsD Dr), ("puts", putsD Pu)]) [.int n] = some (.non, kindD true n L Dr Pu) := rfl
  unfold f_Kind_init
  refine run_go rfl ?_
  unfold b_Kind_init
  simp only [vls_, setO_nil, setI_nil, isi_int_int, isi_int_bool, isi_tup, isi_lst, es_setF, y1, y2, y3, z1, z2, z3, a1, a2, a3, ln, s1, s2, s3, s4]
  exact outD_nx rfl
end Q

set_option linter.all false
set_option maxRecDepth 100000
set_option maxHeartbeats 4000000
namespace Q
open PySem PySem.Spec PyProof.Rows L2 VL GR
/-! ### what comes -/
def iL (l : List Int) : D := .lst false (l.map .int)
theorem iL_fzd (l : List Int) : (iL l).fzd = true := by unfold iL; rw [D.fzd, fzdL_ints]; rfl
def nxG (G : List (List Int)) (s : Int) : List Int := (G[s.toNat]?).getD []
theorem tyO : Ty oD oP 1 := Ty.int.pair Ty.int
theorem tyT : Ty iT (fun l => .tuple (l.map .int)) 1 := Ty.int.tup
theorem tyRow : Ty rowD (fun l => .tuple (l.map oP)) 2 := tyO.tup
theorem tyLooks : Ty looksD (fun l => .tuple (l.map fun l => .tuple (l.map oP))) 3 := tyRow.tup
theorem tyDrifts : Ty driftsD (fun l => .tuple (l.map fun l => .tuple (l.map .int))) 2 := tyT.tup
theorem tyPut : Ty putD (fun p => .tuple [.int p.1, .tuple (p.2.map .int)]) 2 := Ty.int.pair tyT
theorem tyPuts : Ty putsD (fun p => .tuple (p.map fun p => .tuple [.int p.1, .tuple (p.2.map .int)])) 3 := tyPut.tup
theorem nxG_mem {G : List (List Int)} {s u : Int} (h : u ∈ nxG G s) : ∃ g ∈ G, u ∈ g := by
  unfold nxG at h
  cases e : G[s.toNat]? with
  | none => rw [e] at h; simp at h
  | some g => rw [e] at h; exact ⟨g, List.mem_of_getElem? e, h⟩
theorem ix_G {G : List (List Int)} {h : Int} (h0 : 0 ≤ h) (h1 : h < G.length) {o : Bool} : fIx (.lst o (G.map iL)) (.int h) = some (iL (nxG G h)) := by
  obtain ⟨n, rfl⟩ := Int.eq_ofNat_of_zero_le h0
  have hn : n < G.length := by omega
  show fAt (G.map iL) (n : Int) = _
  rw [fAt_enc iL_fzd (List.getElem?_eq_getElem hn)]
  unfold nxG
  rw [Int.toNat_natCast, List.getElem?_eq_getElem hn]
  rfl
theorem kget_has (l : List (DK × D)) (k : DK) : (kget l k).isSome = khas l k := by
  unfold kget khas
  rw [Option.isSome_map, Bool.eq_iff_iff, List.find?_isSome, List.any_eq_true]
theorem in_setI {n : Bool} {a : Int} {l : List Int} : fIn n (.int a) (setI l) = some (.bl (if n = true then !decide (a ∈ l) else decide (a ∈ l))) := by
  show (if true = true then some (D.bl (if n = true then !(kget _ (κI a)).isSome else (kget _ (κI a)).isSome)) else none) = _
  rw [kget_has, khas_set κI_inj]
  rfl
def uniq {α : Type} [DecidableEq α] (xs : List α) : List α := xs.foldl (fun a x => ins x a) []
theorem uniq_go {α : Type} [DecidableEq α] : ∀ (xs a : List α), (a.Nodup → (xs.foldl (fun a x => ins x a) a).Nodup) ∧ (∀ x, x ∈ xs.foldl (fun a x => ins x a) a ↔ x ∈ a ∨ x ∈ xs) ∧ (xs.foldl (fun a x => ins x a) a).length ≤ a.length + xs.length
  | [], a => ⟨id, by simp, by simp⟩
  | x :: xs, a => by
    obtain ⟨h1, h2, h3⟩ := uniq_go xs (ins x a)
    refine ⟨fun h => h1 (nodup_ins h), fun y => ?_, ?_⟩
    · rw [List.foldl_cons, h2, VL.mem_ins, List.mem_cons]
      constructor
      · rintro ((h | h) | h) <;> simp [h]
      · rintro (h | h | h) <;> simp [h]
    · have := ins_len (a := x) (l := a)
      simp only [List.foldl_cons, List.length_cons]
      omega
theorem uniq_nodup {α : Type} [DecidableEq α] (xs : List α) : (uniq xs).Nodup := (uniq_go xs []).1 List.nodup_nil
theorem mem_uniq {α : Type} [DecidableEq α] {xs : List α} {x : α} : x ∈ uniq xs ↔ x ∈ xs := by simp [uniq, (uniq_go xs []).2.1]
theorem uniq_len {α : Type} [DecidableEq α] (xs : List α) : (uniq xs).length ≤ xs.length := by simpa [uniq] using (uniq_go xs []).2.2
section
variable {s0 g1 : D} {o : Bool}
end
/-- standings of a kind of n standings -/
def within8 (n : Nat) (l : List Int) : Prop := ∀ s ∈ l, 0 ≤ s ∧ s < n
theorem ix_T {G : List (List Int)} {h : Int} (h0 : 0 ≤ h) (h1 : h < G.length) : fIx (driftsD G) (.int h) = some (iT (nxG G h)) := by
  obtain ⟨k, rfl⟩ := Int.eq_ofNat_of_zero_le h0
  have hk : k < G.length := by omega
  have e := List.getElem?_eq_getElem hk
  have : nxG G (k : Int) = G[k] := by unfold nxG; rw [Int.toNat_natCast, e]; rfl
  rw [this]
  exact fAt_enc iT_fzd e
theorem zipD_map2 {α β : Type} (e : α → D) (e2 : β → D) : ∀ (l : List α) (m : List β), zipD (l.map e) (m.map e2) = (l.zip m).map fun p => .tup [e p.1, e2 p.2]
  | [], m => by cases m <;> rfl
  | _ :: _, [] => rfl
  | x :: l, y :: m => by
    rw [List.map_cons, List.map_cons, zipD, List.zip_cons_cons, List.map_cons, zipD_map2 e e2 l m]
def goalsK (L : List (List (Int × Int))) (Dr : List (List Int)) : List (List Int) := (L.zip Dr).map fun p => p.1.map (·.2) ++ p.2
theorem kindD_fz {o : Bool} {n : Nat} {L : List (List (Int × Int))} {Dr : List (List Int)} {Pu : List (Int × List Int)} : (kindD o n L Dr Pu).fz = kindD false n L Dr Pu := by
  unfold kindD
  rw [D.fz, fzF, fzF, fzF, fzF, fzF, D.fz_of _ (looksD_fzd L), D.fz_of _ (driftsD_fzd Dr), D.fz_of _ (putsD_fzd Pu)]
  rfl
theorem kindD_fzd {n : Nat} {L : List (List (Int × Int))} {Dr : List (List Int)} {Pu : List (Int × List Int)} : (kindD false n L Dr Pu).fzd = true := by
  unfold kindD
  simp only [D.fzd, fzdF, looksD_fzd L, driftsD_fzd Dr, putsD_fzd Pu]
  rfl
section
variable {n : Nat} {L : List (List (Int × Int))} {Dr : List (List Int)} {Pu : List (Int × List Int)} {o : Bool}
theorem fld_looksK : fFldC "looks" ["Kind"] (kindD o n L Dr Pu) = some (looksD L) := by
  show (if (looksD L).fzd = true then some (looksD L) else none) = _
  rw [if_pos (looksD_fzd L)]
theorem fld_driftsK : fFldC "drifts" ["Kind"] (kindD o n L Dr Pu) = some (driftsD Dr) := by
  show (if (driftsD Dr).fzd = true then some (driftsD Dr) else none) = _
  rw [if_pos (driftsD_fzd Dr)]
theorem fld_putsK : fFldC "puts" ["Kind"] (kindD o n L Dr Pu) = some (putsD Pu) := by
  show (if (putsD Pu).fzd = true then some (putsD Pu) else none) = _
  rw [if_pos (putsD_fzd Pu)]
theorem fld_sizeK : fFldC "size" ["Kind"] (kindD o n L Dr Pu) = some (.int n) := rfl
theorem check_standing_ok {s : Int} (h0 : 0 ≤ s) (h1 : s < n) : f_check_standing [kindD o n L Dr Pu, .int s] = .ret .non [kindD false n L Dr Pu, .int s] := by
  have e := fld_sizeK (o := false) (n := n) (L := L) (Dr := Dr) (Pu := Pu)
  unfold f_check_standing
  refine run_go rfl ?_
  unfold b_check_standing
  simp only [vls_, setO_nil, setI_nil, isi_int_int, isi_int_bool, isi_tup, isi_lst, kindD_fz, e, is_below_ok h0 h1]
  exact outD_nx rfl
end
end Q

set_option linter.all false
set_option maxRecDepth 100000
set_option maxHeartbeats 4000000
namespace Q
open PySem PySem.Spec PyProof.Rows L2 VL GR
/-- the standings that come from s -/
def IsCl (G : List (List Int)) (s : Int) (S : List Int) : Prop := S.Pairwise (· < ·) ∧ ∀ t, t ∈ S ↔ Rc (nxG G) s t
theorem IsCl.uniq {G : List (List Int)} {s : Int} {S T : List Int} (h : IsCl G s S) (h2 : IsCl G s T) : S = T := up_ext h.1 h2.1 fun x => (h.2 x).trans (h2.2 x).symm
section
variable {n : Nat} {L : List (List (Int × Int))} {Dr : List (List Int)} {Pu : List (Int × List Int)} {o : Bool}
theorem goalsK_len (V : ValidK n L Dr Pu) : (goalsK L Dr).length = n := by
  have hL := V.ll; have hD := V.dl
  simp only [goalsK, List.length_map, List.length_zip]
  omega
theorem goalsK_in (V : ValidK n L Dr Pu) : ∀ g ∈ goalsK L Dr, within8 n g ∧ g.length ≤ 100 := fun g m => by
  obtain ⟨p, mp, rfl⟩ := List.mem_map.mp m
  have m1 := V.lr p.1 (List.of_mem_zip mp).1
  have m2 := V.dr p.2 (List.of_mem_zip mp).2
  have l2 := up_len m2.1 m2.2
  have h8 := V.n8
  refine ⟨fun s ms => ?_, by simp only [List.length_append, List.length_map]; omega⟩
  rcases List.mem_append.mp ms with ms | ms
  · obtain ⟨q, mq, rfl⟩ := List.mem_map.mp ms
    exact (m1.2.1 q mq).2
  · exact m2.1 s ms
theorem kind_at (V : ValidK n L Dr Pu) {h : Int} (h0 : 0 ≤ h) (h1 : h < n) : ∃ r d, L[h.toNat]? = some r ∧ Dr[h.toNat]? = some d ∧ fIx (looksD L) (.int h) = some (rowD r) ∧ fIx (driftsD Dr) (.int h) = some (iT d) ∧ nxG (goalsK L Dr) h = r.map (·.2) ++ d ∧ r ∈ L ∧ d ∈ Dr := by
  obtain ⟨k, rfl⟩ := Int.eq_ofNat_of_zero_le h0
  have hL : k < L.length := by have := V.ll; omega
  have hD : k < Dr.length := by have := V.dl; omega
  refine ⟨L[k], Dr[k], ?_, ?_, fAt_enc rowD_fzd (List.getElem?_eq_getElem hL), fAt_enc iT_fzd (List.getElem?_eq_getElem hD), ?_, List.getElem_mem hL, List.getElem_mem hD⟩
  · exact List.getElem?_eq_getElem hL
  · exact List.getElem?_eq_getElem hD
  · have e : (L.zip Dr)[k]? = some (L[k], Dr[k]) := by rw [List.getElem?_zip_eq_some]; exact ⟨List.getElem?_eq_getElem hL, List.getElem?_eq_getElem hD⟩
    unfold nxG goalsK
    rw [Int.toNat_natCast, List.getElem?_map, e]
    rfl
end
end Q

set_option linter.all false
set_option maxRecDepth 100000
set_option maxHeartbeats 4000000
namespace Q
open PySem PySem.Spec PyProof.Rows L2 VL GR
abbrev Pr := Int × Int
def rowAt (L : List (List Pr)) (s : Int) : List Pr := (L[s.toNat]?).getD []
section
variable {n : Nat} {L : List (List Pr)} {Dr : List (List Int)} {Pu : List (Int × List Int)} {o : Bool}
theorem dr_in (V : ValidK n L Dr Pu) : ∀ g ∈ Dr, within8 n g ∧ g.length ≤ 100 := fun g m => by
  have h := V.dr g m
  have h8 := V.n8
  have := up_len h.1 h.2
  exact ⟨h.1, by omega⟩
theorem rc_dr (V : ValidK n L Dr Pu) {s t : Int} (h : Rc (nxG Dr) s t) (b : 0 ≤ s ∧ s < n) : 0 ≤ t ∧ t < n := by
  induction h with
  | refl => exact b
  | step q mu ih =>
    obtain ⟨g, mg, mu⟩ := nxG_mem mu
    exact (dr_in V g mg).1 _ mu
theorem row_ix (V : ValidK n L Dr Pu) {x : Int} (b : 0 ≤ x ∧ x < n) : fIx (looksD L) (.int x) = some (rowD (rowAt L x)) ∧ (rowAt L x).length ≤ 4 ∧ rowAt L x ∈ L := by
  obtain ⟨r, d, h1, h2, h3, h4, h5, h6, h7⟩ := kind_at V b.1 b.2
  have : rowAt L x = r := by unfold rowAt; rw [h1]; rfl
  rw [this]
  exact ⟨h3, (V.lr r h6).1.2, h6⟩
end
theorem big1k {m : Nat} (h : m ≤ 1000) : m < big := by
  have : (1000 : Nat) < big := by decide
  omega
theorem fExtend_l {xs ys : List D} (hl : xs.length + ys.length < big) : fExtend (.lst true xs) [.lst true ys] = some (.non, .lst true (xs ++ ys)) := if_pos hl
section
variable {n : Nat} {L : List (List Pr)} {Dr : List (List Int)} {Pu : List (Int × List Int)} {o : Bool}
theorem rng_ok (h : n ≤ 100) : ∀ ρ, rng1 (.int n) ρ = .ok ((rng n).map .int) ρ := fun ρ => by
  have := rng1_ok (ρ := ρ) (show (n : Int).natAbs < 1000000000 by omega)
  rwa [show (n : Int).toNat = n by omega, upTo_rng] at this
theorem cl_len (V : ValidK n L Dr Pu) {s : Int} {S : List Int} (b : 0 ≤ s ∧ s < n) (h : IsCl (goalsK L Dr) s S) : (∀ x ∈ S, 0 ≤ x ∧ x < n) ∧ S.length ≤ 8 := by
  have key : ∀ x ∈ S, 0 ≤ x ∧ x < n := fun x m => by
    have r := (h.2 x).mp m
    clear m
    induction r with
    | refl => exact b
    | step q mu ih =>
      obtain ⟨g, mg, mu⟩ := nxG_mem mu
      exact (goalsK_in V g mg).1 _ mu
  have := up_len key h.1
  have := V.n8
  exact ⟨key, by omega⟩
theorem dr_goals (V : ValidK n L Dr Pu) {s t : Int} (b : 0 ≤ s ∧ s < n) (h : Rc (nxG Dr) s t) : Rc (nxG (goalsK L Dr)) s t := by
  induction h with
  | refl => exact .refl
  | @step x y q mu ih =>
    have bt := rc_dr V q b
    obtain ⟨r, d, h1, h2, h3, h4, h5, h6, h7⟩ := kind_at V bt.1 bt.2
    refine .step ih ?_
    rw [h5]
    have : nxG Dr x = d := by unfold nxG; rw [h2]; rfl
    rw [this] at mu
    exact List.mem_append_right _ mu
theorem look_goals (V : ValidK n L Dr Pu) {s : Int} {a : Pr} (b : 0 ≤ s ∧ s < n) (h : a ∈ rowAt L s) : a.2 ∈ nxG (goalsK L Dr) s := by
  obtain ⟨r, d, h1, h2, h3, h4, h5, h6, h7⟩ := kind_at V b.1 b.2
  have : rowAt L s = r := by unfold rowAt; rw [h1]; rfl
  rw [this] at h
  rw [h5]
  exact List.mem_append_left _ (List.mem_map.mpr ⟨a, h, rfl⟩)
end
end Q

set_option linter.all false
set_option maxRecDepth 100000
set_option maxHeartbeats 4000000
namespace Q
open PySem PySem.Spec PyProof.Rows L2 VL GR
structure Sr (L : List (List Pr)) (Dr : List (List Int)) : Prop where
  one : ∀ r ∈ L, r.length = 1
  none : ∀ d ∈ Dr, d = []
def an (L : List (List Pr)) (s : Int) : Int := ((rowAt L s).headD (0, 0)).1
def nx (L : List (List Pr)) (s : Int) : Int := ((rowAt L s).headD (0, 0)).2
def it (L : List (List Pr)) : Nat → Int → Int
  | 0, s => s
  | k + 1, s => it L k (nx L s)
section
variable {L : List (List Pr)}
theorem it_add (i : Nat) : ∀ (j : Nat) (s : Int), it L (i + j) s = it L i (it L j s)
  | 0, s => rfl
  | j + 1, s => it_add i j (nx L s)
theorem it_succ (i : Nat) (s : Int) : it L (i + 1) s = nx L (it L i s) := by
  rw [Nat.add_comm, it_add]
  rfl
end
section
variable {n : Nat} {L : List (List Pr)} {Dr : List (List Int)} {Pu : List (Int × List Int)} {o : Bool} {u v s t : Int}
theorem sr_row (V : ValidK n L Dr Pu) (S : Sr L Dr) (b : 0 ≤ s ∧ s < (n : Int)) : rowAt L s = [(an L s, nx L s)] := by
  have h := S.one _ (row_ix V b).2.2
  unfold an nx
  cases e : rowAt L s with
  | nil => rw [e] at h; cases h
  | cons x l =>
    rw [e] at h
    have : l = [] := List.eq_nil_of_length_eq_zero (by simpa using h)
    rw [this]
    rfl
theorem nx_in (V : ValidK n L Dr Pu) (S : Sr L Dr) (b : 0 ≤ s ∧ s < (n : Int)) : 0 ≤ nx L s ∧ nx L s < (n : Int) := by
  have m : (an L s, nx L s) ∈ rowAt L s := by rw [sr_row V S b]; exact List.mem_singleton.mpr rfl
  exact ((V.lr _ (row_ix V b).2.2).2.1 _ m).2
theorem it_in (V : ValidK n L Dr Pu) (S : Sr L Dr) : ∀ (k : Nat) (s : Int), 0 ≤ s ∧ s < (n : Int) → 0 ≤ it L k s ∧ it L k s < (n : Int)
  | 0, _, b => b
  | k + 1, s, b => it_in V S k _ (nx_in V S b)
theorem sr_dr (V : ValidK n L Dr Pu) (S : Sr L Dr) (b : 0 ≤ s ∧ s < (n : Int)) : nxG Dr s = [] := by
  obtain ⟨r, d, _, h2, _, _, _, _, h7⟩ := kind_at V b.1 b.2
  have ed : nxG Dr s = d := by unfold nxG; rw [h2]; rfl
  rw [ed]
  exact S.none d h7
end
end Q

set_option linter.all false
set_option maxRecDepth 100000
set_option maxHeartbeats 4000000
namespace Q
open PySem PySem.Spec PyProof.Rows L2 VL GR
theorem ix_end {α : Type} {e : α → D} (h : ∀ x, (e x).fzd = true) {o : Bool} {l : List α} {x : α} : fIx (.lst o ((l ++ [x]).map e)) (.int (-1)) = some (e x) := by
  show fAt ((l ++ [x]).map e) (-1) = _
  have e1 : ixN ((l ++ [x]).map e).length (-1) = some l.length := by
    unfold ixN
    rw [if_neg (by decide)]
    rw [if_pos (by simp only [List.length_map, List.length_append, List.length_singleton]; omega)]
    simp only [List.length_map, List.length_append, List.length_singleton]
    congr 1
    omega
  unfold fAt atI
  rw [e1]
  simp only [Option.bind_some, List.map_append, List.map_cons, List.map_nil]
  rw [List.getElem?_append_right (by simp)]
  simp [h x]
section
variable {n : Nat} {L : List (List Pr)} {Dr : List (List Int)} {Pu : List (Int × List Int)} {o : Bool} {u v s t : Int}
theorem sure_ok (V : ValidK n L Dr Pu) (S : Sr L Dr) : f_sure [kindD o n L Dr Pu] = .ret (.bl true) [kindD false n L Dr Pu] := by
  have e1 := fld_looksK (o := false) (n := n) (L := L) (Dr := Dr) (Pu := Pu)
  have e2 := fld_driftsK (o := false) (n := n) (L := L) (Dr := Dr) (Pu := Pu)
  have n8 := V.n8
  have lL : (L.map rowD).length < big := by rw [List.length_map, V.ll]; exact big1k (by omega)
  have lD : (Dr.map iT).length < big := by rw [List.length_map, V.dl]; exact big1k (by omega)
  have s1 : seqOf (looksD L) = some (L.map rowD) := by show some (fzL _) = _; rw [fzL_enc rowD_fzd]
  have s2 : seqOf (driftsD Dr) = some (Dr.map iT) := by show some (fzL _) = _; rw [fzL_enc iT_fzd]
  have c1 := lcGo_mapE (t := q1t_sure) (c := tYesM) (e := q1e_sure) (own := [1]) (ρ := [some (kindD false n L Dr Pu), none, none]) (enc := rowD) (F := fun _ => .bl true) (xs := L) fun r m => by
    have ln : fLen [rowD r] = some (.int 1) := by
      show some (D.int ((r.map oD).length : Int)) = _
      rw [List.length_map, S.one r m]
      rfl
    have fe : fEq (.int 1) (.int 1) = some (.bl true) := rfl
    unfold lcTurn q1t_sure q1e_sure
    simp only [vls_, setO_nil, setI_nil, isi_int_int, isi_int_bool, isi_tup, isi_lst, ln, fe, -fLen_t]
  have c2 := lcGo_mapE (t := q2t_sure) (c := tYesM) (e := q2e_sure) (own := [2]) (ρ := [some (kindD false n L Dr Pu), none, none]) (enc := iT) (F := fun _ => .bl true) (xs := Dr) fun r m => by
    have ln : fLen [iT r] = some (.int 0) := by rw [S.none r m]; rfl
    have fe : fEq (.int 0) (.int 0) = some (.bl true) := rfl
    unfold lcTurn q2t_sure q2e_sure
    simp only [vls_, setO_nil, setI_nil, isi_int_int, isi_int_bool, isi_tup, isi_lst, ln, fe, -fLen_t]
  have a1 := all_true L
  have a2 := all_true Dr
  unfold f_sure
  refine run_go rfl ?_
  unfold b_sure
  simp only [vls_, setO_nil, setI_nil, isi_int_int, isi_int_bool, isi_tup, isi_lst, kindD_fz, e1, e2, s1, s2, lL, lD, c1, c2, a1, a2, -fAll_l, -seqOf_t]
  exact outD_rt rfl
theorem check_sure_ok (V : ValidK n L Dr Pu) (S : Sr L Dr) : f_check_sure [kindD o n L Dr Pu] = .ret .non [kindD false n L Dr Pu] := by
  have e := sure_ok (o := false) V S
  have z := kindD_fzd (n := n) (L := L) (Dr := Dr) (Pu := Pu)
  unfold f_check_sure
  refine run_go rfl ?_
  unfold b_check_sure
  simp only [vls_, setO_nil, setI_nil, isi_int_int, isi_int_bool, isi_tup, isi_lst, kindD_fz, z, e]
  exact outD_nx rfl
theorem only_goal_ok (V : ValidK n L Dr Pu) (S : Sr L Dr) (b : 0 ≤ s ∧ s < (n : Int)) : f_only_goal [kindD o n L Dr Pu, .int s] = .ret (.int (nx L s)) [kindD false n L Dr Pu, .int s] := by
  have e1 := fld_looksK (o := false) (n := n) (L := L) (Dr := Dr) (Pu := Pu)
  have ix := (row_ix V b).1
  rw [sr_row V S b] at ix
  have i0 : fIx (rowD [(an L s, nx L s)]) (.int 0) = some (oD (an L s, nx L s)) := rfl
  have i1 : fIx (oD (an L s, nx L s)) (.int 1) = some (.int (nx L s)) := rfl
  unfold f_only_goal
  refine run_go rfl ?_
  unfold b_only_goal
  simp only [vls_, setO_nil, setI_nil, isi_int_int, isi_int_bool, isi_tup, isi_lst, kindD_fz, e1, ix, i0, i1]
  exact outD_rt rfl
def tr (L : List (List Pr)) (s : Int) (m : Nat) : List Int := (List.range (m + 1)).map fun i => it L i s
theorem tr_succ (m : Nat) : tr L s (m + 1) = tr L s m ++ [it L (m + 1) s] := by
  unfold tr
  rw [List.range_succ, List.map_append]
  rfl
theorem tr_end (m : Nat) : ∃ l, tr L s m = l ++ [it L m s] := ⟨(List.range m).map fun i => it L i s, by
  unfold tr
  rw [List.range_succ, List.map_append]
  rfl⟩
theorem tr_ix (m : Nat) {o : Bool} : fIx (.lst o ((tr L s m).map .int)) (.int (-1)) = some (.int (it L m s)) := by
  obtain ⟨l, e⟩ := tr_end (L := L) (s := s) m
  rw [e]
  exact ix_end (e := D.int) (fun _ => rfl)
theorem tr_len (m : Nat) : (tr L s m).length = m + 1 := by simp [tr]
theorem tr_in (V : ValidK n L Dr Pu) (S : Sr L Dr) (b : 0 ≤ s ∧ s < (n : Int)) (m : Nat) : ∀ x ∈ tr L s m, 0 ≤ x ∧ x < (n : Int) := fun x mx => by
  obtain ⟨i, _, rfl⟩ := List.mem_map.mp mx
  exact it_in V S i s b
theorem neg_one : fNeg (.int 1) = some (.int (-1)) := rfl
theorem trail_ok (V : ValidK n L Dr Pu) (S : Sr L Dr) (b : 0 ≤ s ∧ s < (n : Int)) : ∃ m, f_trail_from [kindD o n L Dr Pu, .int s] = .ret (.lst true ((tr L s m).map .int)) [kindD false n L Dr Pu, .int s] ∧ m < n ∧ it L (m + 1) s ∈ tr L s m ∧ (tr L s m).Nodup := by
  have n8 := V.n8
  have z := kindD_fzd (n := n) (L := L) (Dr := Dr) (Pu := Pu)
  have small : ∀ m, (tr L s m).Nodup → m < n := fun m nd => by
    have := nodup_len nd (U := rng n) fun x mx => rng_mem.mpr (tr_in V S b m x mx)
    rw [rng_len, tr_len] at this
    omega
  have cond : ∀ m, (tVal (gOp2 (fIn true) (oEx (gCall f_only_goal (aCons (oVar 0) (aCons (oEx (gOp2 fIx (oVar 2) (oEx (gOp1 fNeg (oEx (gC (.int 1))))))) (aNil))))) (oVar 2)) : M Bool) [some (kindD false n L Dr Pu), some (.int s), some (.lst true ((tr L s m).map .int))] = .ok (!decide (it L (m + 1) s ∈ tr L s m)) [some (kindD false n L Dr Pu), some (.int s), some (.lst true ((tr L s m).map .int))] := fun m => by
    have e := only_goal_ok (o := false) V S (it_in V S m s b)
    rw [← it_succ] at e
    have ti := tr_ix (L := L) (s := s) m (o := true)
    have fi := Ty.int.inLst (by decide) (n := true) (o := true) (x := it L (m + 1) s) (l := tr L s m)
    rw [if_pos rfl] at fi
    generalize (tr L s m).map D.int = xs at *
    simp only [vls_, setO_nil, setI_nil, isi_int_int, isi_int_bool, isi_tup, isi_lst, z, neg_one, ti, e, fi]
  obtain ⟨k, ρ, e1, ⟨m, e2, nd, hk⟩, e3⟩ := while_rel (fg := []) (body := l1_trail_from) (c := tVal (gOp2 (fIn true) (oEx (gCall f_only_goal (aCons (oVar 0) (aCons (oEx (gOp2 fIx (oVar 2) (oEx (gOp1 fNeg (oEx (gC (.int 1))))))) (aNil))))) (oVar 2))) (n := fuel_trail_from)
    (P := fun k ρ => ∃ m, ρ = [some (kindD false n L Dr Pu), some (.int s), some (.lst true ((tr L s m).map .int))] ∧ (tr L s m).Nodup ∧ k = n - m) (fun k ρ ⟨m, e, nd, hk⟩ => by
      subst e
      have hm := small m nd
      rw [cond m]
      by_cases c : it L (m + 1) s ∈ tr L s m
      · exact .inl (by rw [decide_eq_true c]; rfl)
      · refine .inr ⟨by rw [decide_eq_false c]; rfl, ?_⟩
        have nd2 : (tr L s (m + 1)).Nodup := by
          rw [tr_succ]
          refine List.nodup_append.mpr ⟨nd, by simp, fun x mx y my e => ?_⟩
          rw [List.mem_singleton.mp my] at e
          rw [e] at mx
          exact c mx
        have hm2 := small (m + 1) nd2
        refine ⟨_, n - (m + 1), by omega, ?_, m + 1, rfl, nd2, rfl⟩
        have e := only_goal_ok (o := false) V S (it_in V S m s b)
        rw [← it_succ] at e
        have ti := tr_ix (L := L) (s := s) m (o := true)
        have ap : fAppend (.lst true ((tr L s m).map .int)) [.int (it L (m + 1) s)] = some (.non, .lst true ((tr L s (m + 1)).map .int)) := by
          rw [fAppend_l (by rw [List.length_map, tr_len]; exact big1k (by omega)), tr_succ, List.map_append]
          rfl
        generalize (tr L s m).map D.int = xs at *
        generalize (tr L s (m + 1)).map D.int = ys at *
        unfold l1_trail_from
        simp only [vls_, setO_nil, setI_nil, isi_int_int, isi_int_bool, isi_tup, isi_lst, z, neg_one, ti, e, ap]) (m := n) (ρ := [some (kindD false n L Dr Pu), some (.int s), some (.lst true ((tr L s 0).map .int))]) (show n < 1000 by omega) ⟨0, rfl, by simp [tr], rfl⟩
  subst e2
  rw [cond m] at e3
  have hin : it L (m + 1) s ∈ tr L s m := by
    simp only [Ev.ok.injEq, Bool.not_eq_false', decide_eq_true_eq, and_true] at e3
    exact e3
  refine ⟨m, ?_, small m nd, hin, nd⟩
  have t0 : (tr L s 0).map D.int = [.int s] := rfl
  rw [t0] at e1
  generalize (tr L s m).map D.int = xs at *
  unfold f_trail_from
  refine run_go rfl ?_
  unfold b_trail_from
  simp only [vls_, setO_nil, setI_nil, isi_int_int, isi_int_bool, isi_tup, isi_lst, kindD_fz, z, e1, show ((0 + 1 : Nat) < big) from by decide]
  exact outD_rt rfl
theorem round_begin_ok (V : ValidK n L Dr Pu) (S : Sr L Dr) (b : 0 ≤ s ∧ s < (n : Int)) {m : Nat} (h : it L (m + 1) s ∈ tr L s m) : ∃ k, f_round_begin [kindD o n L Dr Pu, .lst true ((tr L s m).map .int)] = .ret (.int (k : Nat)) [kindD false n L Dr Pu, .lst true ((tr L s m).map .int)] ∧ k ≤ m ∧ it L k s = it L (m + 1) s := by
  have z := kindD_fzd (n := n) (L := L) (Dr := Dr) (Pu := Pu)
  have ex : ∃ k, (tr L s m).findIdx? (fun j => j == it L (m + 1) s) = some k := by
    cases e : (tr L s m).findIdx? (fun j => j == it L (m + 1) s) with
    | some k => exact ⟨k, rfl⟩
    | none =>
      rw [List.findIdx?_eq_none_iff] at e
      have := e _ h
      simp at this
  obtain ⟨k, ek⟩ := ex
  obtain ⟨lk, hk, _⟩ := List.findIdx?_eq_some_iff_getElem.mp ek
  rw [tr_len] at lk
  refine ⟨k, ?_, by omega, ?_⟩
  · have e := only_goal_ok (o := false) V S (it_in V S m s b)
    rw [← it_succ] at e
    have ti := tr_ix (L := L) (s := s) m (o := true)
    have fi : fIndex (.lst true ((tr L s m).map .int)) [.int (it L (m + 1) s)] = some (.int (k : Nat), .lst true ((tr L s m).map .int)) := by
      show (match intsOf ((tr L s m).map .int) with
        | some ns => (match ns.findIdx? (fun j => j == it L (m + 1) s) with
          | some k => some (D.int (k : Nat), D.lst true ((tr L s m).map .int))
          | none => none)
        | none => none) = _
      rw [intsOf_map]
      simp only [ek]
    generalize (tr L s m).map D.int = xs at *
    unfold f_round_begin
    refine run_go rfl ?_
    unfold b_round_begin
    simp only [vls_, setO_nil, setI_nil, isi_int_int, isi_int_bool, isi_tup, isi_lst, kindD_fz, z, neg_one, ti, e, fi]
    exact outD_rt rfl
  · have : (tr L s m)[k]'(by rw [tr_len]; omega) = it L k s := by simp [tr]
    have hk2 := hk
    simp only [beq_iff_eq] at hk2
    rw [← hk2, this]
end
end Q

set_option linter.all false
set_option maxRecDepth 100000
set_option maxHeartbeats 4000000
namespace Q
open PySem PySem.Spec PyProof.Rows L2 VL GR
/-! ### rows that go round -/
def Per (x : Nat → Int) (d : Nat) : Prop := ∀ i, x (i + d) = x i
theorem Per.mul {x : Nat → Int} {d : Nat} (h : Per x d) : ∀ k i, x (i + k * d) = x i
  | 0, i => by simp
  | k + 1, i => by
    rw [Nat.succ_mul, ← Nat.add_assoc, h, Per.mul h k]
theorem Per.mod {x : Nat → Int} {d : Nat} (h : Per x d) (i : Nat) : x i = x (i % d) := by
  have := h.mul (i / d) (i % d)
  rw [← this]
  congr 1
  have := Nat.div_add_mod i d
  rw [Nat.mul_comm] at this
  omega
theorem Per.sub {x : Nat → Int} {p q : Nat} (hp : Per x p) (hq : Per x q) (hpq : q ≤ p) : Per x (p - q) := fun i => by
  have h1 := hq (i + (p - q))
  have e : i + (p - q) + q = i + p := by omega
  rw [e, hp] at h1
  exact h1.symm
theorem Per.rem {x : Nat → Int} {p q : Nat} (hp : Per x p) (hq : Per x q) : Per x (p % q) := fun i => by
  have h1 := hq.mul (p / q) (i + p % q)
  have e : i + p % q + p / q * q = i + p := by
    have := Nat.div_add_mod p q
    rw [Nat.mul_comm] at this
    omega
  rw [e, hp] at h1
  exact h1.symm
structure LP (x : Nat → Int) (π : Nat) : Prop where
  pos : 1 ≤ π
  per : Per x π
  le : ∀ d, 1 ≤ d → Per x d → π ≤ d
theorem LP.dvd {x : Nat → Int} {π p : Nat} (h : LP x π) (hp : Per x p) : π ∣ p := by
  have r := hp.rem h.per
  by_cases c : p % π = 0
  · exact Nat.dvd_of_mod_eq_zero c
  · have := h.le (p % π) (by omega) r
    have := Nat.mod_lt p (show 0 < π by have := h.pos; omega)
    omega
theorem LP.uniq {x : Nat → Int} {p q : Nat} (h : LP x p) (k : LP x q) : p = q := Nat.le_antisymm (h.le q k.pos k.per) (k.le p h.pos h.per)
def win (x : Nat → Int) (π at_ : Nat) : List Int := (List.range π).map fun i => x (at_ + i)
theorem win_len (x : Nat → Int) (π a : Nat) : (win x π a).length = π := by simp [win]
theorem win_mod {x : Nat → Int} {π : Nat} (h : Per x π) (a : Nat) : win x π a = win x π (a % π) := by
  unfold win
  apply List.map_congr_left
  intro i _
  rw [h.mod (a + i), h.mod (a % π + i)]
  exact congrArg x (Nat.mod_add_mod a π i).symm
theorem win_eq {x y : Nat → Int} {π a b : Nat} (h : ∀ m, x (a + m) = y (b + m)) : win x π a = win y π b := by
  unfold win
  exact List.map_congr_left fun i _ => h i
/-- c is the least turn of the least part of x -/
structure Canon (x : Nat → Int) (c : List Int) : Prop where
  ex : ∃ π, LP x π ∧ (∃ a, c = win x π a) ∧ ∀ a, PySem.W.dataLt (VC.datT (win x π a)) (VC.datT c) = false
theorem per_back {y : Nat → Int} {q d c : Nat} (hq : 1 ≤ q) (h : Per y q) (hd : ∀ m, y (c + m + d) = y (c + m)) : Per y d := fun i => by
  have h1 := h.mul c (i + d)
  have h2 := h.mul c i
  have e : c ≤ c * q := Nat.le_mul_of_pos_right c (by omega)
  have h3 := hd (i + c * q - c)
  have e1 : c + (i + c * q - c) = i + c * q := by omega
  rw [e1] at h3
  rw [← h1, ← h2, ← h3]
  congr 1
  omega
theorem lp_same {x y : Nat → Int} {p q π c1 c2 : Nat} (hp : 1 ≤ p) (hx : Per x p) (hq : 1 ≤ q) (hy : Per y q) (h : ∀ m, x (c1 + m) = y (c2 + m)) (l : LP x π) : LP y π := by
  have key : ∀ (x y : Nat → Int) (p q c1 c2 d : Nat), 1 ≤ q → Per y q → (∀ m, x (c1 + m) = y (c2 + m)) → Per x d → Per y d := fun x y p q c1 c2 d hq hy h hd =>
    per_back (c := c2) hq hy fun m => by
      have h1 := h (m + d)
      have h2 := h m
      have h3 := hd (c1 + m)
      rw [← Nat.add_assoc, ← Nat.add_assoc] at h1
      rw [← h1, h3, h2]
  exact ⟨l.pos, key x y p q c1 c2 π hq hy h l.per, fun d d1 hd => l.le d d1 (key y x q p c2 c1 d hp hx (fun m => (h m).symm) hd)⟩
/-- where the one row stands, the other one does, too -/
theorem win_there {x y : Nat → Int} {π c1 c2 : Nat} (l : LP x π) (h : ∀ m, x (c1 + m) = y (c2 + m)) (a : Nat) : ∃ b, win x π a = win y π b := by
  have e : c1 ≤ c1 * π := Nat.le_mul_of_pos_right c1 l.pos
  refine ⟨c2 + (a + c1 * π - c1), ?_⟩
  have h0 : win x π a = win x π (a + c1 * π) := by
    rw [win_mod l.per a, win_mod l.per (a + c1 * π)]
    congr 1
    rw [Nat.add_mul_mod_self_right]
  rw [h0]
  refine win_eq fun m => ?_
  have := h (a + c1 * π - c1 + m)
  rw [← Nat.add_assoc, ← Nat.add_assoc] at this
  have e1 : c1 + (a + c1 * π - c1) = a + c1 * π := by omega
  rw [e1] at this
  exact this
theorem canon_eq {x y : Nat → Int} {c c' : List Int} {p q c1 c2 : Nat} (hx : Canon x c) (hy : Canon y c') (hp : 1 ≤ p) (px : Per x p) (hq : 1 ≤ q) (py : Per y q) (h : ∀ m, x (c1 + m) = y (c2 + m)) : c = c' := by
  obtain ⟨π, l, ⟨a, ea⟩, ma⟩ := hx.ex
  obtain ⟨π', l', ⟨b, eb⟩, mb⟩ := hy.ex
  have := (lp_same hp px hq py h l).uniq l'
  subst this
  obtain ⟨b', e1⟩ := win_there l h a
  obtain ⟨a', e2⟩ := win_there l' (fun m => (h m).symm) b
  refine o_eq ?_ ?_
  · have := mb b'
    rw [← e1, ← ea] at this
    exact this
  · have := ma a'
    rw [← e2, ← eb] at this
    exact this
theorem canon_agree {x y : Nat → Int} {c : List Int} (hx : Canon x c) (hy : Canon y c) : ∃ c1 c2, ∀ m, x (c1 + m) = y (c2 + m) := by
  obtain ⟨π, l, ⟨a, ea⟩, _⟩ := hx.ex
  obtain ⟨π', l', ⟨b, eb⟩, _⟩ := hy.ex
  have e : π = π' := by
    have h1 := win_len x π a
    have h2 := win_len y π' b
    rw [← ea] at h1
    rw [← eb] at h2
    omega
  subst e
  refine ⟨a, b, fun m => ?_⟩
  have ew : win x π a = win y π b := by rw [← ea, ← eb]
  have at_ : ∀ i, i < π → x (a + i) = y (b + i) := fun i hi => by
    have h1 := congrArg (fun l => l[i]?) ew
    simp only [win, List.getElem?_map, List.getElem?_range hi, Option.map_some, Option.some.injEq] at h1
    exact h1
  have p1 := l.per.mul (m / π) (a + m % π)
  have p2 := l'.per.mul (m / π) (b + m % π)
  have e := Nat.div_add_mod m π
  rw [Nat.mul_comm] at e
  have e1 : a + m % π + m / π * π = a + m := by omega
  have e2 : b + m % π + m / π * π = b + m := by omega
  rw [e1] at p1
  rw [e2] at p2
  rw [p1, p2]
  exact at_ _ (Nat.mod_lt _ (by have := l.pos; omega))
/-- two rows with short ways in and short rounds that are long the same are the same -/
theorem long_same {x y : Nat → Int} {n a p b q : Nat} (hp : 1 ≤ p) (hq : 1 ≤ q) (l1 : a + p ≤ n) (l2 : b + q ≤ n) (hx : ∀ m, a ≤ m → x (m + p) = x m) (hy : ∀ m, b ≤ m → y (m + q) = y m) (h : ∀ m, m < 2 * n → x m = y m) : ∀ m, x m = y m := fun m => by
  induction m using Nat.strongRecOn with
  | ind m ih =>
    by_cases c : m < 2 * n
    · exact h m c
    · have x1 := hx (m - p) (by omega)
      have x2 := hx (m - q - p) (by omega)
      have y1 := hy (m - p - q) (by omega)
      have y2 := hy (m - q) (by omega)
      have e1 : m - p + p = m := by omega
      have e2 : m - q - p + p = m - q := by omega
      have e3 : m - p - q + q = m - p := by omega
      have e4 : m - q + q = m := by omega
      have e5 : m - p - q = m - q - p := by omega
      rw [e1] at x1
      rw [e2] at x2
      rw [e3] at y1
      rw [e4] at y2
      rw [x1, ih (m - p) (by omega), y1, ← ih (m - p - q) (by omega), e5, ← x2, ih (m - q) (by omega), ← y2]
end Q

set_option linter.all false
set_option maxRecDepth 100000
set_option maxHeartbeats 4000000
namespace Q
open PySem PySem.Spec PyProof.Rows L2 VL GR
def rg (a b : Int) : List Int := (List.range (b - a).toNat).map fun (k : Nat) => a + (k : Int)
theorem upTo_rg (a b : Int) : VL.upTo a (b - a).toNat = (rg a b).map .int := by
  unfold VL.upTo rg
  rw [List.map_map]
  rfl
theorem rg_mem {a b x : Int} : x ∈ rg a b ↔ a ≤ x ∧ x < b := by
  unfold rg
  rw [List.mem_map]
  constructor
  · rintro ⟨k, hk, rfl⟩
    rw [List.mem_range] at hk
    omega
  · intro h
    exact ⟨(x - a).toNat, by rw [List.mem_range]; omega, by omega⟩
theorem rg_len (a b : Int) : (rg a b).length = (b - a).toNat := by simp [rg]
theorem win_app (x : Nat → Int) (a b c : Nat) : win x (a + b) c = win x a c ++ win x b (c + a) := by
  unfold win
  rw [List.range_add, List.map_append, List.map_map]
  congr 1
  apply List.map_congr_left
  intro i _
  show x (c + (a + i)) = x (c + a + i)
  rw [Nat.add_assoc]
theorem win_ix (x : Nat → Int) {p a i : Nat} (h : i < p) : (win x p a)[i]? = some (x (a + i)) := by
  unfold win
  rw [List.getElem?_map, List.getElem?_range h]
  rfl
theorem win_take (x : Nat → Int) {d p : Nat} (h : d ≤ p) (a : Nat) : (win x p a).take d = win x d a := by
  have e : p = d + (p - d) := by omega
  rw [e, win_app, List.take_left' (win_len x d a)]
theorem win_drop (x : Nat → Int) {d p : Nat} (h : d ≤ p) (a : Nat) : (win x p a).drop d = win x (p - d) (a + d) := by
  have e : p = d + (p - d) := by omega
  rw [e, win_app, List.drop_left' (win_len x d a)]
  congr 1
  omega
theorem win_turn {x : Nat → Int} {π a : Nat} (h : Per x π) (ha : a ≤ π) : (win x π 0).drop a ++ (win x π 0).take a = win x π a := by
  rw [win_take x ha, win_drop x ha, Nat.zero_add]
  have e : π = (π - a) + a := by omega
  have h2 : win x π a = win x (π - a) a ++ win x a (a + (π - a)) := by
    rw [← win_app, ← e]
  rw [h2]
  congr 1
  have e2 : a + (π - a) = π := by omega
  rw [e2]
  exact win_eq fun m => by
    rw [Nat.zero_add, Nat.add_comm π m]
    exact (h m).symm
theorem rep_ix {α : Type} {l : List α} (h : 0 < l.length) : ∀ (k j : Nat), j < k * l.length → (List.replicate k l).flatten[j]? = l[j % l.length]?
  | 0, j, hj => by omega
  | k + 1, j, hj => by
    rw [List.replicate_succ, List.flatten_cons]
    by_cases c : j < l.length
    · rw [List.getElem?_append_left c, Nat.mod_eq_of_lt c]
    · rw [List.getElem?_append_right (by omega), rep_ix h k (j - l.length) (by rw [Nat.succ_mul] at hj; omega), ← Nat.mod_eq_sub_mod (by omega)]
theorem rep_win {x : Nat → Int} {d : Nat} (h : Per x d) : ∀ k : Nat, (List.replicate k (win x d 0)).flatten = win x (k * d) 0
  | 0 => by simp [win]
  | k + 1 => by
    rw [List.replicate_succ, List.flatten_cons, rep_win h k, Nat.succ_mul, Nat.add_comm, win_app]
    congr 1
    exact win_eq fun m => by rw [Nat.zero_add, Nat.zero_add, Nat.add_comm d m]; exact (h m).symm
theorem rep_iff {x : Nat → Int} {p d : Nat} (hp : Per x p) (h1 : 1 ≤ d) (h2 : d ≤ p) : (List.replicate (p / d) ((win x p 0).take d)).flatten = win x p 0 ↔ d ∣ p ∧ Per x d := by
  rw [win_take x h2]
  constructor
  · intro e
    have l := congrArg List.length e
    have l2 : ∀ k : Nat, (List.replicate k (win x d 0)).flatten.length = k * d := fun k => by
      induction k with
      | zero => simp
      | succ k ih => rw [List.replicate_succ, List.flatten_cons, List.length_append, ih, win_len, Nat.succ_mul]; omega
    rw [l2, win_len] at l
    have dv : d ∣ p := ⟨p / d, by rw [Nat.mul_comm]; exact l.symm⟩
    refine ⟨dv, fun i => ?_⟩
    have key : ∀ j, j < p → x j = x (j % d) := fun j hj => by
      have h3 : (List.replicate (p / d) (win x d 0)).flatten[j]? = (win x p 0)[j]? := by rw [e]
      rw [rep_ix (by rw [win_len]; omega) _ _ (by rw [win_len, l]; exact hj), win_len, win_ix x (Nat.mod_lt _ (by omega)), win_ix x hj, Nat.zero_add, Nat.zero_add] at h3
      exact (Option.some.inj h3).symm
    have all : ∀ i, x i = x (i % d) := fun i => by
      rw [hp.mod i, key _ (Nat.mod_lt _ (by omega)), Nat.mod_mod_of_dvd _ dv]
    rw [all (i + d), Nat.add_mod_right, ← all i]
  · rintro ⟨dv, h⟩
    rw [rep_win h, Nat.div_mul_cancel dv]
theorem lp_ex {x : Nat → Int} : ∀ p : Nat, 1 ≤ p → Per x p → ∃ π, LP x π := fun p => by
  induction p using Nat.strongRecOn with
  | ind p ih =>
    intro h1 h
    by_cases c : ∃ d, d < p ∧ 1 ≤ d ∧ Per x d
    · obtain ⟨d, h2, h3, h4⟩ := c
      exact ih d h2 h3 h4
    · exact ⟨p, h1, h, fun d h3 h4 => Nat.le_of_not_lt fun h2 => c ⟨d, h2, h3, h4⟩⟩
theorem first_filter {α : Type} {P : α → Bool} : ∀ {l : List α} {x : α} {r : List α}, l.filter P = x :: r → ∃ a b, l = a ++ x :: b ∧ P x = true ∧ ∀ y ∈ a, P y = false
  | [], _, _, h => by cases h
  | y :: l, x, r, h => by
    rw [List.filter_cons] at h
    by_cases c : P y = true
    · rw [if_pos c] at h
      injection h with h1 h2
      subst h1
      exact ⟨[], l, rfl, c, fun _ m => nomatch m⟩
    · rw [if_neg c] at h
      obtain ⟨a, b, e, p, n⟩ := first_filter h
      refine ⟨y :: a, b, by rw [e]; rfl, p, fun z m => ?_⟩
      rcases List.mem_cons.mp m with rfl | m
      · simpa using c
      · exact n z m
theorem lcGo_filt {α : Type} {t : D → S} {c : M Bool} {e : M D} {own : List Nat} {ρ : VL.Env} {enc F : α → D} {P : α → Bool} : ∀ xs : List α, (∀ x ∈ xs, lcTurn t c e own (enc x) ρ = .ok (if P x = true then some (F x) else none) ρ) → lcGo t c e own (xs.map enc) ρ = .ok ((xs.filter P).map F) ρ
  | [], _ => rfl
  | x :: xs, h => by
    have ih := lcGo_filt (t := t) (c := c) (e := e) (own := own) (ρ := ρ) (enc := enc) (F := F) (P := P) xs fun y m => h y (List.mem_cons_of_mem _ m)
    have h1 := h x List.mem_cons_self
    rw [List.map_cons, List.filter_cons]
    by_cases k : P x = true
    · rw [if_pos k] at h1 ⊢
      exact lcGo_cons h1 ih
    · rw [if_neg k] at h1 ⊢
      exact lcGo_cons h1 ih
theorem cut_take {xs : List D} {k : Nat} (h : k ≤ xs.length) : VL.cutD xs none (some (k : Int)) = xs.take k := by
  unfold VL.cutD
  have e0 : HT.sIx xs.length 0 none = 0 := rfl
  have e1 : HT.sIx xs.length xs.length (some (k : Int)) = k := by
    unfold HT.sIx
    have c : ¬ (k : Int) < 0 := by omega
    simp [c]
    omega
  rw [e0, e1]
  simp
theorem cut_drop {xs : List D} {k : Nat} (h : k ≤ xs.length) : VL.cutD xs (some (k : Int)) none = xs.drop k := by
  unfold VL.cutD
  have e0 : HT.sIx xs.length 0 (some (k : Int)) = k := by
    unfold HT.sIx
    have c : ¬ (k : Int) < 0 := by omega
    simp [c]
    omega
  have e1 : HT.sIx xs.length xs.length none = xs.length := rfl
  rw [e0, e1, List.take_of_length_le (by simp)]
end Q

set_option linter.all false
set_option maxRecDepth 100000
set_option maxHeartbeats 4000000
namespace Q
open PySem PySem.Spec PyProof.Rows L2 VL GR
theorem ft_ints (l : List Int) {o : Bool} : fTuple [.lst o (l.map .int)] = some (iT l) := if_pos (by rw [fzdL_ints])
theorem len_iT (l : List Int) : fLen [iT l] = some (.int l.length) := by
  show some (D.int ((l.map D.int).length : Int)) = _
  rw [List.length_map]
theorem sl_take {l : List Int} {d : Nat} (h : d ≤ l.length) : fSl none (some (d : Int)) (iT l) = some (iT (l.take d)) := by
  show some (D.tup (VL.cutD (l.map .int) none (some (d : Int)))) = _
  rw [cut_take (by rw [List.length_map]; exact h), ← List.map_take]
  rfl
theorem sl_drop {l : List Int} {d : Nat} (h : d ≤ l.length) : fSl (some (d : Int)) none (iT l) = some (iT (l.drop d)) := by
  show some (D.tup (VL.cutD (l.map .int) (some (d : Int)) none)) = _
  rw [cut_drop (by rw [List.length_map]; exact h), ← List.map_drop]
  rfl
theorem mul_iT {l : List Int} {k : Nat} (h0 : l ≠ []) (h1 : 1 ≤ k) (h2 : k ≤ 100) (h3 : l.length ≤ 100) : fMulT (iT l) (.int (k : Int)) = some (iT (List.replicate k l).flatten) := by
  have e := fMulT_t (xs := l.map D.int) (k := (k : Int)) (by simpa using h0) (by omega) (by omega) (by rw [List.length_map]; omega)
  rw [show iT l = .tup (l.map .int) from rfl, e]
  rw [Int.toNat_natCast]
  unfold iT
  rw [List.map_flatten, List.map_replicate]
/-- the least part that gives the row again and again -/
theorem shortest_ok {x : Nat → Int} {p : Nat} (h1 : 1 ≤ p) (h8 : p ≤ 50) (hp : Per x p) : ∃ π, LP x π ∧ π ≤ p ∧ f_shortest_round [iT (win x p 0)] = .ret (iT (win x π 0)) [iT (win x p 0)] := by
  have lw := win_len x p 0
  have ln : fLen [iT (win x p 0)] = some (.int p) := by rw [len_iT, lw]
  have z := D.fz_of _ (iT_fzd (win x p 0))
  let P : Int → Bool := fun d => decide ((List.replicate (p / d.toNat) ((win x p 0).take d.toNat)).flatten = win x p 0)
  have mem : ∀ d ∈ rg 1 (p + 1), ∃ k : Nat, d = (k : Int) ∧ 1 ≤ k ∧ k ≤ p := fun d m => by
    have := rg_mem.mp m
    exact ⟨d.toNat, by omega, by omega, by omega⟩
  have lc := lcGo_filt (t := q1t_shortest_round) (c := q1c_shortest_round) (e := q1e_shortest_round) (own := [3]) (ρ := [some (iT (win x p 0)), some (.int p), none, none]) (enc := D.int) (F := D.int) (P := P) (rg 1 (p + 1)) fun d m => by
    obtain ⟨k, rfl, k1, k2⟩ := mem d m
    have s1 := sl_take (l := win x p 0) (d := k) (by rw [lw]; exact k2)
    have dv : fDiv (.int p) (.int (k : Int)) = some (.int ((p / k : Nat) : Int)) := by
      rw [fDiv_ii (by omega) (by omega), Int.natCast_ediv]
    have pk : 1 ≤ p / k := by
      rw [Nat.le_div_iff_mul_le (by omega)]
      omega
    have pk2 : p / k ≤ p := Nat.div_le_self p k
    have mu := mul_iT (l := (win x p 0).take k) (k := p / k) (fun e => by
      have := congrArg List.length e
      rw [List.length_take, lw] at this
      simp at this
      omega) pk (by omega) (by rw [List.length_take]; omega)
    have eq : fEq (iT (List.replicate (p / k) ((win x p 0).take k)).flatten) (iT (win x p 0)) = some (.bl (P (k : Int))) := by
      rw [tyT.eq (by decide) rfl rfl]
      show _ = some (D.bl (decide ((List.replicate (p / (k : Int).toNat) ((win x p 0).take (k : Int).toNat)).flatten = win x p 0)))
      rw [Int.toNat_natCast]
    generalize P (k : Int) = bb at *
    generalize ((p / k : Nat) : Int) = pk' at *
    generalize (k : Int) = kk at *
    unfold lcTurn q1t_shortest_round q1c_shortest_round q1e_shortest_round
    cases bb
    · simp only [vls_, setO_nil, setI_nil, isi_int_int, isi_int_bool, isi_tup, isi_lst, s1, dv, mu, eq]
    · simp only [vls_, setO_nil, setI_nil, isi_int_int, isi_int_bool, isi_tup, isi_lst, s1, dv, mu, eq]
  -- the first that fits
  have fit : ∀ k : Nat, 1 ≤ k → k ≤ p → (P (k : Int) = true ↔ k ∣ p ∧ Per x k) := fun k k1 k2 => by
    show decide ((List.replicate (p / (k : Int).toNat) ((win x p 0).take (k : Int).toNat)).flatten = win x p 0) = true ↔ _
    rw [Int.toNat_natCast, decide_eq_true_iff]
    exact rep_iff hp k1 k2
  obtain ⟨π, l⟩ := lp_ex p h1 hp
  have dv := l.dvd hp
  have lπ : π ≤ p := Nat.le_of_dvd (by omega) dv
  have mπ : (π : Int) ∈ (rg 1 (p + 1)).filter P := List.mem_filter.mpr ⟨rg_mem.mpr (by have := l.pos; omega), (fit π l.pos lπ).mpr ⟨dv, l.per⟩⟩
  cases ef : (rg 1 (p + 1)).filter P with
  | nil => rw [ef] at mπ; cases mπ
  | cons d0 r =>
    have m0 : d0 ∈ (rg 1 (p + 1)).filter P := by rw [ef]; exact List.mem_cons_self
    obtain ⟨ma, pa⟩ := List.mem_filter.mp m0
    obtain ⟨k, rfl, k1, k2⟩ := mem d0 ma
    have pk := (fit k k1 k2).mp pa
    have le1 := l.le k k1 pk.2
    have up : (rg 1 ((p : Int) + 1)).Pairwise (· < ·) := by
      unfold rg
      rw [List.pairwise_map]
      exact List.pairwise_lt_range.imp fun h => by omega
    have up2 := up.filter P
    rw [ef] at mπ up2
    have ek : k = π := by
      rcases List.mem_cons.mp mπ with e | m
      · omega
      · have := (List.pairwise_cons.mp up2).1 _ m
        omega
    subst ek
    refine ⟨k, l, k2, ?_⟩
    rw [ef] at lc
    have rn : ∀ ρ, rng2 (.int 1, .int ((p : Int) + 1)) ρ = .ok ((rg 1 (p + 1)).map .int) ρ := fun ρ => by
      rw [rng2_ok (by decide) (by omega), upTo_rg]
    have lr : ((rg 1 ((p : Int) + 1)).map D.int).length < big := by rw [List.length_map, rg_len]; exact big1k (by omega)
    have i0 : fIx (.lst true (((k : Int) :: r).map .int)) (.int 0) = some (.int (k : Int)) := by
      show fAt (D.int (k : Int) :: r.map D.int) 0 = _
      rw [fAt_0]
      exact if_pos rfl
    have s1 := sl_take (l := win x p 0) (d := k) (by rw [lw]; exact k2)
    rw [win_take x k2] at s1
    generalize ((k : Int) :: r).map D.int = xs at *
    generalize (rg 1 ((p : Int) + 1)).map D.int = ys at *
    generalize (k : Int) = kk at *
    unfold f_shortest_round
    refine run_go rfl ?_
    unfold b_shortest_round
    simp only [vls_, setO_nil, setI_nil, isi_int_int, isi_int_bool, isi_tup, isi_lst, z, ln, rn, lr, lc, i0, s1, -fLen_t]
    exact outD_rt rfl
/-- its least turn -/
theorem least_ok {x : Nat → Int} {π : Nat} (h8 : π ≤ 50) (l : LP x π) : ∃ c, Canon x c ∧ c.length ≤ 50 ∧ f_least_turn [iT (win x π 0)] = .ret (iT c) [iT (win x π 0)] := by
  have lw := win_len x π 0
  have ln : fLen [iT (win x π 0)] = some (.int π) := by rw [len_iT, lw]
  have z := D.fz_of _ (iT_fzd (win x π 0))
  have lc := lcGo_mapE (t := q1t_least_turn) (c := tYesM) (e := q1e_least_turn) (own := [1]) (ρ := [some (iT (win x π 0)), none]) (enc := D.int) (F := fun a => .tup ((win x π a.toNat).map .int)) (xs := rng π) fun a m => by
    have ba := rng_mem.mp m
    obtain ⟨k, rfl⟩ := Int.eq_ofNat_of_zero_le ba.1
    have s1 := sl_take (l := win x π 0) (d := k) (by rw [lw]; omega)
    have s2 := sl_drop (l := win x π 0) (d := k) (by rw [lw]; omega)
    have ad : fAdd (iT ((win x π 0).drop k)) (iT ((win x π 0).take k)) = some (iT (win x π k)) := by
      show (if decide ((((win x π 0).drop k).map D.int).length + (((win x π 0).take k).map D.int).length < big) = true then some (D.tup (((win x π 0).drop k).map D.int ++ ((win x π 0).take k).map D.int)) else none) = _
      rw [if_pos (decide_eq_true (big1k (by simp only [List.length_map, List.length_drop, List.length_take, lw]; omega))), ← List.map_append, win_turn l.per (by omega)]
      rfl
    have zw := D.fz_of _ (iT_fzd (win x π k))
    have et : D.tup ((win x π (k : Int).toNat).map .int) = iT (win x π k) := by rw [Int.toNat_natCast]; rfl
    rw [et]
    generalize (k : Int) = kk at *
    unfold lcTurn q1t_least_turn q1e_least_turn
    simp only [vls_, setO_nil, setI_nil, isi_int_int, isi_int_bool, isi_tup, isi_lst, s1, s2, ad, zw]
  have ep : ∃ π', π = π' + 1 := ⟨π - 1, by have := l.pos; omega⟩
  obtain ⟨π', e'⟩ := ep
  have er : (rng π).map (fun a => D.tup ((win x π a.toNat).map .int)) = ((win x π 0) :: (List.range π').map fun k => win x π (k + 1)).map fun ns => D.tup (ns.map .int) := by
    unfold rng
    rw [List.map_map, e', List.range_succ_eq_map, List.map_cons, List.map_cons, List.map_map, List.map_map]
    congr 1
  have all : ∀ y, y ∈ (win x π 0) :: (List.range π').map (fun k => win x π (k + 1)) ↔ ∃ a, a < π ∧ y = win x π a := fun y => by
    rw [List.mem_cons, List.mem_map]
    constructor
    · rintro (rfl | ⟨k, hk, rfl⟩)
      · exact ⟨0, by omega, rfl⟩
      · exact ⟨k + 1, by have := List.mem_range.mp hk; omega, rfl⟩
    · rintro ⟨a, ha, rfl⟩
      cases a with
      | zero => exact .inl rfl
      | succ a => exact .inr ⟨a, List.mem_range.mpr (by omega), rfl⟩
  let c := minT (win x π 0) ((List.range π').map fun k => win x π (k + 1))
  obtain ⟨a, ha, ea⟩ := (all c).mp (minT_mem _ _)
  refine ⟨c, ⟨π, l, ⟨a, ea⟩, fun b => ?_⟩, by rw [ea, win_len]; exact h8, ?_⟩
  · rw [win_mod l.per]
    exact minT_le _ _ _ ((all _).mpr ⟨b % π, Nat.mod_lt _ (by omega), rfl⟩)
  · have fm : fMinT [.lst true ((rng π).map (fun a => D.tup ((win x π a.toNat).map .int)))] = some (iT c) := by
      rw [er]
      exact fMinT_t
    have rn := rng_ok (n := π) (by omega)
    have lr : ((rng π).map D.int).length < big := by rw [List.length_map, rng_len]; exact big1k (by omega)
    generalize (rng π).map (fun a => D.tup ((win x π a.toNat).map .int)) = xs at *
    unfold f_least_turn
    refine run_go rfl ?_
    unfold b_least_turn
    simp only [vls_, setO_nil, setI_nil, isi_int_int, isi_int_bool, isi_tup, isi_lst, z, ln, rn, lr, lc, fm, -fLen_t]
    exact outD_rt rfl
section
variable {n : Nat} {L : List (List Pr)} {Dr : List (List Int)} {Pu : List (Int × List Int)} {o : Bool} {s : Int}
def xs_ (L : List (List Pr)) (k : Nat) (s : Int) : Nat → Int := fun i => an L (it L (k + i) s)
theorem class_of_ok (V : ValidK n L Dr Pu) (S : Sr L Dr) (b : 0 ≤ s ∧ s < (n : Int)) : ∃ c k p, (∀ o : Bool, f_class_of [kindD o n L Dr Pu, .int s] = .ret (iT c) [kindD false n L Dr Pu, .int s]) ∧ Canon (xs_ L k s) c ∧ c.length ≤ 50 ∧ 1 ≤ p ∧ Per (xs_ L k s) p ∧ k ≤ 8 ∧ p ≤ 8 := by
  have n8 := V.n8
  have z := kindD_fzd (n := n) (L := L) (Dr := Dr) (Pu := Pu)
  have e0 := check_standing_ok (o := false) (L := L) (Dr := Dr) (Pu := Pu) b.1 b.2
  have e1 := check_sure_ok (o := false) V S
  obtain ⟨m, e2, hm, hin, _⟩ := trail_ok (o := false) V S b
  obtain ⟨k, e3, hk, ek⟩ := round_begin_ok (o := false) V S b hin
  have hp : 1 ≤ m + 1 - k := by omega
  have per : Per (xs_ L k s) (m + 1 - k) := fun i => by
    show an L (it L (k + (i + (m + 1 - k))) s) = an L (it L (k + i) s)
    have e : k + (i + (m + 1 - k)) = i + (m + 1) := by omega
    rw [e, it_add, ← ek, ← it_add, Nat.add_comm k i]
  obtain ⟨π, l, lπ, e4⟩ := shortest_ok hp (by omega) per
  obtain ⟨c, hc, lc, e5⟩ := least_ok (by omega) l
  refine ⟨c, k, m + 1 - k, fun o => ?_, hc, lc, hp, per, by omega, by omega⟩
  have sl : fSl (some (k : Int)) none (.lst true ((tr L s m).map .int)) = some (.lst true (((tr L s m).drop k).map .int)) := by
    rw [fSl_l (fzdL_ints _), cut_drop (by rw [List.length_map, tr_len]; omega), ← List.map_drop]
  have cm := lcGo_mapE (t := q1t_class_of) (c := tYesM) (e := q1e_class_of) (own := [4]) (ρ := [some (kindD false n L Dr Pu), some (.int s), some (.lst true ((tr L s m).map .int)), none, none]) (enc := D.int) (F := fun t => .int (an L t)) (xs := (tr L s m).drop k) fun t mt => by
    have bt := tr_in V S b m t (List.mem_of_mem_drop mt)
    have f1 := fld_looksK (o := false) (n := n) (L := L) (Dr := Dr) (Pu := Pu)
    have ix := (row_ix V bt).1
    rw [sr_row V S bt] at ix
    have i0 : fIx (rowD [(an L t, nx L t)]) (.int 0) = some (oD (an L t, nx L t)) := rfl
    have i1 : fIx (oD (an L t, nx L t)) (.int 0) = some (.int (an L t)) := rfl
    generalize (tr L s m).map D.int = tt at *
    unfold lcTurn q1t_class_of q1e_class_of
    simp only [vls_, setO_nil, setI_nil, isi_int_int, isi_int_bool, isi_tup, isi_lst, f1, ix, i0, i1]
  have ew : ((tr L s m).drop k).map (fun t => D.int (an L t)) = (win (xs_ L k s) (m + 1 - k) 0).map .int := by
    have et : tr L s m = win (fun i => it L i s) (m + 1) 0 := by
      unfold tr win
      exact List.map_congr_left fun i _ => by rw [Nat.zero_add]
    rw [et, win_drop _ (by omega), Nat.zero_add]
    unfold win
    rw [List.map_map, List.map_map]
    refine List.map_congr_left fun i _ => ?_
    show D.int (an L (it L (k + i) s)) = D.int (xs_ L k s (0 + i))
    rw [Nat.zero_add]
    rfl
  rw [ew] at cm
  have ft := ft_ints (win (xs_ L k s) (m + 1 - k) 0) (o := true)
  have la : (((tr L s m).drop k).map D.int).length < big := by rw [List.length_map, List.length_drop, tr_len]; exact big1k (by omega)
  have zt := iT_fzd (win (xs_ L k s) (m + 1 - k) 0)
  have zd := fzL_ints ((tr L s m).drop k)
  have zp := iT_fzd (win (xs_ L k s) π 0)
  generalize (tr L s m).map D.int = tt at *
  generalize (win (xs_ L k s) (m + 1 - k) 0).map D.int = ww at *
  generalize ((tr L s m).drop k).map D.int = dd at *
  unfold f_class_of
  refine run_go rfl ?_
  unfold b_class_of
  simp only [vls_, setO_nil, setI_nil, isi_int_int, isi_int_bool, isi_tup, isi_lst, kindD_fz, z, e0, e1, e2, e3, sl, la, zd, cm, ft, zt, e4, zp, e5]
  exact outD_rt rfl
end
end Q

set_option linter.all false
set_option maxRecDepth 100000
set_option maxHeartbeats 4000000
namespace VL
open PySem PySem.Spec PyProof.Rows L2
theorem outE_exc {as : List Ar} {e : Ex} {ds : List D} {ρ : Env} : outE as ρ (.exc e ds) = .exc e (back as ds ρ) := rfl
theorem outD_exc {us : List Nat} {ds : List D} {e : Ex} {as : List D} {ρ : Env} (h : finA us 0 ds ρ = some as) : outD us ds (.exc e ρ) = .exc e as := by
  show (match finA us 0 ds ρ with | some as => Out.exc e as | none => .bad) = _
  rw [h]
theorem ev_told {j : Nat} {l : List (Str × Bool)} {ret : Str} {b : M D} {ρ : Env} : gTold j l ret b ρ = match ρ[j]? with
  | some (some (.tab true)) => (match b ρ with
    | .ok d ρ' => .ok d ρ'
    | .exc e ρ' => (match l.lookup e.c with
      | some true => .ok (.str ret) ρ'
      | _ => .bad)
    | .bad => .bad)
  | _ => .bad := rfl
theorem es_raise' {c : Str} {ρ : Env} : sRaise c ρ = .exc ⟨c, []⟩ ρ := rfl
end VL
namespace Q
open PySem PySem.Spec PyProof.Rows L2 VL GR
section
variable {n : Nat} {L : List (List Pr)} {Dr : List (List Int)} {Pu : List (Int × List Int)} {o : Bool} {u v s t : Int}
theorem sure_no (V : ValidK n L Dr Pu) (S : ¬ Sr L Dr) : f_sure [kindD o n L Dr Pu] = .ret (.bl false) [kindD false n L Dr Pu] := by
  have e1 := fld_looksK (o := false) (n := n) (L := L) (Dr := Dr) (Pu := Pu)
  have e2 := fld_driftsK (o := false) (n := n) (L := L) (Dr := Dr) (Pu := Pu)
  have n8 := V.n8
  have lL : (L.map rowD).length < big := by rw [List.length_map, V.ll]; exact big1k (by omega)
  have lD : (Dr.map iT).length < big := by rw [List.length_map, V.dl]; exact big1k (by omega)
  have s1 : seqOf (looksD L) = some (L.map rowD) := by show some (fzL _) = _; rw [fzL_enc rowD_fzd]
  have s2 : seqOf (driftsD Dr) = some (Dr.map iT) := by show some (fzL _) = _; rw [fzL_enc iT_fzd]
  have fe : ∀ i j : Nat, fEq (.int (i : Int)) (.int (j : Int)) = some (.bl (decide (i = j))) := fun i j => by
    rw [Ty.int.eq (by decide) rfl rfl]
    congr 2
    simp only [Int.natCast_inj]
  have c1 := lcGo_mapE (t := q1t_sure) (c := tYesM) (e := q1e_sure) (own := [1]) (ρ := [some (kindD false n L Dr Pu), none, none]) (enc := rowD) (F := fun r => .bl (decide (r.length = 1))) (xs := L) fun r m => by
    have ln : fLen [rowD r] = some (.int (r.length : Nat)) := by
      show some (D.int ((r.map oD).length : Int)) = _
      rw [List.length_map]
    have f1 := fe r.length 1
    have f1 : fEq (.int ((r.length : Nat) : Int)) (.int 1) = some (.bl (decide (r.length = 1))) := f1
    generalize decide (r.length = 1) = bb at *
    unfold lcTurn q1t_sure q1e_sure
    simp only [vls_, setO_nil, setI_nil, isi_int_int, isi_int_bool, isi_tup, isi_lst, ln, f1, -fLen_t]
  have c2 := lcGo_mapE (t := q2t_sure) (c := tYesM) (e := q2e_sure) (own := [2]) (ρ := [some (kindD false n L Dr Pu), none, none]) (enc := iT) (F := fun r => .bl (decide (r.length = 0))) (xs := Dr) fun r m => by
    have ln : fLen [iT r] = some (.int (r.length : Nat)) := by
      show some (D.int ((r.map D.int).length : Int)) = _
      rw [List.length_map]
    have f1 : fEq (.int ((r.length : Nat) : Int)) (.int 0) = some (.bl (decide (r.length = 0))) := fe r.length 0
    generalize decide (r.length = 0) = bb at *
    unfold lcTurn q2t_sure q2e_sure
    simp only [vls_, setO_nil, setI_nil, isi_int_int, isi_int_bool, isi_tup, isi_lst, ln, f1, -fLen_t]
  have al : ∀ {α : Type} (p : α → Bool) (l : List α), fAll [.lst true (l.map fun x => D.bl (p x))] = some (.bl (l.all p)) := fun p l => by
    rw [fAll_l]
    have : blsOf (l.map fun x => D.bl (p x)) = some (l.map p) := by
      induction l with
      | nil => rfl
      | cons x l ih => rw [List.map_cons, blsOf_cons, ih]; rfl
    rw [this]
    simp
  have a1 := al (fun r : List Pr => decide (r.length = 1)) L
  have a2 := al (fun r : List Int => decide (r.length = 0)) Dr
  have no : L.all (fun r => decide (r.length = 1)) = true → Dr.all (fun r => decide (r.length = 0)) = false := fun h => by
    cases e : Dr.all (fun r => decide (r.length = 0)) with
    | false => rfl
    | true =>
      refine absurd ⟨fun r m => ?_, fun d m => ?_⟩ S
      · simpa using List.all_eq_true.mp h r m
      · have := List.all_eq_true.mp e d m
        simpa using this
  unfold f_sure
  refine run_go rfl ?_
  unfold b_sure
  cases q : L.all (fun r => decide (r.length = 1)) with
  | true =>
    rw [q] at a1
    rw [no q] at a2
    simp only [vls_, setO_nil, setI_nil, isi_int_int, isi_int_bool, isi_tup, isi_lst, kindD_fz, e1, e2, s1, s2, lL, lD, c1, c2, a1, a2, -fAll_l, -seqOf_t]
    exact outD_rt rfl
  | false =>
    rw [q] at a1
    simp only [vls_, setO_nil, setI_nil, isi_int_int, isi_int_bool, isi_tup, isi_lst, kindD_fz, e1, e2, s1, s2, lL, lD, c1, c2, a1, a2, -fAll_l, -seqOf_t]
    exact outD_rt rfl
theorem check_sure_no (V : ValidK n L Dr Pu) (S : ¬ Sr L Dr) : f_check_sure [kindD o n L Dr Pu] = .exc ⟨"NotSure", []⟩ [kindD false n L Dr Pu] := by
  have e := sure_no (o := false) V S
  have z := kindD_fzd (n := n) (L := L) (Dr := Dr) (Pu := Pu)
  unfold f_check_sure
  refine run_go rfl ?_
  unfold b_check_sure
  simp only [vls_, setO_nil, setI_nil, isi_int_int, isi_int_bool, isi_tup, isi_lst, kindD_fz, z, e, es_raise']
  exact outD_exc rfl
theorem class_no (V : ValidK n L Dr Pu) (S : ¬ Sr L Dr) (b : 0 ≤ s ∧ s < (n : Int)) : f_class_of [kindD o n L Dr Pu, .int s] = .exc ⟨"NotSure", []⟩ [kindD false n L Dr Pu, .int s] := by
  have z := kindD_fzd (n := n) (L := L) (Dr := Dr) (Pu := Pu)
  have c1 := check_standing_ok (o := false) (L := L) (Dr := Dr) (Pu := Pu) b.1 b.2
  have c2 := check_sure_no (o := false) V S
  unfold f_class_of
  refine run_go rfl ?_
  unfold b_class_of
  simp only [vls_, setO_nil, setI_nil, isi_int_int, isi_int_bool, isi_tup, isi_lst, kindD_fz, z, c1, c2, outE_exc]
  exact outD_exc rfl
end
end Q

set_option linter.all false
set_option maxRecDepth 100000
set_option maxHeartbeats 4000000
namespace Q
open PySem PySem.Spec PyProof.Rows L2 VL GR
theorem ltP_ltO {x y : Pr} (h : ltP x y) : ltO x y := by
  obtain ⟨a, b⟩ := x
  obtain ⟨c, d⟩ := y
  show (decide (a < c) || (!decide (c < a) && (decide (b < d) || (!decide (d < b) && false)))) = true
  rcases h with h | ⟨h1, h2⟩
  · have h : a < c := h
    simp [h]
  · have h1 : a = c := h1
    have h2 : b < d := h2
    subst h1
    simp [h2]
section
variable {n : Nat} {L : List (List Pr)} {Dr : List (List Int)} {Pu : List (Int × List Int)} {o : Bool} {u v s t : Int}
theorem ln_looks (V : ValidK n L Dr Pu) : fLen [looksD L] = some (.int n) := by
  show some (D.int ((L.map rowD).length : Int)) = _
  rw [List.length_map, V.ll]
/-! ### sure, by the law -/
theorem law_is_sure_ok (V : ValidK n L Dr Pu) : ∃ b, f__law_is_sure [looksD L, driftsD Dr] = .ret (.bl b) [looksD L, driftsD Dr] ∧ (b = true ↔ Sr L Dr) := by
  have n8 := V.n8
  have z1 := looksD_fzd L; have z2 := driftsD_fzd Dr
  have y1 := D.fz_of _ z1; have y2 := D.fz_of _ z2
  have lL : (L.map rowD).length < big := by rw [List.length_map, V.ll]; exact big1k (by omega)
  have lD : (Dr.map iT).length < big := by rw [List.length_map, V.dl]; exact big1k (by omega)
  have s1 : seqOf (looksD L) = some (L.map rowD) := by show some (fzL _) = _; rw [fzL_enc rowD_fzd]
  have s2 : seqOf (driftsD Dr) = some (Dr.map iT) := by show some (fzL _) = _; rw [fzL_enc iT_fzd]
  have c1 := lcGo_mapE (t := q1t__law_is_sure) (c := tYesM) (e := q1e__law_is_sure) (own := [2]) (ρ := [some (looksD L), some (driftsD Dr), none]) (enc := rowD) (F := fun r => .int (r.length : Nat)) (xs := L) fun r m => by
    have ln : fLen [rowD r] = some (.int (r.length : Nat)) := by
      show some (D.int ((r.map oD).length : Int)) = _
      rw [List.length_map]
    unfold lcTurn q1t__law_is_sure q1e__law_is_sure
    simp only [vls_, setO_nil, setI_nil, isi_int_int, isi_int_bool, isi_tup, isi_lst, ln, -fLen_t]
  have c2 := lcGo_mapE (t := q2t__law_is_sure) (c := tYesM) (e := q2e__law_is_sure) (own := [2]) (ρ := [some (looksD L), some (driftsD Dr), none]) (enc := iT) (F := fun r => .int (r.length : Nat)) (xs := Dr) fun r m => by
    have ln : fLen [iT r] = some (.int (r.length : Nat)) := by
      show some (D.int ((r.map D.int).length : Int)) = _
      rw [List.length_map]
    unfold lcTurn q2t__law_is_sure q2e__law_is_sure
    simp only [vls_, setO_nil, setI_nil, isi_int_int, isi_int_bool, isi_tup, isi_lst, ln, -fLen_t]
  have m1 : (L.map fun r => D.int (r.length : Nat)) = (L.map fun r => ((r.length : Nat) : Int)).map D.int := by rw [List.map_map]; rfl
  have m2 : (Dr.map fun r => D.int (r.length : Nat)) = (Dr.map fun r => ((r.length : Nat) : Int)).map D.int := by rw [List.map_map]; rfl
  rw [m1] at c1
  rw [m2] at c2
  have ml1 := fMulL_ok 1 n (by omega)
  have ml0 := fMulL_ok 0 n (by omega)
  have r1 : ∀ i : Int, (List.replicate n (D.int i)) = (List.replicate n i).map D.int := fun i => by rw [List.map_replicate]
  rw [r1] at ml1 ml0
  have f1 : fEq (.lst true ((L.map fun r => ((r.length : Nat) : Int)).map D.int)) (.lst true ((List.replicate n 1).map D.int)) = _ := Ty.int.lst.eq (by decide) cmp_own cmp_own
  have f2 : fEq (.lst true ((Dr.map fun r => ((r.length : Nat) : Int)).map D.int)) (.lst true ((List.replicate n 0).map D.int)) = _ := Ty.int.lst.eq (by decide) cmp_own cmp_own
  have rep : ∀ {α : Type} (g : α → Int) (l : List α) (c : Int), l.length = n → ((l.map g) = List.replicate n c ↔ ∀ x ∈ l, g x = c) := fun g l c hl => by
    rw [List.eq_replicate_iff]
    simp [hl]
  have h1 := rep (fun r : List Pr => ((r.length : Nat) : Int)) L 1 V.ll
  have h2 := rep (fun r : List Int => ((r.length : Nat) : Int)) Dr 0 V.dl
  have ln := ln_looks V
  have iff : (decide ((L.map fun r => ((r.length : Nat) : Int)) = List.replicate n 1) && decide ((Dr.map fun r => ((r.length : Nat) : Int)) = List.replicate n 0)) = true ↔ Sr L Dr := by
    rw [Bool.and_eq_true, decide_eq_true_eq, decide_eq_true_eq, h1, h2]
    constructor
    · rintro ⟨a, b⟩
      exact ⟨fun r m => by have := a r m; omega, fun d m => List.eq_nil_of_length_eq_zero (by have := b d m; omega)⟩
    · intro S
      exact ⟨fun r m => by rw [S.one r m]; rfl, fun d m => by rw [S.none d m]; rfl⟩
  refine ⟨_, ?_, iff⟩
  generalize decide ((L.map fun r => ((r.length : Nat) : Int)) = List.replicate n 1) = b1 at *
  generalize decide ((Dr.map fun r => ((r.length : Nat) : Int)) = List.replicate n 0) = b2 at *
  generalize (L.map fun r => ((r.length : Nat) : Int)).map D.int = g1 at *
  generalize (Dr.map fun r => ((r.length : Nat) : Int)).map D.int = g2 at *
  generalize (List.replicate n (1 : Int)).map D.int = g3 at *
  generalize (List.replicate n (0 : Int)).map D.int = g4 at *
  unfold f__law_is_sure
  refine run_go rfl ?_
  unfold b__law_is_sure
  cases b1 with
  | true =>
    simp only [vls_, setO_nil, setI_nil, isi_int_int, isi_int_bool, isi_tup, isi_lst, y1, y2, z1, z2, s1, s2, lL, lD, c1, c2, ln, ml1, ml0, f1, f2, show ((0 + 1 : Nat) < big) from by decide, -seqOf_t, -fLen_t]
    exact outD_rt rfl
  | false =>
    simp only [vls_, setO_nil, setI_nil, isi_int_int, isi_int_bool, isi_tup, isi_lst, y1, y2, z1, z2, s1, s2, lL, lD, c1, c2, ln, ml1, ml0, f1, f2, show ((0 + 1 : Nat) < big) from by decide, -seqOf_t, -fLen_t]
    exact outD_rt rfl
/-! ### long rows -/
def lr (L : List (List Pr)) (s : Int) (k : Nat) : List Int := (List.range k).map fun i => an L (it L i s)
theorem lr_succ (s : Int) (k : Nat) : lr L s (k + 1) = lr L s k ++ [an L (it L k s)] := by
  unfold lr
  rw [List.range_succ, List.map_append]
  rfl
theorem lr_len (s : Int) (k : Nat) : (lr L s k).length = k := by simp [lr]
theorem long_loop (V : ValidK n L Dr Pu) (S : Sr L Dr) (b : 0 ≤ s ∧ s < (n : Int)) {x2 : Option D} : ∀ (ds : List D) (j : Nat), j + ds.length ≤ 500 → loopS (setSlot 4) l1__law_long_row [4, 5] ds [some (looksD L), some (.int (it L j s)), x2, some (.lst true ((lr L s j).map .int)), none, none] = .nx [some (looksD L), some (.int (it L (j + ds.length) s)), x2, some (.lst true ((lr L s (j + ds.length)).map .int)), none, none]
  | [], j, _ => by simp [loopS, forget]
  | d :: ds, j, h => by
    simp only [List.length_cons] at h
    have bj := it_in V S j s b
    obtain ⟨h1, _, _⟩ := row_ix V bj
    rw [sr_row V S bj] at h1
    have i0 : fIx (rowD [(an L (it L j s), nx L (it L j s))]) (.int 0) = some (.tup [.int (an L (it L j s)), .int (nx L (it L j s))]) := rfl
    have ap : fAppend (.lst true ((lr L s j).map .int)) [.int (an L (it L j s))] = some (.non, .lst true ((lr L s (j + 1)).map .int)) := by
      rw [fAppend_l (by rw [List.length_map, lr_len]; exact big1k (by omega)), lr_succ, List.map_append]
      rfl
    have t1 : turnS (setSlot 4) l1__law_long_row [4, 5] d [some (looksD L), some (.int (it L j s)), x2, some (.lst true ((lr L s j).map .int)), none, none] = .nx [some (looksD L), some (.int (it L (j + 1) s)), x2, some (.lst true ((lr L s (j + 1)).map .int)), none, none] := by
      rw [it_succ]
      generalize (lr L s j).map D.int = g1 at *
      generalize (lr L s (j + 1)).map D.int = g2 at *
      rw [turnS_eq]
      unfold l1__law_long_row
      simp only [vls_, setO_nil, setI_nil, isi_int_int, isi_int_bool, isi_tup, isi_lst, h1, i0, ap]
    rw [loopS_nx t1, long_loop V S b ds (j + 1) (by omega), List.length_cons, show j + 1 + ds.length = j + (ds.length + 1) from by omega]
theorem long_row_ok (V : ValidK n L Dr Pu) (S : Sr L Dr) (b : 0 ≤ s ∧ s < (n : Int)) (k : Nat) (hk : k ≤ 200) : f__law_long_row [looksD L, .int s, .int (k : Nat)] = .ret (.lst true [iT (lr L s k), .int (it L k s)]) [looksD L, .int s, .int (k : Nat)] := by
  have z1 := looksD_fzd L
  have y1 := D.fz_of _ z1
  have lp := long_loop V S b (x2 := some (.int (k : Nat))) (VL.upTo 0 k) 0 (by rw [upTo_len]; omega)
  rw [upTo_len, Nat.zero_add] at lp
  have lp : loopS (setSlot 4) l1__law_long_row [4, 5] (VL.upTo 0 k) [some (looksD L), some (.int s), some (.int (k : Nat)), some (.lst true []), none, none] = _ := lp
  have r1 : ∀ ρ, rng1 (.int (k : Nat)) ρ = .ok (VL.upTo 0 k) ρ := fun ρ => by
    have := rng1_ok (ρ := ρ) (j := (k : Int)) (by omega)
    rwa [Int.toNat_natCast] at this
  have ft : fTuple [.lst true ((lr L s k).map .int)] = some (iT (lr L s k)) := if_pos (fzdL_ints _)
  have zi := iT_fzd (lr L s k)
  generalize (lr L s k).map D.int = g1 at *
  generalize ((k : Nat) : Int) = kk at *
  unfold f__law_long_row
  refine run_go rfl ?_
  unfold b__law_long_row i1__law_long_row
  simp only [vls_, setO_nil, setI_nil, isi_int_int, isi_int_bool, isi_tup, isi_lst, y1, z1, r1, lp, ft, zi, show ((0 : Nat) < big) from by decide, show ((0 + 1 + 1 : Nat) < big) from by decide, -fTuple_l]
  exact outD_rt rfl
/-! ### nearly sure kinds -/
theorem add_tup (xs ys : List D) (h : xs.length + ys.length < 1000) : fAdd (.tup xs) (.tup ys) = some (.tup (xs ++ ys)) := by
  show (if decide (xs.length + ys.length < big) = true then _ else none) = _
  rw [if_pos (decide_eq_true (big1k (by omega)))]
theorem draw_n {p : D} {m : Int} (hp : IsPool p) (hm : 0 < m) (hm2 : m < 1073741824) : ∃ r p', f__law_draw [p, .int m] = .ret (.int r) [p', .int m] ∧ IsPool p' ∧ 0 ≤ r ∧ r < m := draw_ok hp hm hm2
theorem mem_spl {α : Type} {l : List α} {x y : α} {k : Nat} (h : y ∈ l.take k ++ [x] ++ l.drop (k + 1)) : y = x ∨ y ∈ l := by
  rcases List.mem_append.mp h with h | h
  · rcases List.mem_append.mp h with h | h
    · exact .inr (List.mem_of_mem_take h)
    · exact .inl (List.mem_singleton.mp h)
  · exact .inr (List.mem_of_mem_drop h)
theorem len_spl {α : Type} {l : List α} {x : α} {k : Nat} (h : k < l.length) : (l.take k ++ [x] ++ l.drop (k + 1)).length = l.length := by
  simp only [List.length_append, List.length_take, List.length_drop, List.length_singleton]
  omega
theorem looks_set (V : ValidK n L Dr Pu) {r : List Pr} {k : Nat} (hk : k < n) (hr : (1 ≤ r.length ∧ r.length ≤ 4) ∧ (∀ o ∈ r, (0 ≤ o.1 ∧ o.1 < 10) ∧ (0 ≤ o.2 ∧ o.2 < (n : Int))) ∧ r.Pairwise ltO) : ValidK n (L.take k ++ [r] ++ L.drop (k + 1)) Dr Pu :=
  ⟨V.n1, V.n8, by rw [len_spl (by rw [V.ll]; exact hk), V.ll], V.dl, fun x m => by
    rcases mem_spl m with rfl | m
    · exact hr
    · exact V.lr x m, V.dr, V.pl, V.pr⟩
theorem drifts_set (V : ValidK n L Dr Pu) {r : List Int} {k : Nat} (hk : k < n) (hr : (∀ s ∈ r, 0 ≤ s ∧ s < (n : Int)) ∧ r.Pairwise (· < ·)) : ValidK n L (Dr.take k ++ [r] ++ Dr.drop (k + 1)) Pu :=
  ⟨V.n1, V.n8, V.ll, by rw [len_spl (by rw [V.dl]; exact hk), V.dl], V.lr, fun x m => by
    rcases mem_spl m with rfl | m
    · exact hr
    · exact V.dr x m, V.pl, V.pr⟩
theorem nearly_ok {p : D} (hp : IsPool p) : ∃ p' n L Dr Pu, f__law_nearly_sure [p] = .ret (.lst true [looksD L, driftsD Dr, putsD Pu]) [p'] ∧ IsPool p' ∧ ValidK n L Dr Pu := by
  obtain ⟨p1, n, L, Dr, Pu, e1, hp1, V, hs⟩ := kind_parts_ok (st := true) hp
  have n1 := V.n1; have n8 := V.n8
  have ln := ln_looks V
  obtain ⟨k, p2, e2, hp2, bk⟩ := draw_n (m := (n : Int)) hp1 (by omega) (by omega)
  obtain ⟨c, p3, e3, hp3, bc⟩ := draw_n (m := 6) hp2 (by decide) (by decide)
  obtain ⟨k, rfl⟩ := Int.eq_ofNat_of_zero_le bk.1
  have hk : k < n := by omega
  have f0 := hp.fzd; have f1 := hp1.fzd; have f2 := hp2.fzd; have f3 := hp3.fzd
  have z1 := looksD_fzd L; have z2 := driftsD_fzd Dr; have z3 := putsD_fzd Pu
  have y1 := D.fz_of _ z1; have y2 := D.fz_of _ z2; have y3 := D.fz_of _ z3
  have k1 : fAdd (.int (k : Nat)) (.int 1) = some (.int ((k + 1 : Nat) : Int)) := by rw [fAdd_ii]; rfl
  by_cases c0 : c = 0
  · -- an outcome more
    obtain ⟨a, p4, e4, hp4, ba⟩ := draw_n (m := 10) hp3 (by decide) (by decide)
    obtain ⟨g, p5, e5, hp5, bg⟩ := draw_n (m := (n : Int)) hp4 (by omega) (by omega)
    have f4 := hp4.fzd; have f5 := hp5.fzd
    have bs : 0 ≤ ((k : Nat) : Int) ∧ ((k : Nat) : Int) < (n : Int) := by omega
    obtain ⟨h2, l2, mr⟩ := row_ix V bs
    have lr1 := (hs rfl).1 _ mr
    obtain ⟨y, hy⟩ : ∃ y, rowAt L (k : Nat) = [y] := by
      cases q : rowAt L (k : Nat) with
      | nil => rw [q] at lr1; cases lr1
      | cons x l =>
        rw [q] at lr1
        have : l = [] := List.eq_nil_of_length_eq_zero (by simpa using lr1)
        exact ⟨x, by rw [this]⟩
    have vy := (V.lr _ mr).2.1 y (by rw [hy]; exact List.mem_singleton.mpr rfl)
    rw [hy] at h2
    have i0 : fIx (rowD [y]) (.int 0) = some (.tup [.int y.1, .int y.2]) := rfl
    have ss := sortSet_pairs (ps := [y, (a, g)]) (by simp) (by simp) (fun q m => by
      rcases List.mem_cons.mp m with rfl | m
      · have := vy; omega
      · rw [List.mem_singleton.mp m]
        exact ⟨⟨ba.1, by omega⟩, ⟨bg.1, by omega⟩⟩)
    have ss : fSortSet (.lst true [.tup [.int y.1, .int y.2], .tup [.int a, .int g]]) = some (.lst true ((psort [y, (a, g)]).map VL.pairD)) := ss
    have ft : fTuple [.lst true ((psort [y, (a, g)]).map VL.pairD)] = some (rowD (psort [y, (a, g)])) := if_pos (fzdL_enc (fun _ => rfl) _)
    have vr : (1 ≤ (psort [y, (a, g)]).length ∧ (psort [y, (a, g)]).length ≤ 4) ∧ (∀ o ∈ psort [y, (a, g)], (0 ≤ o.1 ∧ o.1 < 10) ∧ (0 ≤ o.2 ∧ o.2 < (n : Int))) ∧ (psort [y, (a, g)]).Pairwise ltO := by
      refine ⟨?_, fun q m => ?_, psort_up.imp ltP_ltO⟩
      · have nd : (psort [y, (a, g)]).Nodup := psort_up.imp fun h => h.ne
        have l1 := nodup_len nd (U := [y, (a, g)]) fun x m => mem_psort.mp m
        have l0 : 0 < (psort [y, (a, g)]).length := List.length_pos_of_mem (mem_psort.mpr (List.mem_cons_self : y ∈ [y, (a, g)]))
        simp only [List.length_cons, List.length_nil] at l1
        omega
      · rcases List.mem_cons.mp (mem_psort.mp m) with rfl | m
        · exact vy
        · rw [List.mem_singleton.mp m]
          exact ⟨ba, bg⟩
    have V' := looks_set V hk vr
    refine ⟨p5, n, _, Dr, Pu, ?_, hp5, V'⟩
    have t1 : fSl none (some (k : Int)) (looksD L) = some (.tup ((L.map rowD).take k)) := by
      show some (D.tup (cutD _ _ _)) = _
      rw [cut_take (by rw [List.length_map, V.ll]; omega)]
    have t2 : fSl (some ((k + 1 : Nat) : Int)) none (looksD L) = some (.tup ((L.map rowD).drop (k + 1))) := by
      show some (D.tup (cutD _ _ _)) = _
      rw [cut_drop (by rw [List.length_map, V.ll]; omega)]
    have a1 := add_tup ((L.map rowD).take k) [rowD (psort [y, (a, g)])] (by simp [V.ll]; omega)
    have a2 := add_tup ((L.map rowD).take k ++ [rowD (psort [y, (a, g)])]) ((L.map rowD).drop (k + 1)) (by simp [V.ll]; omega)
    have el : D.tup ((L.map rowD).take k ++ [rowD (psort [y, (a, g)])] ++ (L.map rowD).drop (k + 1)) = looksD (L.take k ++ [psort [y, (a, g)]] ++ L.drop (k + 1)) := by
      show _ = D.tup (_ : List D)
      rw [List.map_append, List.map_append, List.map_take, List.map_drop]
      rfl
    rw [el] at a2
    have zn := looksD_fzd (L.take k ++ [psort [y, (a, g)]] ++ L.drop (k + 1))
    have yn := D.fz_of _ zn
    have zr := rowD_fzd (psort [y, (a, g)])
    have yr := D.fz_of _ zr
    have zpr := fzdL_enc (enc := VL.pairD) (fun _ => rfl) (psort [y, (a, g)])
    generalize ((k + 1 : Nat) : Int) = kk1 at *
    generalize ((k : Nat) : Int) = kk at *
    generalize (psort [y, (a, g)]).map VL.pairD = g1 at *
    unfold f__law_nearly_sure
    refine run_go rfl ?_
    unfold b__law_nearly_sure
    simp only [vls_, setO_nil, setI_nil, isi_int_int, isi_int_bool, isi_tup, isi_lst, f0, e1, f1, ln, e2, f2, e3, f3, c0, h2, i0, e4, f4, e5, f5, ss, ft, t1, t2, k1, a1, a2, z1, z2, z3, y1, y2, y3, zn, yn, zr, yr, fzdL, show ((0 + 1 : Nat) < big) from by decide, show ((0 + 1 + 1 : Nat) < big) from by decide, show ((0 + 1 + 1 + 1 : Nat) < big) from by decide, show ¬ ((0 : Int) = 1) from by decide, -fLen_t, -fTuple_l, -fSl_t]
    exact outD_rt rfl
  · by_cases c1 : c = 1
    · -- a drift more
      obtain ⟨g, p4, e4, hp4, bg⟩ := draw_n (m := (n : Int)) hp3 (by omega) (by omega)
      have f4 := hp4.fzd
      have V' := drifts_set V (r := [g]) hk ⟨fun s m => by rw [List.mem_singleton.mp m]; exact bg, by simp⟩
      refine ⟨p4, n, L, _, Pu, ?_, hp4, V'⟩
      have t1 : fSl none (some (k : Int)) (driftsD Dr) = some (.tup ((Dr.map iT).take k)) := by
        show some (D.tup (cutD _ _ _)) = _
        rw [cut_take (by rw [List.length_map, V.dl]; omega)]
      have t2 : fSl (some ((k + 1 : Nat) : Int)) none (driftsD Dr) = some (.tup ((Dr.map iT).drop (k + 1))) := by
        show some (D.tup (cutD _ _ _)) = _
        rw [cut_drop (by rw [List.length_map, V.dl]; omega)]
      have a1 : fAdd (.tup ((Dr.map iT).take k)) (.tup [.tup [.int g]]) = _ := add_tup ((Dr.map iT).take k) [iT [g]] (by simp [V.dl]; omega)
      have a2 := add_tup ((Dr.map iT).take k ++ [iT [g]]) ((Dr.map iT).drop (k + 1)) (by simp [V.dl]; omega)
      have el : D.tup ((Dr.map iT).take k ++ [iT [g]] ++ (Dr.map iT).drop (k + 1)) = driftsD (Dr.take k ++ [[g]] ++ Dr.drop (k + 1)) := by
        show _ = D.tup (_ : List D)
        rw [List.map_append, List.map_append, List.map_take, List.map_drop]
        rfl
      rw [el] at a2
      have zn := driftsD_fzd (Dr.take k ++ [[g]] ++ Dr.drop (k + 1))
      have yn := D.fz_of _ zn
      generalize ((k + 1 : Nat) : Int) = kk1 at *
      generalize ((k : Nat) : Int) = kk at *
      unfold f__law_nearly_sure
      refine run_go rfl ?_
      unfold b__law_nearly_sure
      simp only [vls_, setO_nil, setI_nil, isi_int_int, isi_int_bool, isi_tup, isi_lst, f0, e1, f1, ln, e2, f2, e3, f3, c0, c1, e4, f4, t1, t2, k1, a1, a2, z1, z2, z3, y1, y2, y3, zn, yn, fzdL, show ((0 + 1 : Nat) < big) from by decide, show ((0 + 1 + 1 + 1 : Nat) < big) from by decide, show ¬ ((1 : Int) = 0) from by decide, -fLen_t, -fTuple_l, -fSl_t]
      exact outD_rt rfl
    · refine ⟨p3, n, L, Dr, Pu, ?_, hp3, V⟩
      generalize ((k : Nat) : Int) = kk at *
      unfold f__law_nearly_sure
      refine run_go rfl ?_
      unfold b__law_nearly_sure
      simp only [vls_, setO_nil, setI_nil, isi_int_int, isi_int_bool, isi_tup, isi_lst, f0, e1, f1, ln, e2, f2, e3, f3, c0, c1, z1, z2, z3, y1, y2, y3, show ((0 + 1 + 1 + 1 : Nat) < big) from by decide, -fLen_t, -fTuple_l, -fSl_t]
      exact outD_rt rfl
end
end Q

set_option linter.all false
set_option maxRecDepth 100000
set_option maxHeartbeats 4000000
namespace Q
open PySem PySem.Spec PyProof.Rows L2 VL GR
/-! ### the law's own class -/
theorem cut_two {xs : List D} {a b : Nat} (h : b ≤ xs.length) (h2 : a ≤ b) : VL.cutD xs (some (a : Int)) (some (b : Int)) = (xs.take b).drop a := by
  unfold VL.cutD
  have e0 : HT.sIx xs.length 0 (some (a : Int)) = a := by
    unfold HT.sIx
    have c : ¬ (a : Int) < 0 := by omega
    simp [c]
    omega
  have e1 : HT.sIx xs.length xs.length (some (b : Int)) = b := by
    unfold HT.sIx
    have c : ¬ (b : Int) < 0 := by omega
    simp [c]
    omega
  rw [e0, e1, List.drop_take]
theorem sl_two {l : List Int} {a b : Nat} (h : b ≤ l.length) (h2 : a ≤ b) : fSl (some (a : Int)) (some (b : Int)) (iT l) = some (iT ((l.take b).drop a)) := by
  show some (D.tup (VL.cutD (l.map .int) (some (a : Int)) (some (b : Int)))) = _
  rw [cut_two (by rw [List.length_map]; exact h) h2, ← List.map_take, ← List.map_drop]
  rfl
theorem win_two (x : Nat → Int) {a d p : Nat} (h : a + d ≤ p) : ((win x p 0).take (a + d)).drop a = win x d a := by
  rw [win_take x h, win_drop x (by omega), Nat.zero_add, Nat.add_sub_cancel_left]
/-- of a row with a short round, the part of forty-eight tells whether so many answers on it is the same -/
theorem shift_iff {y : Nat → Int} {p l : Nat} (hp : 1 ≤ p) (p8 : p ≤ 8) (per : Per y p) (h1 : 1 ≤ l) (h8 : l ≤ 8) : win y (48 - l) l = win y (48 - l) 0 ↔ Per y l := by
  constructor
  · intro h i
    have hi : i % p < p := Nat.mod_lt _ (by omega)
    have a1 := congrArg (·[i % p]?) h
    simp only [win_ix y (show i % p < 48 - l by omega), Nat.zero_add] at a1
    have a2 := Option.some.inj a1
    rw [per.mod (i + l), per.mod i, ← a2, per.mod (l + i % p), Nat.add_comm l, Nat.mod_add_mod]
  · intro h
    refine win_eq fun m => ?_
    rw [Nat.zero_add, Nat.add_comm]
    exact h m
section
variable {n : Nat} {L : List (List Pr)} {Dr : List (List Int)} {Pu : List (Int × List Int)} {o : Bool} {u v s t : Int} {x0 x1 x2 : Option D}
/-- the least of all turns -/
theorem law_min {y : Nat → Int} {π : Nat} (h8 : π ≤ 8) (l : LP y π) : ∃ c, Canon y c ∧ ∃ xs, lcGo q1t__law_class tYesM q1e__law_class [5] (VL.upTo 0 π) [x0, x1, x2, some (iT (win y 48 0)), some (.int (π : Nat)), none] = .ok xs [x0, x1, x2, some (iT (win y 48 0)), some (.int (π : Nat)), none] ∧ fMinT [.lst true xs] = some (iT c) := by
  have lw := win_len y 48 0
  have lc := lcGo_mapE (t := q1t__law_class) (c := tYesM) (e := q1e__law_class) (own := [5]) (ρ := [x0, x1, x2, some (iT (win y 48 0)), some (.int (π : Nat)), none]) (enc := D.int) (F := fun a => .tup ((win y π a.toNat).map .int)) (xs := rng π) fun a m => by
    have ba := rng_mem.mp m
    obtain ⟨k, rfl⟩ := Int.eq_ofNat_of_zero_le ba.1
    have s1 := sl_two (l := win y 48 0) (a := k) (b := k + π) (by rw [lw]; omega) (by omega)
    rw [win_two y (by omega)] at s1
    have zw := D.fz_of _ (iT_fzd (win y π k))
    have et : D.tup ((win y π (k : Int).toNat).map .int) = iT (win y π k) := by rw [Int.toNat_natCast]; rfl
    rw [et]
    have es : ((k : Int) + (π : Int)) = ((k + π : Nat) : Int) := by omega
    unfold lcTurn q1t__law_class q1e__law_class
    simp only [vls_, setO_nil, setI_nil, isi_int_int, isi_int_bool, isi_tup, isi_lst, es, s1, zw]
  have ep : ∃ π', π = π' + 1 := ⟨π - 1, by have := l.pos; omega⟩
  obtain ⟨π', e'⟩ := ep
  have er : (rng π).map (fun a => D.tup ((win y π a.toNat).map .int)) = ((win y π 0) :: (List.range π').map fun k => win y π (k + 1)).map fun ns => D.tup (ns.map .int) := by
    unfold rng
    rw [List.map_map, e', List.range_succ_eq_map, List.map_cons, List.map_cons, List.map_map, List.map_map]
    congr 1
  have all : ∀ z, z ∈ (win y π 0) :: (List.range π').map (fun k => win y π (k + 1)) ↔ ∃ a, a < π ∧ z = win y π a := fun z => by
    rw [List.mem_cons, List.mem_map]
    constructor
    · rintro (rfl | ⟨k, hk, rfl⟩)
      · exact ⟨0, by omega, rfl⟩
      · exact ⟨k + 1, by have := List.mem_range.mp hk; omega, rfl⟩
    · rintro ⟨a, ha, rfl⟩
      cases a with
      | zero => exact .inl rfl
      | succ a => exact .inr ⟨a, List.mem_range.mpr (by omega), rfl⟩
  let c := minT (win y π 0) ((List.range π').map fun k => win y π (k + 1))
  obtain ⟨a, ha, ea⟩ := (all c).mp (minT_mem _ _)
  refine ⟨c, ⟨π, l, ⟨a, ea⟩, fun b => ?_⟩, _, by rw [upTo_rng]; exact lc, ?_⟩
  · rw [win_mod l.per]
    exact minT_le _ _ _ ((all _).mpr ⟨b % π, Nat.mod_lt _ (by omega), rfl⟩)
  · rw [er]
    exact fMinT_t
theorem law_class_loop {y : Nat → Int} {p π : Nat} (hp : 1 ≤ p) (p8 : p ≤ 8) (per : Per y p) (l : LP y π) (h8 : π ≤ 8) {c : List Int} {xs : List D}
    (e1 : lcGo q1t__law_class tYesM q1e__law_class [5] (VL.upTo 0 π) [x0, x1, x2, some (iT (win y 48 0)), some (.int (π : Nat)), none] = .ok xs [x0, x1, x2, some (iT (win y 48 0)), some (.int (π : Nat)), none]) (e2 : fMinT [.lst true xs] = some (iT c)) :
    ∀ (r j : Nat), 1 ≤ j → j ≤ π → j + r = 9 →
    loopS (setSlot 4) l1__law_class [4] ((List.range r).map fun (i : Nat) => D.int ((j : Int) + (i : Int))) [x0, x1, x2, some (iT (win y 48 0)), none, none] = .rt (iT c) [x0, x1, x2, some (iT (win y 48 0)), some (.int (π : Nat)), none]
  | 0, j, _, h, h9 => by omega
  | r + 1, j, h1, h, h9 => by
    have lw := win_len y 48 0
    have er : (List.range (r + 1)).map (fun (i : Nat) => D.int ((j : Int) + (i : Int))) = .int (j : Nat) :: (List.range r).map fun (i : Nat) => D.int (((j + 1 : Nat) : Int) + (i : Int)) := by
      rw [List.range_succ_eq_map, List.map_cons, List.map_map]
      congr 1
      refine List.map_congr_left fun i _ => ?_
      show D.int ((j : Int) + ((i + 1 : Nat) : Int)) = _
      congr 1
      omega
    rw [er]
    have s1 := sl_drop (l := win y 48 0) (d := j) (by rw [lw]; omega)
    rw [win_drop y (by omega), Nat.zero_add] at s1
    have s2 := sl_take (l := win y 48 0) (d := 48 - j) (by rw [lw]; omega)
    rw [win_take y (by omega)] at s2
    have es : ((48 : Int) - (j : Int)) = ((48 - j : Nat) : Int) := by omega
    have eq : fEq (iT (win y (48 - j) j)) (iT (win y (48 - j) 0)) = some (.bl (decide (win y (48 - j) j = win y (48 - j) 0))) := tyT.eq (by decide) rfl rfl
    by_cases cj : j = π
    · subst cj
      have w := (shift_iff hp p8 per h1 (by omega)).mpr l.per
      rw [decide_eq_true w] at eq
      have rn : ∀ ρ, rng1 (.int (j : Nat)) ρ = .ok (VL.upTo 0 j) ρ := fun ρ => by
        have := rng1_ok (ρ := ρ) (j := (j : Int)) (by omega)
        rwa [Int.toNat_natCast] at this
      have lu : (VL.upTo 0 j).length < big := by rw [upTo_len]; exact big1k (by omega)
      refine loopS_rt (ρt := [x0, x1, x2, some (iT (win y 48 0)), some (.int (j : Nat)), none]) rfl ?_
      unfold l1__law_class
      simp only [vls_, setO_nil, setI_nil, isi_int_int, isi_int_bool, isi_tup, isi_lst, s1, es, s2, eq, rn, lu, e1, e2]
    · have w : ¬ win y (48 - j) j = win y (48 - j) 0 := fun e => by
        have := l.le j h1 ((shift_iff hp p8 per h1 (by omega)).mp e)
        omega
      rw [decide_eq_false w] at eq
      refine (loopS_nx ?_).trans (law_class_loop hp p8 per l h8 e1 e2 r (j + 1) (by omega) (by omega) (by omega))
      rw [turnS_eq]
      unfold l1__law_class
      simp only [vls_, setO_nil, setI_nil, isi_int_int, isi_int_bool, isi_tup, isi_lst, s1, es, s2, eq]
theorem law_class_ok (V : ValidK n L Dr Pu) (S : Sr L Dr) (b : 0 ≤ s ∧ s < (n : Int)) {c : List Int} {k p : Nat} (hc : Canon (xs_ L k s) c) (hp : 1 ≤ p) (per : Per (xs_ L k s) p) (k8 : k ≤ 8) (p8 : p ≤ 8) :
    f__law_class [looksD L, .int s] = .ret (iT c) [looksD L, .int s] := by
  have per2 : Per (xs_ L 16 s) p := fun i => by
    have := per (16 - k + i)
    unfold xs_ at this ⊢
    rw [show 16 + (i + p) = k + (16 - k + i + p) from by omega, this, show k + (16 - k + i) = 16 + i from by omega]
  obtain ⟨π, l⟩ := lp_ex p hp per2
  have lπ : π ≤ p := l.le p hp per2
  obtain ⟨c', hc', xs, e1, e2⟩ := law_min (x0 := some (looksD L)) (x1 := some (.int s)) (x2 := some (.int (it L 16 s))) (y := xs_ L 16 s) (by omega) l
  have ec : c' = c := canon_eq hc' hc hp per2 hp per (c1 := k) (c2 := 16) fun m => by
    unfold xs_
    rw [show 16 + (k + m) = k + (16 + m) from by omega]
  subst ec
  have lp := law_class_loop hp p8 per2 l (by omega) e1 e2 8 1 (by omega) l.pos (by omega)
  have b16 := it_in V S 16 s b
  have r1 := long_row_ok V S b 16 (by decide)
  have r2 := long_row_ok V S b16 48 (by decide)
  have er : lr L (it L 16 s) 48 = win (xs_ L 16 s) 48 0 := by
    unfold lr win
    refine List.map_congr_left fun i _ => ?_
    unfold xs_
    rw [← it_add, Nat.zero_add, Nat.add_comm]
  rw [er] at r2
  have rn : ∀ ρ, rng2 (.int 1, .int 9) ρ = .ok ((List.range 8).map fun (i : Nat) => D.int (((1 : Nat) : Int) + (i : Int))) ρ := fun ρ => rfl
  have z1 := looksD_fzd L
  have y1 := D.fz_of _ z1
  have za := iT_fzd (lr L s 16)
  have zb := iT_fzd (win (xs_ L 16 s) 48 0)
  have ya := D.fz_of _ za
  have yb := D.fz_of _ zb
  have i1 : fIx (.lst true [iT (lr L s 16), .int (it L 16 s)]) (.int 1) = some (.int (it L 16 s)) := by
    show fAt _ 1 = _
    simp only [vls_, setO_nil, setI_nil, isi_int_int, isi_int_bool, isi_tup, isi_lst]
  have i0 : fIx (.lst true [iT (win (xs_ L 16 s) 48 0), .int (it L 48 (it L 16 s))]) (.int 0) = some (iT (win (xs_ L 16 s) 48 0)) := by
    show fAt _ 0 = _
    simp only [vls_, setO_nil, setI_nil, isi_int_int, isi_int_bool, isi_tup, isi_lst, zb]
  unfold f__law_class
  refine run_go rfl ?_
  unfold b__law_class i1__law_class
  have r1' : f__law_long_row [looksD L, .int s, .int 16] = .ret (.lst true [iT (lr L s 16), .int (it L 16 s)]) [looksD L, .int s, .int 16] := r1
  have r2' : f__law_long_row [looksD L, .int (it L 16 s), .int 48] = .ret (.lst true [iT (win (xs_ L 16 s) 48 0), .int (it L 48 (it L 16 s))]) [looksD L, .int (it L 16 s), .int 48] := r2
  simp only [vls_, setO_nil, setI_nil, isi_int_int, isi_int_bool, isi_tup, isi_lst, y1, z1, r1', r2', i1, i0, rn, lp, ya, yb]
  exact outD_rt rfl
end
end Q

set_option linter.all false
set_option maxRecDepth 100000
set_option maxHeartbeats 4000000
namespace Q
open PySem PySem.Spec PyProof.Rows L2 VL GR
theorem str_ne (a : Str) : fNe (.str a) (.str a) = some (.bl false) := by
  have := Ty.str.ne (by decide) (d := .str a) (e := .str a) (x := a) (y := a) rfl rfl
  simpa using this
theorem lk_ns : List.lookup ("NotSure" : Str) [(("NoStanding" : Str), false), (("NotSure" : Str), true)] = some true := by decide +kernel
theorem isi_bl_bool {b : Bool} : fIsi [] [.bl b, .ty "bool"] = some (.bl true) := (isi_one (n := "bool") rfl (by decide) (by decide))
theorem isi_iT {c : List Int} : fIsi [] [iT c, .ty "tuple"] = some (.bl true) := isi_tup
section
variable {n : Nat} {L : List (List Pr)} {Dr : List (List Int)} {Pu : List (Int × List Int)} {o sb : Bool} {u v s t : Int} {x0 x1 x4 : Option D}
theorem sure_is (V : ValidK n L Dr Pu) (hs : sb = true ↔ Sr L Dr) : f_sure [kindD o n L Dr Pu] = .ret (.bl sb) [kindD false n L Dr Pu] := by
  cases sb with
  | true => exact sure_ok V (hs.mp rfl)
  | false => exact sure_no V fun h => by have := hs.mpr h; cases this
theorem law_turn (V : ValidK n L Dr Pu) (hs : sb = true ↔ Sr L Dr) (b : 0 ≤ s ∧ s < (n : Int)) :
    turnS (setSlot 7) l1_law [7, 8] (.int s) [x0, x1, some (looksD L), some (driftsD Dr), x4, some (kindD false n L Dr Pu), some (.bl sb), none, none, some (.tab true)] =
      .nx [x0, x1, some (looksD L), some (driftsD Dr), x4, some (kindD false n L Dr Pu), some (.bl sb), none, none, some (.tab true)] := by
  have zk := kindD_fzd (n := n) (L := L) (Dr := Dr) (Pu := Pu)
  have z1 := looksD_fzd L; have y1 := D.fz_of _ z1
  cases sb with
  | true =>
    have S := hs.mp rfl
    obtain ⟨c, k, p, e, hc, _, hp, per, k8, p8⟩ := class_of_ok V S b
    have lc := law_class_ok V S b hc hp per k8 p8
    have e := e false
    have zc := iT_fzd c
    have ne : fNe (iT c) (iT c) = some (.bl false) := by
      have := tyT.ne (by decide) (d := iT c) (e := iT c) (x := c) (y := c) rfl rfl
      simpa using this
    rw [turnS_eq]
    unfold l1_law
    simp only [vls_, setO_nil, setI_nil, isi_int_int, isi_int_bool, isi_tup, isi_lst, ev_told, kindD_fz, zk, z1, y1, zc, e, isi_iT, lc, ne]
  | false =>
    have S : ¬ Sr L Dr := fun h => by have := hs.mpr h; cases this
    have w := class_no (o := false) V S b
    have nr := str_ne "refused"
    have lk := lk_ns
    rw [turnS_eq]
    unfold l1_law
    simp only [vls_, setO_nil, setI_nil, isi_int_int, isi_int_bool, isi_tup, isi_lst, ev_told, outE_exc, kindD_fz, zk, w, lk, nr]
theorem law_l1 (V : ValidK n L Dr Pu) (hs : sb = true ↔ Sr L Dr) : ∀ (ss : List Int), (∀ s ∈ ss, 0 ≤ s ∧ s < (n : Int)) →
    loopS (setSlot 7) l1_law [7, 8] (ss.map .int) [x0, x1, some (looksD L), some (driftsD Dr), x4, some (kindD false n L Dr Pu), some (.bl sb), none, none, some (.tab true)] =
      .nx [x0, x1, some (looksD L), some (driftsD Dr), x4, some (kindD false n L Dr Pu), some (.bl sb), none, none, some (.tab true)]
  | [], _ => by simp [loopS, forget]
  | s :: ss, h => by
    rw [List.map_cons, loopS_nx (law_turn V hs (h s List.mem_cons_self)), law_l1 V hs ss fun x m => h x (List.mem_cons_of_mem _ m)]
end
theorem law_ok (ns : List Int) : ∃ ρ, b_law (some (.scr ns) :: (List.replicate 8 none ++ [some (.tab true)])) = .rt (.bl true) ρ := by
  obtain ⟨p, e1, hp⟩ := pool_ok ns
  obtain ⟨p2, n, L, Dr, Pu, e2, hp2, V⟩ := nearly_ok hp
  have n1 := V.n1; have n8 := V.n8
  have f1 := hp.fzd; have f2 := hp2.fzd
  obtain ⟨sb, es, hs⟩ := law_is_sure_ok V
  have ln := ln_looks V
  have z1 := looksD_fzd L; have z2 := driftsD_fzd Dr; have z3 := putsD_fzd Pu
  have y1 := D.fz_of _ z1; have y2 := D.fz_of _ z2; have y3 := D.fz_of _ z3
  have rn : ∀ ρ, rng1 (.int n) ρ = .ok (VL.upTo 0 n) ρ := fun ρ => by
    have := rng1_ok (ρ := ρ) (j := (n : Int)) (by omega)
    rwa [Int.toNat_natCast] at this
  have lu : (VL.upTo 0 n).length < big := by rw [upTo_len]; exact big1k (by omega)
  have s1 := sure_is (o := true) V hs
  have s2 := sure_is (o := false) V hs
  have ki := kind_init_ok V
  have zk := kindD_fzd (n := n) (L := L) (Dr := Dr) (Pu := Pu)
  have zk1 : (kindD true n L Dr Pu).fzd = false := rfl
  have nb : fNe (.bl sb) (.bl sb) = some (.bl false) := by
    have := Ty.bl.ne (by decide) (d := .bl sb) (e := .bl sb) (x := sb) (y := sb) rfl rfl
    simpa using this
  have lp := law_l1 (x0 := some (.scr ns)) (x1 := some p2) (x4 := some (putsD Pu)) V hs (rng n) fun s m => rng_mem.mp m
  rw [← upTo_rng] at lp
  show ∃ ρ, b_law [some (.scr ns), none, none, none, none, none, none, none, none, some (.tab true)] = .rt (.bl true) ρ
  refine ⟨[some (.scr ns), some p2, some (looksD L), some (driftsD Dr), some (putsD Pu), some (kindD false n L Dr Pu), some (.bl sb), none, none, some (.tab true)], ?_⟩
  unfold b_law i1_law
  simp only [vls_, setO_nil, setI_nil, isi_int_int, isi_int_bool, isi_tup, isi_lst, f1, e1, e2, f2, es, z1, z2, z3, y1, y2, y3, ki, kindD_fz, zk, zk1, s1, s2, isi_bl_bool, nb, ln, rn, lu, lp, -fLen_t]
end Q

set_option maxRecDepth 100000 in
set_option maxHeartbeats 8000000 in
theorem PySem.Challenge.cw_lookspoil_k09_whole_sure_kinds_and_class_holds : PySem.Challenge.rw_lookspoil_k09_whole_sure_kinds_and_class.Holds := by
  exact K09.holds_of fun ns _ => Q.law_ok ns
