import PyProof.Rows.All
import Wide.All
import OpenK.AllK
import Wide.FinOn
import PyProof.ReprRoads
import HandS.ForMost
import HandS.IsInst
import HandS.NoneIn
import HandS.TupAny
import HandS.Style
import HandS.Defaults
import HandS.Zip
import HandS.Walk
import HandS.Deep
import OpenK.KMore
import HandS.SetFor
import HandS.SetTxt0
import HandS.Strs
import PyProof.Rows.SortShellAny
import HandS.Text
import HandS.Steps
import HandS.MapJoin
import HandS.More
import PyProof.RulesMatch
import KE.GoesEnum
import KE.GoesMore
import HandS.RevTup
import HandS.HeadHook3
import PySem.Challenge.RW_endonce_k01_lots
set_option Elab.async false
set_option linter.all false
set_option maxRecDepth 100000
set_option maxHeartbeats 4000000
namespace KV
open PySem PySem.Spec PyProof.Rows L2
/-! ### heaps -/
theorem same_upd {H : Hp} {p : Addr} {o : HO} (h : H p = none) : Same H (upd H p o) := fun b x e => by
  rw [upd_ne (ne_of_none e h)]
  exact e
theorem same_seqT {K : PySem.W.Frag} {H H' : Hp} {a : Addr} {xs : List V} (e : Same H H') (h : SqT K H a xs) : SqT K H' a xs := by
  rcases h with (h | ⟨o, h⟩) | h
  · exact .inl (.inl (e _ _ h))
  · exact .inl (.inr ⟨o, e _ _ h⟩)
  · exact .inr h
mutual
theorem dp_same {K : PySem.W.Frag} {H H' : Hp} (e : Same H H') : ∀ {v : V} {d : PyData}, Dp K H v d → Dp K H' v d
  | _, _, .non => .non
  | _, _, .bl b => .bl b
  | _, _, .int i => .int i
  | _, _, .str x => .str x
  | _, _, .lst h1 h2 => .lst (e.seq h1) (dps_same e h2)
  | _, _, .tup h1 h2 => .tup (same_seqT e h1) (dps_same e h2)
theorem dps_same {K : PySem.W.Frag} {H H' : Hp} (e : Same H H') : ∀ {vs : List V} {ds : List PyData}, DpAll K H vs ds → DpAll K H' vs ds
  | _, _, .nil => .nil
  | _, _, .cons h1 h2 => .cons (dp_same e h1) (dps_same e h2)
end
theorem dps_len {K : PySem.W.Frag} {H : Hp} : ∀ {vs : List V} {ds : List PyData}, DpAll K H vs ds → vs.length = ds.length
  | _, _, .nil => rfl
  | _, _, .cons _ h => congrArg (· + 1) (dps_len h)
theorem dps_get {K : PySem.W.Frag} {H : Hp} : ∀ {vs : List V} {ds : List PyData} {i : Nat} {v : V}, DpAll K H vs ds → vs[i]? = some v → ∃ d, ds[i]? = some d ∧ Dp K H v d
  | _, _, 0, _, .cons h1 _, e => ⟨_, rfl, by cases e; exact h1⟩
  | _, _, i + 1, _, .cons _ h2, e => dps_get (i := i) h2 e
theorem dps_get' {K : PySem.W.Frag} {H : Hp} : ∀ {vs : List V} {ds : List PyData} {i : Nat} {d : PyData}, DpAll K H vs ds → ds[i]? = some d → ∃ v, vs[i]? = some v ∧ Dp K H v d
  | _, _, 0, _, .cons h1 _, e => ⟨_, rfl, by cases e; exact h1⟩
  | _, _, i + 1, _, .cons _ h2, e => dps_get' (i := i) h2 e
theorem dps_app {K : PySem.W.Frag} {H : Hp} : ∀ {vs ws : List V} {ds es : List PyData}, DpAll K H vs ds → DpAll K H ws es → DpAll K H (vs ++ ws) (ds ++ es)
  | _, _, _, _, .nil, h => h
  | _, _, _, _, .cons h1 h2, h => .cons h1 (dps_app h2 h)
theorem dps_drop {K : PySem.W.Frag} {H : Hp} : ∀ {vs : List V} {ds : List PyData} (n : Nat), DpAll K H vs ds → DpAll K H (vs.drop n) (ds.drop n)
  | _, _, 0, h => h
  | _, _, n + 1, .nil => .nil
  | _, _, n + 1, .cons _ h => dps_drop n h
theorem dps_take {K : PySem.W.Frag} {H : Hp} : ∀ {vs : List V} {ds : List PyData} (n : Nat), DpAll K H vs ds → DpAll K H (vs.take n) (ds.take n)
  | _, _, 0, _ => .nil
  | _, _, n + 1, .nil => .nil
  | _, _, n + 1, .cons h1 h => .cons h1 (dps_take n h)
/-- the heap without some objects -/
def hide (B : List Addr) (H : Hp) : Hp := fun c => if c ∈ B then none else H c
theorem hide_out {B : List Addr} {H : Hp} {c : Addr} (h : c ∉ B) : hide B H c = H c := if_neg h
theorem hide_in {B : List Addr} {H : Hp} {c : Addr} (h : c ∈ B) : hide B H c = none := if_pos h
theorem hide_some {B : List Addr} {H : Hp} {c : Addr} {o : HO} (h : hide B H c = some o) : c ∉ B ∧ H c = some o := by
  by_cases e : c ∈ B
  · rw [hide_in e] at h; cases h
  · rw [hide_out e] at h; exact ⟨e, h⟩
theorem hide_same (B : List Addr) (H : Hp) : Same (hide B H) H := fun c o h => (hide_some h).2
theorem hide_nil (H : Hp) : hide [] H = H := funext fun c => hide_out List.not_mem_nil
/-- all but these is as it was -/
def SameX (B : List Addr) (H H' : Hp) : Prop := ∀ c o, c ∉ B → H c = some o → H' c = some o
theorem SameX.refl (B : List Addr) (H : Hp) : SameX B H H := fun _ _ _ h => h
theorem SameX.trans {B : List Addr} {H H1 H2 : Hp} (h1 : SameX B H H1) (h2 : SameX B H1 H2) : SameX B H H2 := fun c o n h => h2 c o n (h1 c o n h)
theorem SameX.of {B : List Addr} {H H' : Hp} (h : Same H H') : SameX B H H' := fun c o _ e => h c o e
theorem SameX.sub {B C : List Addr} {H H' : Hp} (h : SameX B H H') (s : ∀ b ∈ B, b ∈ C) : SameX C H H' := fun c o n e => h c o (fun z => n (s c z)) e
theorem SameX.same {H H' : Hp} (h : SameX [] H H') : Same H H' := fun c o e => h c o List.not_mem_nil e
theorem SameX.hide {B C : List Addr} {H H' : Hp} (h : SameX C H H') (s : ∀ b ∈ C, b ∈ B) : Same (hide B H) (hide B H') := fun c o e => by
  obtain ⟨n, e⟩ := hide_some e
  rw [hide_out n]
  exact h c o (fun z => n (s c z)) e
theorem sameX_upd {B : List Addr} {b : Addr} {H : Hp} {o : HO} (h : b ∈ B) : SameX B H (upd H b o) := fun c z n e => by
  have k : c ≠ b := fun q => n (by rw [q]; exact h)
  rw [upd_ne k]
  exact e
/-- a new object among the hidden ones -/
theorem SameX.enter {B C : List Addr} {H H' : Hp} {D : Addr} (h : SameX (D :: C) H H') (s : ∀ b ∈ C, b ∈ B) (n : H D = none) : Same (KV.hide B H) (KV.hide (D :: B) H') := fun c o e => by
  obtain ⟨k, e⟩ := hide_some e
  have cD : c ≠ D := ne_of_none e n
  have kD : c ∉ D :: B := fun z => (List.mem_cons.mp z).elim cD k
  rw [hide_out kD]
  exact h c o (fun z => (List.mem_cons.mp z).elim cD fun z => k (s c z)) e
/-- the new object goes: what was told without it stands with it -/
theorem hide_leave {B : List Addr} {H : Hp} {D : Addr} : Same (hide (D :: B) H) (hide B H) := fun c o e => by
  obtain ⟨k, e⟩ := hide_some e
  rw [hide_out (fun z => k (List.mem_cons_of_mem _ z))]
  exact e
theorem hide_upd {B : List Addr} {p : Addr} {H : Hp} {o : HO} (n : p ∉ B) : hide B (upd H p o) = upd (hide B H) p o := by
  funext c
  by_cases e : c ∈ B
  · have k : c ≠ p := fun z => n (by rw [← z]; exact e)
    rw [hide_in e, upd_ne k, hide_in e]
  · rw [hide_out e]
    by_cases q : c = p
    · subst q
      rw [upd_same, upd_same]
    · rw [upd_ne q, upd_ne q, hide_out e]
theorem hide_upd_in {B : List Addr} {p : Addr} {H : Hp} {o : HO} (n : p ∈ B) : hide B (upd H p o) = hide B H := by
  funext c
  by_cases e : c ∈ B
  · rw [hide_in e, hide_in e]
  · have k : c ≠ p := fun z => e (by rw [z]; exact n)
    rw [hide_out e, hide_out e, upd_ne k]
/-- these stand -/
def Live (B : List Addr) (H : Hp) : Prop := ∀ b ∈ B, H b ≠ none
theorem Live.nil (H : Hp) : Live [] H := fun _ h => absurd h List.not_mem_nil
theorem Live.new {B : List Addr} {H : Hp} {p : Addr} (h : Live B H) (e : H p = none) : p ∉ B := fun z => h p z e
theorem Live.same {B : List Addr} {H H' : Hp} (h : Live B H) (s : Same H H') : Live B H' := fun b hb e => by
  cases q : H b with
  | none => exact h b hb q
  | some o => rw [s b o q] at e; cases e
theorem Live.cons {B : List Addr} {H : Hp} {D : Addr} {o : HO} (h : Live B H) (e : H D = some o) : Live (D :: B) H := fun b hb => by
  rcases List.mem_cons.mp hb with rfl | hb
  · rw [e]; exact fun z => nomatch z
  · exact h b hb
theorem Live.tail {B : List Addr} {H : Hp} {D : Addr} (h : Live (D :: B) H) : Live B H := fun b hb => h b (List.mem_cons_of_mem _ hb)
theorem Live.upd {B : List Addr} {H : Hp} {p : Addr} {o : HO} (h : Live B H) : Live B (upd H p o) := fun b hb => by
  by_cases e : b = p
  · rw [e, upd_same]; exact fun z => nomatch z
  · rw [upd_ne e]; exact h b hb
/-- the box of draws: below n draws by its third number -/
def BoxAt (H : Hp) (b : Addr) (n : Nat) : Prop := ∃ x y c : Int, H b = some (.lst [.int x, .int y, .int c]) ∧ 0 ≤ y ∧ y < 2 ^ 62 ∧ 0 ≤ c ∧ c ≤ n
theorem BoxAt.le {H : Hp} {b : Addr} {n m : Nat} (h : BoxAt H b n) (k : n ≤ m) : BoxAt H b m := by
  obtain ⟨x, y, c, h1, h2, h3, h4, h5⟩ := h
  exact ⟨x, y, c, h1, h2, h3, h4, by omega⟩
theorem BoxAt.same {H H' : Hp} {b : Addr} {n : Nat} (h : BoxAt H b n) (e : Same H H') : BoxAt H' b n := by
  obtain ⟨x, y, c, h1, h2⟩ := h
  exact ⟨x, y, c, e _ _ h1, h2⟩
theorem BoxAt.new {H : Hp} {b p : Addr} {n : Nat} (h : BoxAt H b n) (e : H p = none) : p ≠ b := by
  obtain ⟨x, y, c, h1, _⟩ := h
  exact fun z => by rw [z, h1] at e; cases e
/-! ### data -/
mutual
def tupD : PyData → PyData
  | .list xs => .tuple (tupDs xs)
  | .tuple xs => .tuple (tupDs xs)
  | .none => .none
  | .bool b => .bool b
  | .int i => .int i
  | .str s => .str s
  | .dict k => .dict k
def tupDs : List PyData → List PyData
  | [] => []
  | d :: ds => tupD d :: tupDs ds
end
mutual
def lstD : PyData → PyData
  | .list xs => .list (lstDs xs)
  | .tuple xs => .list (lstDs xs)
  | .none => .none
  | .bool b => .bool b
  | .int i => .int i
  | .str s => .str s
  | .dict k => .dict k
def lstDs : List PyData → List PyData
  | [] => []
  | d :: ds => lstD d :: lstDs ds
end
mutual
/-- no dict, at most so deep, no sequence longer than 1000 -/
def okD : PyData → Nat → Bool
  | .list xs, n => decide (0 < n) && decide (xs.length ≤ 1000) && okDs xs (n - 1)
  | .tuple xs, n => decide (0 < n) && decide (xs.length ≤ 1000) && okDs xs (n - 1)
  | .none, _ => true
  | .bool _, _ => true
  | .int _, _ => true
  | .str _, _ => true
  | .dict _, _ => false
def okDs : List PyData → Nat → Bool
  | [], _ => true
  | d :: ds, n => okD d n && okDs ds n
end
theorem tupDs_map : ∀ ds, tupDs ds = ds.map tupD
  | [] => by simp [tupDs]
  | d :: ds => by simp [tupDs, tupDs_map ds]
theorem lstDs_map : ∀ ds, lstDs ds = ds.map lstD
  | [] => by simp [lstDs]
  | d :: ds => by simp [lstDs, lstDs_map ds]
theorem tupDs_len (ds : List PyData) : (tupDs ds).length = ds.length := by rw [tupDs_map, List.length_map]
theorem lstDs_len (ds : List PyData) : (lstDs ds).length = ds.length := by rw [lstDs_map, List.length_map]
theorem okDs_all : ∀ ds n, okDs ds n = ds.all fun d => okD d n
  | [], _ => by simp [okDs]
  | d :: ds, n => by simp [okDs, okDs_all ds n]
theorem okDs_get {ds : List PyData} {n i : Nat} {d : PyData} (h : okDs ds n = true) (e : ds[i]? = some d) : okD d n = true := by
  rw [okDs_all, List.all_eq_true] at h
  exact h d (List.mem_of_getElem? e)
mutual
theorem tup_lst : ∀ d, tupD (lstD d) = tupD d
  | .list xs => by simp only [lstD, tupD, tup_lsts xs]
  | .tuple xs => by simp only [lstD, tupD, tup_lsts xs]
  | .none => by simp only [lstD]
  | .bool b => by simp only [lstD]
  | .int i => by simp only [lstD]
  | .str s => by simp only [lstD]
  | .dict k => by simp only [lstD]
theorem tup_lsts : ∀ ds, tupDs (lstDs ds) = tupDs ds
  | [] => by simp only [lstDs]
  | d :: ds => by simp only [lstDs, tupDs, tup_lst d, tup_lsts ds]
end
mutual
theorem ok_lst : ∀ d n, okD (lstD d) n = okD d n
  | .list xs, n => by simp only [lstD, okD, ok_lsts xs, lstDs_len]
  | .tuple xs, n => by simp only [lstD, okD, ok_lsts xs, lstDs_len]
  | .none, n => by simp only [lstD]
  | .bool b, n => by simp only [lstD]
  | .int i, n => by simp only [lstD]
  | .str s, n => by simp only [lstD]
  | .dict k, n => by simp only [lstD]
theorem ok_lsts : ∀ ds n, okDs (lstDs ds) n = okDs ds n
  | [], n => by simp only [lstDs]
  | d :: ds, n => by simp only [lstDs, okDs, ok_lst d, ok_lsts ds]
end
mutual
theorem ok_tup : ∀ d n, okD (tupD d) n = okD d n
  | .list xs, n => by simp only [tupD, okD, ok_tups xs, tupDs_len]
  | .tuple xs, n => by simp only [tupD, okD, ok_tups xs, tupDs_len]
  | .none, n => by simp only [tupD]
  | .bool b, n => by simp only [tupD]
  | .int i, n => by simp only [tupD]
  | .str s, n => by simp only [tupD]
  | .dict k, n => by simp only [tupD]
theorem ok_tups : ∀ ds n, okDs (tupDs ds) n = okDs ds n
  | [], n => by simp only [tupDs]
  | d :: ds, n => by simp only [tupDs, okDs, ok_tup d, ok_tups ds]
end
mutual
/-- how many sequences -/
def nodesD : PyData → Nat
  | .list xs => nodesDs xs + 1
  | .tuple xs => nodesDs xs + 1
  | .none => 0
  | .bool _ => 0
  | .int _ => 0
  | .str _ => 0
  | .dict _ => 0
def nodesDs : List PyData → Nat
  | [] => 0
  | d :: ds => nodesD d + nodesDs ds
end
theorem ok_seq {xs : List PyData} {n : Nat} {d : PyData} (hd : d = .list xs ∨ d = .tuple xs) (h : okD d n = true) : ∃ m, n = m + 1 ∧ xs.length ≤ 1000 ∧ okDs xs m = true := by
  have h' : (decide (0 < n) && decide (xs.length ≤ 1000) && okDs xs (n - 1)) = true := by
    rcases hd with rfl | rfl <;> simpa only [okD] using h
  simp only [Bool.and_eq_true, decide_eq_true_eq] at h'
  obtain ⟨⟨h1, h2⟩, h3⟩ := h'
  exact ⟨n - 1, by omega, h2, h3⟩
/-- an atom -/
def isAtom : PyData → Bool
  | .none => true
  | .bool _ => true
  | .int _ => true
  | .str _ => true
  | _ => false
def isSeq : PyData → Bool
  | .list _ => true
  | .tuple _ => true
  | _ => false
/-! ### the class of a value -/
def tyD : PyData → String
  | .none => "NoneType"
  | .bool _ => "bool"
  | .int _ => "int"
  | .str _ => "str"
  | .list _ => "list"
  | .tuple _ => "tuple"
  | .dict _ => "dict"
theorem dp_ty {K : PySem.W.Frag} {H : Hp} {v : V} {d : PyData} (h : Dp K H v d) : TyX K H v (.type (tyD d)) := by
  cases h with
  | non => exact .base .non
  | bl b => exact .base (.bl b)
  | int i => exact .base (.int i)
  | str x => exact .base (.str x)
  | lst h1 _ =>
    rcases h1 with (h | ⟨o, h⟩) | ⟨o, its, n, h, hc, _⟩
    · exact .base (.lst h)
    · exact .base (.frz h)
    · exact .kList h hc
  | tup h1 _ =>
    rcases h1 with (h | ⟨o, h⟩) | ⟨o, its, n, h, hc, _⟩
    · exact .base (.tup h)
    · exact .fTuple h
    · exact .kTuple h hc
theorem kit_lt {K : PySem.W.Frag} {a : String} {r1 r2 : Bool} (h1 : kitB a "list" = some r1) (h2 : kitB a "tuple" = some r2) : PySem.W.kitAny K (.type a) [.type "list", .type "tuple"] = some (r1 || r2) := by
  cases r1 with
  | true => exact kitAny_cons (kit_ty h1) (fun z => nomatch z) fun _ => rfl
  | false =>
    cases r2 with
    | true => exact kitAny_cons (kit_ty h1) (fun _ => kitAny_cons (kit_ty h2) (fun z => nomatch z) fun _ => rfl) fun z => nomatch z
    | false => exact kitAny_cons (kit_ty h1) (fun _ => kitAny_cons (kit_ty h2) (fun _ => kitAny_nil) fun z => nomatch z) fun z => nomatch z
theorem kit_seq {K : PySem.W.Frag} : ∀ (d : PyData), PySem.W.kitAny K (.type (tyD d)) [.type "list", .type "tuple"] = some (isSeq d)
  | .none => kit_lt (a := "NoneType") (r1 := false) (r2 := false) (by decide +kernel) (by decide +kernel)
  | .bool _ => kit_lt (a := "bool") (r1 := false) (r2 := false) (by decide +kernel) (by decide +kernel)
  | .int _ => kit_lt (a := "int") (r1 := false) (r2 := false) (by decide +kernel) (by decide +kernel)
  | .str _ => kit_lt (a := "str") (r1 := false) (r2 := false) (by decide +kernel) (by decide +kernel)
  | .list _ => kit_lt (a := "list") (r1 := true) (r2 := false) (by decide +kernel) (by decide +kernel)
  | .tuple _ => kit_lt (a := "tuple") (r1 := false) (r2 := true) (by decide +kernel) (by decide +kernel)
  | .dict _ => kit_lt (a := "dict") (r1 := false) (r2 := false) (by decide +kernel) (by decide +kernel)
theorem cls_lt : Paired ClsV [.ty "list", .ty "tuple"] [.type "list", .type "tuple"] := .cons (.ty _) (.cons (.ty _) .nil)
theorem tup_atom : ∀ {d : PyData}, isSeq d = false → tupD d = d
  | .none, _ => by simp only [tupD]
  | .bool _, _ => by simp only [tupD]
  | .int _, _ => by simp only [tupD]
  | .str _, _ => by simp only [tupD]
  | .dict _, _ => by simp only [tupD]
theorem lst_atom : ∀ {d : PyData}, isSeq d = false → lstD d = d
  | .none, _ => by simp only [lstD]
  | .bool _, _ => by simp only [lstD]
  | .int _, _ => by simp only [lstD]
  | .str _, _ => by simp only [lstD]
  | .dict _, _ => by simp only [lstD]
/-- a sequence, of either kind -/
theorem dp_seq {K : PySem.W.Frag} {H : Hp} {v : V} {d : PyData} (h : Dp K H v d) (hs : isSeq d = true) : ∃ a xs ds, v = .ref a ∧ (SqL K H a xs ∧ d = .list ds ∨ SqT K H a xs ∧ d = .tuple ds) ∧ DpAll K H xs ds := by
  cases h with
  | lst h1 h2 => exact ⟨_, _, _, rfl, .inl ⟨h1, rfl⟩, h2⟩
  | tup h1 h2 => exact ⟨_, _, _, rfl, .inr ⟨h1, rfl⟩, h2⟩
  | non => exact nomatch hs
  | bl _ => exact nomatch hs
  | int _ => exact nomatch hs
  | str _ => exact nomatch hs
theorem dps_snoc {K : PySem.W.Frag} {H : Hp} {vs : List V} {ds : List PyData} {v : V} {d : PyData} (h : DpAll K H vs ds) (h1 : Dp K H v d) : DpAll K H (vs ++ [v]) (ds ++ [d]) := dps_app h (.cons h1 .nil)
theorem take_snoc {α : Type} {l : List α} {i : Nat} {x : α} (h : l[i]? = some x) : l.take (i + 1) = l.take i ++ [x] := by
  rw [List.take_add_one, h]
  rfl
/-! ### rules -/
section
variable {X : Cx} {pos : Pos}
/-- unpacking a list or a tuple -/
def gSeq (K : PySem.W.Frag) (n : Nat) (t : TGs) : TG := fun v σ H Q => ∃ a xs, v = .ref a ∧ (SqT K H a xs ∨ SqL K H a xs) ∧ xs.length = n ∧ t xs σ H Q
theorem pg_seq {es : List Expr} {k : Nat} {t : TGs} {n : Nat} (hc : X.calm = true) (h : PGs X es t)
    (hn : (assignEach es X.env).length = n := by rfl) (hst : (assignEach es X.env).findIdx? (·.1) = none := by rfl) : PG X (.Tuple es k pos) (gSeq X.K n t) := by
  refine ⟨fun pins s σ H v u Q I r hw => ?_⟩
  obtain ⟨a, xs, e1, hq | hq, hl, hw⟩ := hw
  · exact (pg_tup hc h hn hst).run pins s σ H v u Q I r ⟨a, xs, e1, hq, hl, hw⟩
  · exact (pg_unl hc h hn hst).run pins s σ H v u Q I r ⟨a, xs, e1, hq, hl, hw⟩
/-- walking a list or a tuple -/
def iSeq (K : PySem.W.Frag) (tl : TE) : TI := fun σ H R => iList K tl σ H R ∨ iTup K tl σ H R
theorem pi_seq {tg l : Expr} {tl : TE} (hl : PE X l tl) : PI X tg l (iSeq X.K tl) := by
  refine ⟨fun pins s σ H R I h => ?_⟩
  rcases h with h | h
  · exact (pi_list hl).run pins s σ H R I h
  · exact (pi_tup hl).run pins s σ H R I h
/-- isinstance(x, (list, tuple)) of data -/
def rIsSeq (K : PySem.W.Frag) : List V → Hp → VK → Prop := fun vs H Q => ∃ v tp d, vs = [v, .ref tp] ∧ H tp = some (.tup [.ty "list", .ty "tuple"]) ∧ Dp K H v d ∧ Q (.bl (isSeq d)) H
theorem cr_isSeq : CallR X (.builtin "isinstance") (rIsSeq X.K) := by
  intro pins s σ H vs us Q I r h
  obtain ⟨v, tp, d, rfl, ht, hd, q⟩ := h
  exact call_isiT pins s σ H _ us Q I r ⟨v, tp, _, _, _, _, rfl, ht, cls_lt, dp_ty hd, kit_seq d, q⟩
/-- repr of data -/
def rRepr (K : PySem.W.Frag) : List V → Hp → VK → Prop := fun vs H Q => ∃ v d, vs = [v] ∧ (∃ a, v = .ref a) ∧ Dp K H v d ∧ d.showable = true ∧ d.hasDict = false ∧ d.depth ≤ 60 ∧ d.shown.length ≤ sizeLine ∧ Q (.str d.shown) H
theorem cr_repr (hg : X.A.guards = some []) (hu : X.A.units + 64 < cLine) : CallR X (.builtin "repr") (rRepr X.K) := by
  intro pins s σ H vs us Q I r h
  obtain ⟨v, d, rfl, ⟨a, rfl⟩, hd, hs, hn, hdp, hz, q⟩ := h
  obtain ⟨u, rfl, ru⟩ := vals1 r
  cases (show u = Value.ref a from ru)
  obtain ⟨as, rd⟩ := Dp.reads I d (.ref a) (.ref a) hd rfl
  exact repr_of_reads' rd hs (fun z => by rw [hn] at z; cases z) hg (by omega) (fun _ _ e => e) (fun h' u tk hk => ⟨.str d.shown, H, I.kept hk, ⟨_, rfl⟩, q⟩) hz
end
end KV

namespace KV
open PySem PySem.Spec PyProof.Rows L2
/-! ### promises kept where no repr is under way -/
structure FnG (P : Program) (w : World) (K : PySem.W.Frag) (mg : Str → Option Value) (base : Heap) (k : Nat) (f : Addr) (fd : FuncData) (ps : List Str) (sp : Sp) : Prop where
  size : ∀ vs H Q E, sp vs H Q E → vs.length = ps.length
  goes : ∀ (A : Around) (outer : List Env) (s : Shared) (H : Hp) (args : Args) (us : List Value) (vs : List V) (Q : VK) (E : XK), A.guards = some [] → Room k A →
    Env0 P w K mg base A outer s H → BindsTo s fd args (ps.zip us) → Vals vs us → sp vs H Q E →
    codeAny (model P w) A (.call (.ref f) args) (CR CX0 outer P w H s Q E) s
theorem FnG.of {P : Program} {w : World} {K : PySem.W.Frag} {mg : Str → Option Value} {base : Heap} {k : Nat} {f : Addr} {fd : FuncData} {ps : List Str} {sp : Sp}
    (F : FnOk P w K mg base CX0 k f fd ps sp) : FnG P w K mg base k f fd ps sp :=
  ⟨F.len, fun A o s H args us vs Q E _ hr e0 hb r h => F.run A o s H args us vs Q E hr e0 hb r h⟩
/-- a def by its body, where no repr is under way -/
theorem okG {P : Program} {w : World} {K : PySem.W.Frag} {mg : Str → Option Value} {base : Heap} {x qual : Str} {st : Stmt} {f : Addr} {fd : FuncData} {N ps : List Str} {k : Nat} {sp : Sp}
    (F : Fun K x qual st f fd) (S : FnScope N ps (defScope st)) (size : ∀ vs H Q E, sp vs H Q E → vs.length = ps.length)
    (body : ∀ (cd : Value) (A : Around) (outer : List Env) (s : Shared) (H : Hp) (vs : List V) (Q : VK) (E : XK), A.guards = some [] →
      Room k (A.deeper (envOfC qual (defScope st) s.heap.objs.size f cd)) → sp vs H Q E →
      ∃ t, PSs (cxOf CX0 P w K mg base N qual (defScope st) f cd A outer s H E).nox (defBody st) t ∧ t { nx := fun _ H' => Q .non H', rt := Q } (start N vs) H) :
    FnG P w K mg base (k + 1) f fd ps sp := by
  obtain ⟨oc, od, kV, doc, pm, an, cd, ct, osl, rfl, lk, hcd⟩ := F.ex
  refine ⟨size, fun A outer s H args us vs Q E hgd room e0 binds rv hp => ?_⟩
  have inK : K.In s.heap := e0.mod.kin.keeps fun b o z => (e0.bs b o z).1
  have noLim : s.heap.NoLimit := e0.mod.nolimit.keeps fun b o z => (e0.bs b o z).1
  refine codeAny_call_function room.depth (inK _ _ lk) rfl S.co S.gen rfl (PySem.W.codeRec_of inK hcd) (binds _ _ _ _ ?_)
  refine wpAny_newFunctionEnv_cells S.kind (fun z hz => ?_) fun env he s1 x1 => ?_
  · obtain ⟨zn, zv⟩ := z
    exact (S.par zn (List.of_mem_zip hz).1).imp id fun q => ⟨q, PySem.W.cellsFrom_some _ _ _ (.inl q)⟩
  · subst he
    refine ⟨noLim.keeps x1.toInCall.keep, codeAny_func ?_⟩
    obtain ⟨t, ht, hq⟩ := body cd A outer s H vs Q E hgd (room.deeper _) hp
    have I := inv_start (CX := CX0) (P := P) (w := w) (K := K) (mg := mg) (base := base) (E := E) S room.hd e0 (size _ _ _ _ hp) rv x1
    refine wpAny_mono (ht.nox.run [] s1 (start N vs) H _ I hq) (fun fl s' hs => ?_) fun e s' hs => hs
    cases fl with
    | ret u =>
      obtain ⟨v, σ', H', J, q1, q2⟩ := hs
      exact ⟨v, H', J.os, J.bare, J.base, J.hok, q1, q2⟩
    | next =>
      obtain ⟨σ', H', J, q2⟩ := hs
      exact ⟨V.non, H', J.os, J.bare, J.base, J.hok, rfl, q2⟩
    | brk => obtain ⟨_, _, _, z⟩ := hs; exact z.elim
    | cont => obtain ⟨_, _, _, z⟩ := hs; exact z.elim
section
variable {X : Cx} {k : Nat} {f : Addr} {fd : FuncData} {ps ks : List Str} {sp : Sp} {E : XK} {x : Str} {p pos : Pos} {e : Expr} {es : List Expr} {t tk : TA} {kws : List Keyword}
/-- f(e, ..) of such a def -/
theorem pe_callG (F : FnG X.prog X.w X.K X.mg X.base k f fd ps sp) (hgd : X.A.guards = some []) (hr : Room k X.A) (hg : Gl X x) (hm : X.mg x = some (.ref f)) (hk : PySem.W.keepIn X.K (.ref f) = true) (hb : Binds X.K fd ps [])
    (ha : PA X (e :: es) t) (hdb : (x == ("__debug__" : Str)) = false := by decide) (he : starEach (e :: es) X.env = (false, eval e X.env) :: starEach es X.env := by rfl)
    (hpl : (backTo pos (starEach es X.env)).any (·.1) = false := by rfl) : PE X (.Call (.Name x p) (e :: es) [] pos) (tCall sp [] E0 t) := by
  refine ⟨fun pins s σ H Q I h => wpAny_Call_Name_kw (ld_glob I hg hm ?_ hdb)⟩
  refine PySem.W.callWith_K (h₀ := X.base) I.ok.mod.kin hk (thn (ha.run pos pins s σ H _ I h) fun us s1 hv => ?_) he hpl
  obtain ⟨vs, H1, I1, rv, q⟩ := hv
  have q0 : sp vs H1 Q E0 := by
    have q1 : sp (vs ++ []) H1 Q E0 := q
    rw [List.append_nil] at q1
    exact q1
  refine ⟨I1.kIn, wpAny_call (codeAny_mono (F.goes X.A X.stack s1 H1 ⟨us, []⟩ us vs Q E0 hgd hr I1.env0 ?_ rv q0) fun r s' hq => ?_)⟩
  · have hb1 := hb s1 us I1.kIn (by rw [List.append_nil, ← rv.length]; exact F.size _ _ _ _ q0)
    rw [List.append_nil] at hb1
    exact hb1
  · cases r with
    | error z => exact (show False from hq).elim
    | ok fl =>
      cases fl with
      | ret u => exact I1.after hq
      | next => exact (show False from hq).elim
      | brk => exact (show False from hq).elim
      | cont => exact (show False from hq).elim
variable {g : List Value → List Value → List Value} {gV : List V → List V → List V}
/-- f(k = v, ..) without positional values -/
theorem pe_callK0 (F : FnOk X.prog X.w X.K X.mg X.base CX0 k f fd ps sp) (hr : Room k X.A) (hg : Gl X x) (hm : X.mg x = some (.ref f)) (hk : PySem.W.keepIn X.K (.ref f) = true) (hb : KBinds X.K fd ps ks g gV)
    (hkw : PK X kws tk) (hall : (backToKw pos (keywordEach kws X.env)).all (·.1.isSome) = true := by rfl) (hks : (backToKw pos (keywordEach kws X.env)).filterMap (·.1) = ks := by rfl)
    (hdb : (x == ("__debug__" : Str)) = false := by decide)
    (hpl : ((backTo pos (starEach [] X.env)).any (·.1) || (backToKw pos (keywordEach kws X.env)).any (·.1.isNone)) = false := by rfl) :
    PE X (.Call (.Name x p) [] kws pos) (tCallK sp gV E0 tNil tk) := by
  refine ⟨fun pins s σ H Q I h => wpAny_Call_Name_kw (ld_glob I hg hm ?_ hdb)⟩
  refine PySem.W.callWith_KW0 (h₀ := X.base) I.ok.mod.kin hk hall (thn (hkw.run pos pins s σ H _ I h) fun ws s2 hv => ?_) hpl
  obtain ⟨zs, H2, I2, rz, q2⟩ := hv
  refine ⟨I2.kIn, ?_⟩
  rw [hks]
  exact run_fnk (us := []) (vs := []) F hr hb pass0 I2 .nil rz q2
end
/-- one parameter, given by its name -/
theorem kb1 {K : PySem.W.Frag} {x qual : Str} {st : Stmt} {f : Addr} {fd : FuncData} {a : Str} (F : Fun K x qual st f fd)
    (h : ∀ (kV doc pm : Value) (an : Option Addr) (cdv ct u : Value), bindArgs (PySem.W.fnOf x qual (defArgs st) (defBody st) (defScope st) .none kV doc pm an cdv ct) ⟨[], [(a, u)]⟩ = pure [(a, u)] ∧
      bindArgs (PySem.W.fnOf x qual (defArgs st) (defBody st) (defScope st) .none kV doc pm an cdv ct) ⟨[u], []⟩ = pure [(a, u)]) :
    KBinds K fd [a] [a] (fun us ws => us ++ ws) (fun vs zs => vs ++ zs) := by
  obtain ⟨oc, od, kV, doc, pm, an, cdv, ct, osl, rfl, lk, hcd⟩ := F.ex
  refine ⟨fun s us ws _ hl => ?_, fun r1 r2 => r1.append r2⟩
  match us, ws, hl with
  | [], [u], _ => exact .of_eq (h kV doc pm an cdv ct u).1
  | [u], [], _ => exact .of_eq (h kV doc pm an cdv ct u).2
/-! ### the head: the law's promise at the heap behind the top -/
theorem law_goes {P : Program} {w : World} {K : PySem.W.Frag} {mg mb : Str → Option Value} {k : Nat} {fa a : Addr} {fd : FuncData} {x : Str} {sp : Sp} {s₁ : Shared} {vs : List Value} {ns : List Int}
    (inK : K.In s₁.heap) (ng : s₁.heap.Ns mainGlobals mg) (nb : s₁.heap.Ns builtinsNs mb) (nbb : ∀ y : Str, y ≠ "__name__" → mb y = bootBuiltins y) (noLim : s₁.heap.NoLimit) (noGen : s₁.gens = #[])
    (cell : s₁.heap.get? a = some { cls := .type "list", data := .seq vs.toArray }) (nums : IntsAre vs ns) (short : ns.length ≤ sizeLine) (room : Room k callerA)
    (F : ∀ base : Heap, K.In base → base.Ns mainGlobals mg → FnG P w K mg base k fa fd [x] sp) (binds : ∀ (s : Shared) (u : Value), BindsTo s fd ⟨[u], []⟩ [(x, u)])
    (asks : ∀ H : Hp, Only H → SqL K H a (ns.map V.int) → sp [.ref a] H (fun v _ => v = .bl true) fun _ _ _ => False) :
    codeAny (model P w) callerA (.call (.ref fa) ⟨[.ref a], []⟩) (fun r s' => r = .ok (.ret (.bool true)) ∧ PySem.OldK s₁.heap s'.heap ∧ s'.os = s₁.os ∧ AllBare s'.gens) s₁ := by
  have rv := vals_ints nums
  have nLen := nums.length
  -- whatever is tracked is the script alone
  have main : ∀ H : Hp, Only H → SqL K H a (ns.map V.int) → HOk P w H s₁.heap → (∀ b, H b ≠ none → b = a ∧ K.lookup a = none) →
      codeAny (model P w) callerA (.call (.ref fa) ⟨[.ref a], []⟩) (fun r s' => r = .ok (.ret (.bool true)) ∧ PySem.OldK s₁.heap s'.heap ∧ s'.os = s₁.os ∧ AllBare s'.gens) s₁ := by
    intro H only seq ok alone
    have clear : ∀ {b : Addr} {o : Obj}, s₁.heap.get? b = some o → (∀ es ep, o.data = .dict es ep → True) → (∃ es ep, o.data = Data.dict es ep) → H b = none := fun {b o} eo _ hx => by
      obtain ⟨es, ep, hd⟩ := hx
      refine Classical.byContradiction fun z => ?_
      obtain ⟨rfl, _⟩ := alone b z
      rw [cell] at eo
      cases eo
      exact nomatch (show Data.seq vs.toArray _ = Data.dict es ep from hd)
    have nsB : ∀ {b : Addr} {m : Str → Option Value}, s₁.heap.Ns b m → (hidT s₁.heap H).Ns b m := fun {b m} ⟨o, es, ep, e, d, r⟩ => ⟨o, es, ep, hidT_get e (clear e (fun _ _ _ => trivial) ⟨es, ep, d⟩), d, r⟩
    have inB : K.In (hidT s₁.heap H) := fun b o e => hidT_get (inK b o e) (Classical.byContradiction fun z => by
      obtain ⟨rfl, hn⟩ := alone b z
      rw [hn] at e
      cases e)
    have md : Mod K mg (hidT s₁.heap H) := ⟨inB, nsB ng, ⟨mb, nsB nb, nbb⟩, let ⟨mc, h1, h2⟩ := noLim; ⟨mc, nsB h1, h2⟩⟩
    have e0 : Env0 P w K mg (hidT s₁.heap H) callerA [] s₁ H := ⟨rfl, md, fun b o e => of_hidT e, Nat.le_of_eq (hidT_size _ _), trivial, fun b hb => absurd hb List.not_mem_nil, ok, .of_eq noGen⟩
    refine codeAny_mono ((F _ inB (nsB ng)).goes callerA [] s₁ H ⟨[.ref a], []⟩ [.ref a] [.ref a] _ _ rfl room e0 (binds s₁ (.ref a)) (.cons rfl .nil) (asks H only seq)) fun r s' h => ?_
    cases r with
    | error e => exact (show False from h).elim
    | ok fl =>
      cases fl with
      | next => exact (show False from h).elim
      | brk => exact (show False from h).elim
      | cont => exact (show False from h).elim
      | ret u =>
        obtain ⟨v, H', os, bare, un, ok', rr, qv⟩ := h
        cases (show v = .bl true from qv)
        cases (show u = Value.bool true from rr)
        refine ⟨rfl, PySem.OldK.of_keep fun b o e => ?_, os, bare⟩
        cases hb : H b with
        | none => exact un.keep b o e hb (by intro z; exact absurd z List.not_mem_nil) (by simp)
        | some u =>
          rcases only b with z | ⟨ob, xs, z⟩
          · rw [hb] at z
            cases z
          · have e1 := (ok b _ z).1
            have e2 := (ok' b _ (un.frzs b ob _ z)).1
            rw [e] at e1
            cases e1
            exact e2
  cases hk : K.lookup a with
  | some o =>
    have e := inK a o hk
    rw [cell] at e
    cases e
    refine main (fun _ => none) (fun _ => .inl rfl) (.inr ⟨_, vs.toArray, _, hk, rfl, rfl, rfl, ?_, by simpa using rv⟩) (fun b u z => by cases z) (fun b z => absurd rfl z)
    rw [List.size_toArray, nLen]
    exact short
  | none =>
    have at_a : ∀ {b : Addr} {z : HO}, (if b = a then some (HO.frz { cls := .type "list", data := .seq vs.toArray } (.lst (ns.map V.int))) else none) = some z → b = a ∧ z = HO.frz { cls := .type "list", data := .seq vs.toArray } (.lst (ns.map V.int)) := fun {b z} e => by
      by_cases c : b = a
      · rw [if_pos c] at e
        exact ⟨c, (Option.some.inj e).symm⟩
      · rw [if_neg c] at e
        cases e
    refine main (fun b => if b = a then some (.frz { cls := .type "list", data := .seq vs.toArray } (.lst (ns.map V.int))) else none) (fun b => ?_) (.inl (.inr ⟨_, if_pos rfl⟩)) (fun b u z => ?_) (fun b z => ⟨?_, hk⟩)
    · by_cases c : b = a
      · exact .inr ⟨_, _, if_pos c⟩
      · exact .inl (if_neg c)
    · obtain ⟨rfl, rfl⟩ := at_a z
      exact ⟨cell, by rw [List.length_map]; exact short, vs, _, rv, cell⟩
    · by_cases c : b = a
      · exact c
      · exact absurd (if_neg c) z
theorem walkG {l : PySem.W.OpenLaw} {n k : Nat} {q : Program} {loose : List Str} {XP : (Str → Option Value) → Heap → Prop} {YP : World → Heap → Prop} {d : DefRec} {K : Params → PySem.W.Frag} {sp : World → Sp} {x : Str}
    (hn : l.most = some n) (hn2 : n ≤ sizeLine) (hdf : d.params.defaults = []) (room : Room k callerA)
    (hY : ∀ (w : World) (h : Heap), YP w h → (K w.params).In h)
    (F : ∀ (w : World) (mg : Str → Option Value) (fa : Addr) (h : Heap), (K w.params).In h → h.Ns mainGlobals mg → mg d.name = some (.ref fa) →
      ∃ fd : FuncData, (∀ (s : Shared) (u : Value), BindsTo s fd ⟨[u], []⟩ [(x, u)]) ∧
        ∀ base : Heap, (K w.params).In base → base.Ns mainGlobals mg → FnG l.prog w (K w.params) mg base k fa fd [x] (sp w))
    (asks : ∀ (w : World) (H : Hp) (a : Addr) (ns : List Int), ns.length ≤ n → Only H → SqL (K w.params) H a (ns.map V.int) → sp w [.ref a] H (fun v _ => v = .bl true) fun _ _ _ => False) :
    PySem.W.WalkO q loose XP YP l.row.toRowW d [] (fun f vs => PySem.call f vs) := by
  refine Att.attach_call hn hdf fun w _ s₁ mg mb fa _ _ _ _ a vs ns G Y _ _ _ hmg hobj hints hlen hgen => ?_
  have inK := hY w _ Y
  obtain ⟨fd, hb, hF⟩ := F w mg fa _ inK G.T.g hmg
  exact law_goes inK G.T.g G.T.b G.T.builtins G.T.nolimit hgen hobj hints (Nat.le_trans hlen hn2) room hF hb fun H h1 h2 => asks w H a ns hlen h1 h2
end KV

namespace KV
open PySem PySem.Spec PyProof.Rows L2
/-! ### the text -/
def topS (i : Nat) : Stmt := PySem.Challenge.pw_endonce_k01_lots.main.body.getD i (.Pass ⟨0, 0, 0, 0⟩)
abbrev sTake : Stmt := topS 32
section
variable {P : Program} {w : World} {K : PySem.W.Frag} {mg : Str → Option Value} {base : Heap}
/-! ### _law_take -/
def spTake : Sp := fun vs H Q _ => ∃ (b : Addr) (n : Nat) (m : Int), vs = [.ref b, .int m] ∧ 0 < m ∧ m < 2 ^ 20 ∧ BoxAt H b n ∧ n ≤ 2 ^ 40 ∧
  ∀ (r : Int) (H' : Hp), 0 ≤ r → r < m → SameX [b] H H' → BoxAt H' b (n + 1) → Q (.int r) H'
theorem sameB_upd {b : Addr} {H : Hp} {o : HO} : SameX [b] H (upd H b o) := sameX_upd (List.mem_singleton.mpr rfl)
theorem scTake : FnScope ["_law_box_here", "_law_below", "_law_found", "_law_once", "_law_odd", "_law_twice"] ["_law_box_here", "_law_below"] (defScope sTake) :=
  ⟨rfl, rfl, rfl, by decide +kernel, rfl, by decide +kernel, by decide +kernel⟩
theorem ok_take {f : Addr} {fd : FuncData} {k : Nat} (F : Fun K "_law_take" "_law_take" sTake f fd) (mi : mg "int" = none) : FnOk P w K mg base CX0 (k + 1) f fd ["_law_box_here", "_law_below"] spTake := by
  refine F.ok scTake (fun vs H Q E h => ?_) (fun cdv A outer s H vs Q E hr h => ?_)
  · obtain ⟨b, n, m, rfl, _⟩ := h
    rfl
  · obtain ⟨b, n, m, rfl, hm0, hm1, hB, hn, q⟩ := h
    obtain ⟨x, y, c, hb, hy0, hy1, hc0, hc1⟩ := hB
    refine ⟨_, pss_cons (ps_if (pt_cmpR op_gt (pe_ix ix_seq (pv 0) pe_int (fun _ _ => rfl)) pe_int (nomark _))
        (pss_cons (ps_set (i := 2) scTake.nd rfl (.inl rfl) (pe_op op_mod (pe_callTy call_int1 (by rfl) mi PyProof.Rows.boot_int (pa_cons (pe_ix ix_seq (pv 0) pe_int (fun _ _ => rfl)) pa_nil)) (pv 1)))
        (pss_cons (ps_asg (pe_op op_fdiv (pe_ix ix_seq (pv 0) pe_int (fun _ _ => rfl)) (pv 1)) (pg_sub (pv 0) pe_int set_list))
        (pss_one (ps_ret (pv 2))))) pss_nil)
      (pss_cons (ps_asg (pe_op op_add (pe_ix ix_seq (pv 0) pe_int (fun _ _ => rfl)) pe_int) (pg_sub (pv 0) pe_int set_list))
      (pss_cons (ps_set (i := 3) scTake.nd rfl (.inl rfl) (pe_op op_mod (pe_callTy call_int1 (by rfl) mi PyProof.Rows.boot_int (pa_cons (pe_op op_mul
          (pe_op op_add (pe_ix ix_seq (pv 0) pe_int (fun _ _ => rfl)) (pe_op op_mul pe_int (pe_ix ix_seq (pv 0) pe_int (fun _ _ => rfl))))
          (pe_op op_add pe_int (pe_ix ix_seq (pv 0) pe_int (fun _ _ => rfl)))) pa_nil)) pe_int))
      (pss_cons (ps_set (i := 4) scTake.nd rfl (.inl rfl) (pe_op op_add (pe_op op_mod (pe_callTy call_int1 (by rfl) mi PyProof.Rows.boot_int (pa_cons (pv 3) pa_nil)) pe_int) pe_int))
      (pss_cons (ps_set (i := 5) scTake.nd rfl (.inl rfl) (pe_op op_mod (pe_callTy call_int1 (by rfl) mi PyProof.Rows.boot_int (pa_cons (pe_op op_mul
          (pe_op op_add (pe_op op_add (pv 3) (pe_ix ix_seq (pv 0) pe_int (fun _ _ => rfl))) (pe_op op_fdiv (pe_ix ix_seq (pv 0) pe_int (fun _ _ => rfl)) pe_int)) (pv 4)) pa_nil)) pe_int))
      (pss_one (ps_ret (pe_op op_mod (pe_callTy call_int1 (by rfl) mi PyProof.Rows.boot_int (pa_cons (pe_op op_fdiv (pe_op op_mod
          (pe_callTy call_int1 (by rfl) mi PyProof.Rows.boot_int (pa_cons (pe_op op_add (pe_op op_mul (pv 5) pe_int) (pv 3)) pa_nil)) pe_int) pe_int) pa_nil)) (pv 1)))))))), ?_⟩
    refine ⟨_, rfl, .inl ⟨_, _, _, _, rfl, rfl, SqL.of hb, atI_nat (j := 0) rfl, ?_⟩⟩
    refine ⟨_, _, rfl, rfl, _, rfl, ite2 (fun e => ?_) (fun e => ?_)⟩
    · refine ⟨_, rfl, .inl ⟨_, _, _, _, rfl, rfl, SqL.of hb, atI_nat (j := 0) rfl, ?_⟩⟩
      refine .inl ⟨_, rfl, _, rfl, _, _, rfl, rfl, hm0, ?_⟩
      refine ⟨_, rfl, .inl ⟨_, _, _, _, rfl, rfl, SqL.of hb, atI_nat (j := 0) rfl, _, rfl, _, _, rfl, rfl, ⟨hm0, by omega⟩, ?_⟩⟩
      refine ⟨_, rfl, _, _, _, 0, rfl, rfl, hb, rfl, ?_⟩
      refine ⟨_, rfl, ?_⟩
      exact q _ _ (Int.emod_nonneg _ (by omega)) (Int.emod_lt_of_pos _ hm0) sameB_upd ⟨_, y, c, upd_same, hy0, hy1, hc0, by omega⟩
    · -- box[2] = box[2] + 1
      refine ⟨_, rfl, .inl ⟨_, _, _, _, rfl, rfl, SqL.of hb, atI_nat (j := 2) rfl, _, _, rfl, rfl, ?_⟩⟩
      refine ⟨_, rfl, _, _, _, 2, rfl, rfl, hb, rfl, ?_⟩
      have h1 : ∀ (u v z : Int), (upd H b (.lst [.int u, .int v, .int z])) b = some (.lst [.int u, .int v, .int z]) := fun u v z => upd_same
      show tSeq _ _ _ _ (upd H b (.lst [.int x, .int y, .int (c + 1)]))
      -- once
      refine ⟨_, rfl, .inl ⟨_, _, _, _, rfl, rfl, SqL.of (h1 _ _ _), atI_nat (j := 1) rfl, _, rfl, .inl ⟨_, _, _, _, rfl, rfl, SqL.of (h1 _ _ _), atI_nat (j := 2) rfl, _, _, rfl, rfl, .inl ⟨by decide, by decide⟩, _, _, rfl, rfl,
        _, rfl, .inl ⟨_, _, _, _, rfl, rfl, SqL.of (h1 _ _ _), atI_nat (j := 2) rfl, _, _, rfl, rfl, _, _, rfl, rfl, .inr ⟨by omega, by omega⟩, .inl ⟨_, rfl, _, _, rfl, rfl, (by show (0 : Int) < _; decide), ?_⟩⟩⟩⟩⟩
      have o0 : 0 ≤ (y + 48271 * (c + 1)) * (39373 + (c + 1)) % 2147483647 := Int.emod_nonneg _ (by decide)
      have o1 : (y + 48271 * (c + 1)) * (39373 + (c + 1)) % 2147483647 < 2147483647 := Int.emod_lt_of_pos _ (by decide)
      generalize (y + 48271 * (c + 1)) * (39373 + (c + 1)) % 2147483647 = once at o0 o1
      -- odd
      refine ⟨_, rfl, .inl ⟨_, rfl, _, _, rfl, rfl, (by show (0 : Int) < _; decide), _, _, rfl, rfl, ?_⟩⟩
      have d0 : 0 ≤ once % 40009 := Int.emod_nonneg _ (by decide)
      have d1 : once % 40009 < 40009 := Int.emod_lt_of_pos _ (by decide)
      generalize once % 40009 = odd at d0 d1
      -- twice
      refine ⟨_, rfl, _, rfl, .inl ⟨_, _, _, _, rfl, rfl, SqL.of (h1 _ _ _), atI_nat (j := 2) rfl, _, _, rfl, rfl, _, rfl, .inl ⟨_, _, _, _, rfl, rfl, SqL.of (h1 _ _ _), atI_nat (j := 1) rfl, _, _, rfl, rfl, ⟨by decide, by decide⟩, _, _, rfl, rfl,
        _, rfl, _, _, rfl, rfl, .inr ⟨by omega, by omega⟩, .inl ⟨_, rfl, _, _, rfl, rfl, (by show (0 : Int) < _; decide), ?_⟩⟩⟩⟩
      have t0 : 0 ≤ (once + (c + 1) + y / 1000003) * (odd + 7) % 2147483629 := Int.emod_nonneg _ (by decide)
      have t1 : (once + (c + 1) + y / 1000003) * (odd + 7) % 2147483629 < 2147483629 := Int.emod_lt_of_pos _ (by decide)
      generalize (once + (c + 1) + y / 1000003) * (odd + 7) % 2147483629 = twice at t0 t1
      -- the draw
      refine ⟨_, rfl, _, _, rfl, rfl, .inr ⟨by decide, by decide⟩, _, rfl, _, _, rfl, rfl, .inl ⟨_, rfl, _, _, rfl, rfl, (by show (0 : Int) < _; decide), _, _, rfl, rfl, ⟨by decide, by decide⟩, .inl ⟨_, rfl, _, rfl, _, _, rfl, rfl, hm0, ?_⟩⟩⟩
      exact q _ _ (Int.emod_nonneg _ (by omega)) (Int.emod_lt_of_pos _ hm0) sameB_upd ⟨x, y, c + 1, upd_same, hy0, hy1, by omega, by omega⟩
end
end KV

namespace KV
open PySem PySem.Spec PyProof.Rows L2
/-- pairs of two lists of one length -/
inductive All2 {α β : Type} (R : α → β → Prop) : List α → List β → Prop
  | nil : All2 R [] []
  | cons {a : α} {b : β} {as : List α} {bs : List β} : R a b → All2 R as bs → All2 R (a :: as) (b :: bs)
theorem All2.snoc {α β : Type} {R : α → β → Prop} {as : List α} {bs : List β} {a : α} {b : β} (h : All2 R as bs) (k : R a b) : All2 R (as ++ [a]) (bs ++ [b]) := by
  induction h with
  | nil => exact .cons k .nil
  | cons h1 _ ih => exact .cons h1 ih
theorem All2.fn {α β : Type} {f : α → β} : ∀ {as : List α} {bs : List β}, All2 (fun a b => b = f a) as bs → bs = as.map f
  | _, _, .nil => rfl
  | _, _, .cons h1 h2 => by rw [h1, h2.fn]; rfl
theorem SameX.live {B C : List Addr} {H H' : Hp} (h : SameX C H H') (l : Live B H) (k : ∀ b ∈ C, H' b ≠ none) : Live B H' := fun b hb e => by
  by_cases c : b ∈ C
  · exact k b c e
  · cases q : H b with
    | none => exact l b hb q
    | some o => rw [h b o c q] at e; cases e
theorem tYes_ok {σ : L2.St} {H : Hp} {R1 R2 : Hp → Prop} (h : R1 H) : tYes σ H fun b H3 => if b = true then R1 H3 else R2 H3 := by
  show (if true = true then R1 H else R2 H)
  rw [if_pos rfl]
  exact h
/-- walking data -/
def iDat (K : PySem.W.Frag) (B : List Addr) (tl : TE) : TI := fun σ H R => tl σ H fun x H1 => ∃ a xs, x = .ref a ∧ (SqL K (hide B H1) a xs ∨ SqT K (hide B H1) a xs) ∧ ∀ J G, Walk J xs.length G (YAt xs) → (∀ H2, Same (hide B H1) H2 → G H2) → R J H1
theorem pi_dat {X : Cx} {tg l : Expr} {tl : TE} (B : List Addr) (hl : PE X l tl) : PI X tg l (iDat X.K B tl) := by
  refine ⟨fun pins s σ H R I h => ?_⟩
  refine thn (hl.run pins s σ H _ I h) fun v s1 hv => ?_
  obtain ⟨x, H1, I1, r1, a, xs, rfl, hk, q⟩ := hv
  cases r1
  rcases hk with hk | hk
  · have hk1 := (hide_same B H1).seq hk
    obtain ⟨its, rv, p, hz⟩ := I1.list hk1
    refine wpAny_pyIter_list p.isList ?_
    refine ⟨s1.heap.objs.size, [s1.heap.objs.size], _, _, H1, rfl, I1.kept (t' := s1.toks) fun b o e => Heap.get?_push_of_some _ e, turn_list a _, ⟨_, Heap.get?_push_size _ rfl, rfl, rfl⟩, fun b hb => ?_, q _ _ (walk_list (xs := xs)) fun H2 h2 => h2.seq hk⟩
    cases List.mem_singleton.mp hb
    exact I1.fpOk (Nat.le_refl _) (I1.hok.fresh (Nat.le_refl _))
  · have hk1 := same_seqT (hide_same B H1) hk
    obtain ⟨its, rv, p, hz⟩ := I1.tuple hk1
    refine wpAny_pyIter_tuple (show s1.heap.IsTuple a its.toArray from p) ?_
    refine ⟨s1.heap.objs.size, [s1.heap.objs.size], _, _, H1, rfl, I1.kept (t' := s1.toks) fun b o e => Heap.get?_push_of_some _ e, turn_tuple a _, ⟨_, Heap.get?_push_size _ rfl, rfl, rfl⟩, fun b hb => ?_, q _ _ (walk_tup (xs := xs)) fun H2 h2 => same_seqT h2 hk⟩
    cases List.mem_singleton.mp hb
    exact I1.fpOk (Nat.le_refl _) (I1.hok.fresh (Nat.le_refl _))
/-- a comprehension that makes of each part of a sequence a value -/
theorem lc_dp {K : PySem.W.Frag} {J : It} {G : Hp → Prop} {xs : List V} (w : Walk J xs.length G (YAt xs)) {ds : List PyData} {B C : List Addr} {σ : L2.St} {i : Nat} {te : TE} {H1 : Hp} {D : Addr} {Qd : Hp → Prop}
    (hx : DpAll K (hide B H1) xs ds) (hB : Live B H1) (hC : ∀ b ∈ C, b ∈ B) (nD : H1 D = none) (hz : xs.length ≤ 1000) (hG : ∀ H, Same (hide B H1) H → G H)
    (Pb : Nat → Hp → Prop) (s0 : Pb 0 H1) (hSt : ∀ j H o, H D = none ∨ (∃ l, H D = some (.lst l)) → Pb j H → Pb j (upd H D o)) (hLv : ∀ j H, Pb j H → ∀ b ∈ C, H b ≠ none) (R : PyData → PyData → Prop)
    (step : ∀ (j : Nat) (x : V) (d : PyData) (H : Hp) (Q : VK), xs[j]? = some x → ds[j]? = some d → Live (D :: B) H → Pb j H → Dp K (hide (D :: B) H) x d →
      (∀ y H' d', SameX C H H' → R d d' → Dp K (hide (D :: B) H') y d' → Pb (j + 1) H' → Q y H') → te ((wipe σ [i]).set i (some x)) H Q)
    (hd : ∀ H acc ds', SameX (D :: C) H1 H → Live (D :: B) H → Pb xs.length H → H D = some (.lst acc) → DpAll K (hide (D :: B) H) acc ds' → All2 R ds ds' → Qd H) :
    ∃ W : Nat → Nat → Hp → Prop, (∃ m, W 0 m (upd H1 D (.lst []))) ∧ ∀ i' m H, W i' m H →
      (J.stop i' H ∧ Qd H) ∨ (J.go i' H ∧ ∃ Nx : Hp → Prop, (∀ H', Nx H' → ∃ m', m' < m ∧ W (i' + 1) m' H') ∧ ∀ x H', J.yld i' H x H' → gName i x (wipe σ [i]) H' fun σ2 H2 => wipe σ2 [i] = wipe σ [i] ∧ tYes σ2 H2 fun b H3 =>
        if b = true then te σ2 H3 fun y H4 => ∃ acc, H4 D = some (.lst acc) ∧ acc.length < sizeLine ∧ Nx (upd H4 D (.lst (acc ++ [y]))) else Nx H3) := by
  have nB : D ∉ B := hB.new nD
  have nC : D ∉ C := fun z => nB (hC D z)
  have hl := dps_len hx
  refine lc_it w (fun j H => SameX (D :: C) H1 H ∧ Live (D :: B) H ∧ Pb j H ∧ ∃ acc ds', H D = some (.lst acc) ∧ acc.length = j ∧ DpAll K (hide (D :: B) H) acc ds' ∧ All2 R (ds.take j) ds') ?_ (fun j H _ h => hG H ((h.1.enter hC nD).trans (hide_same _ _))) ?_ ?_
  · refine ⟨fun c o n e => ?_, Live.cons hB.upd upd_same, hSt 0 H1 _ (.inl nD) s0, [], [], upd_same, rfl, .nil, .nil⟩
    rw [upd_ne (ne_of_none e nD)]
    exact e
  · rintro j x H H' hj ⟨hs, lv, st, acc, ds', hD, hacc, ha, h2⟩ ⟨rfl, hx1⟩
    obtain ⟨d, hd1, hdp⟩ := dps_get hx hx1
    refine ⟨?_, ?_⟩
    · show wipe ((wipe σ [i]).set i (some x)) [i] = wipe σ [i]
      show ((((σ.set i none)).set i (some x)).set i none) = σ.set i none
      rw [List.set_set, List.set_set]
    · refine tYes_ok ?_
      refine step j x d _ _ hx1 hd1 lv st (dp_same (hs.enter hC nD) hdp) fun y H4 d' s4 r4 dp4 st4 => ?_
      have hD4 : H4 D = some (.lst acc) := s4 D _ nC hD
      refine ⟨acc, hD4, by rw [hacc]; exact small1000 (by omega), ?_, ?_, hSt _ _ _ (.inr ⟨_, hD4⟩) st4, acc ++ [y], ds' ++ [d'], upd_same, by rw [List.length_append, hacc]; rfl, ?_, ?_⟩
      · exact hs.trans ((s4.sub fun b hb => List.mem_cons_of_mem _ hb).trans (sameX_upd List.mem_cons_self))
      · exact Live.upd (s4.live lv (hLv _ _ st4))
      · rw [hide_upd_in List.mem_cons_self]
        exact dps_snoc (dps_same (s4.hide fun b hb => List.mem_cons_of_mem _ (hC b hb)) ha) dp4
      · rw [take_snoc hd1]
        exact h2.snoc r4
  · rintro H ⟨hs, lv, st, acc, ds', hD, hacc, ha, h2⟩
    refine hd H acc ds' hs lv st hD ha ?_
    rw [hl, List.take_length] at h2
    exact h2
/-- the same, any target -/
theorem lc_dg {K : PySem.W.Frag} {J : It} {G : Hp → Prop} {xs : List V} (w : Walk J xs.length G (YAt xs)) {ds : List PyData} {B C : List Addr} {σ : L2.St} {vs : List Nat} {g : TG} {te : TE} {H1 : Hp} {D : Addr} {Qd : Hp → Prop}
    (hx : DpAll K (hide B H1) xs ds) (hB : Live B H1) (hC : ∀ b ∈ C, b ∈ B) (nD : H1 D = none) (hz : xs.length ≤ 1000) (hG : ∀ H, Same (hide B H1) H → G H)
    (Pb : Nat → Hp → Prop) (s0 : Pb 0 H1) (hSt : ∀ j H o, H D = none ∨ (∃ l, H D = some (.lst l)) → Pb j H → Pb j (upd H D o)) (hLv : ∀ j H, Pb j H → ∀ b ∈ C, H b ≠ none) (R : PyData → PyData → Prop)
    (step : ∀ (j : Nat) (x : V) (d : PyData) (H : Hp) (Q : VK), xs[j]? = some x → ds[j]? = some d → Live (D :: B) H → Pb j H → Dp K (hide (D :: B) H) x d →
      (∀ y H' d', SameX C H H' → R d d' → Dp K (hide (D :: B) H') y d' → Pb (j + 1) H' → Q y H') → g x (wipe σ vs) H fun σ2 H2 => wipe σ2 vs = wipe σ vs ∧ te σ2 H2 Q)
    (hd : ∀ H acc ds', SameX (D :: C) H1 H → Live (D :: B) H → Pb xs.length H → H D = some (.lst acc) → DpAll K (hide (D :: B) H) acc ds' → All2 R ds ds' → Qd H) :
    ∃ W : Nat → Nat → Hp → Prop, (∃ m, W 0 m (upd H1 D (.lst []))) ∧ ∀ i' m H, W i' m H →
      (J.stop i' H ∧ Qd H) ∨ (J.go i' H ∧ ∃ Nx : Hp → Prop, (∀ H', Nx H' → ∃ m', m' < m ∧ W (i' + 1) m' H') ∧ ∀ x H', J.yld i' H x H' → g x (wipe σ vs) H' fun σ2 H2 => wipe σ2 vs = wipe σ vs ∧ tYes σ2 H2 fun b H3 =>
        if b = true then te σ2 H3 fun y H4 => ∃ acc, H4 D = some (.lst acc) ∧ acc.length < sizeLine ∧ Nx (upd H4 D (.lst (acc ++ [y]))) else Nx H3) := by
  have nB : D ∉ B := hB.new nD
  have nC : D ∉ C := fun z => nB (hC D z)
  have hl := dps_len hx
  refine lc_it w (fun j H => SameX (D :: C) H1 H ∧ Live (D :: B) H ∧ Pb j H ∧ ∃ acc ds', H D = some (.lst acc) ∧ acc.length = j ∧ DpAll K (hide (D :: B) H) acc ds' ∧ All2 R (ds.take j) ds') ?_ (fun j H _ h => hG H ((h.1.enter hC nD).trans (hide_same _ _))) ?_ ?_
  · refine ⟨fun c o n e => ?_, Live.cons hB.upd upd_same, hSt 0 H1 _ (.inl nD) s0, [], [], upd_same, rfl, .nil, .nil⟩
    rw [upd_ne (ne_of_none e nD)]
    exact e
  · rintro j x H H' hj ⟨hs, lv, st, acc, ds', hD, hacc, ha, h2⟩ ⟨rfl, hx1⟩
    obtain ⟨d, hd1, hdp⟩ := dps_get hx hx1
    have key : ∀ {A : Prop} {R1 R2 : Hp → Prop} {s2 : L2.St} {H2 : Hp}, (A ∧ tYes s2 H2 fun b H3 => if b = true then R1 H3 else R2 H3) = (A ∧ R1 H2) := fun {A R1 R2 s2 H2} => by
      show (A ∧ if true = true then R1 H2 else R2 H2) = (A ∧ R1 H2)
      rw [if_pos rfl]
    simp only [key]
    · refine step j x d _ _ hx1 hd1 lv st (dp_same (hs.enter hC nD) hdp) fun y H4 d' s4 r4 dp4 st4 => ?_
      have hD4 : H4 D = some (.lst acc) := s4 D _ nC hD
      refine ⟨acc, hD4, by rw [hacc]; exact small1000 (by omega), ?_, ?_, hSt _ _ _ (.inr ⟨_, hD4⟩) st4, acc ++ [y], ds' ++ [d'], upd_same, by rw [List.length_append, hacc]; rfl, ?_, ?_⟩
      · exact hs.trans ((s4.sub fun b hb => List.mem_cons_of_mem _ hb).trans (sameX_upd List.mem_cons_self))
      · exact Live.upd (s4.live lv (hLv _ _ st4))
      · rw [hide_upd_in List.mem_cons_self]
        exact dps_snoc (dps_same (s4.hide fun b hb => List.mem_cons_of_mem _ (hC b hb)) ha) dp4
      · rw [take_snoc hd1]
        exact h2.snoc r4
  · rintro H ⟨hs, lv, st, acc, ds', hD, hacc, ha, h2⟩
    refine hd H acc ds' hs lv st hD ha ?_
    rw [hl, List.take_length] at h2
    exact h2
end KV

namespace KV
open PySem PySem.Spec PyProof.Rows L2
def tNone : TE := fun _ _ _ => False
theorem pe_never {X : Cx} {e : Expr} : PE X e tNone := ⟨fun _ _ _ _ _ _ h => h.elim⟩
theorem nodesDs_app : ∀ (as bs : List PyData), nodesDs (as ++ bs) = nodesDs as + nodesDs bs
  | [], bs => by simp only [List.nil_append, nodesDs, Nat.zero_add]
  | a :: as, bs => by simp only [List.cons_append, nodesDs, nodesDs_app as bs, Nat.add_assoc]
theorem nodes_take {ds : List PyData} {j : Nat} {e : PyData} (h : ds[j]? = some e) : nodesDs (ds.take (j + 1)) = nodesDs (ds.take j) + nodesD e := by
  rw [take_snoc h, nodesDs_app]
  simp only [nodesDs, Nat.add_zero]
theorem nodes_le : ∀ (ds : List PyData) (j : Nat), nodesDs (ds.take j) ≤ nodesDs ds
  | [], j => by rw [List.take_nil]; exact Nat.le_refl _
  | d :: ds, 0 => by simp only [List.take_zero, nodesDs]; exact Nat.zero_le _
  | d :: ds, j + 1 => by
    have h := nodes_le ds j
    simp only [List.take_succ_cons, nodesDs]
    omega
theorem all2_len {α β : Type} {R : α → β → Prop} {as : List α} {bs : List β} (h : All2 R as bs) : as.length = bs.length := by
  induction h with
  | nil => rfl
  | cons _ _ ih => rw [List.length_cons, List.length_cons, ih]
theorem all2_tup {m : Nat} {as bs : List PyData} (h : All2 (fun e e' => tupD e' = tupD e ∧ okD e' m = true) as bs) : bs.map tupD = as.map tupD ∧ okDs bs m = true := by
  induction h with
  | nil => exact ⟨rfl, by simp only [okDs]⟩
  | cons h1 _ ih => exact ⟨by rw [List.map_cons, List.map_cons, h1.1, ih.1], by simp only [okDs, h1.2, ih.2, Bool.and_self]⟩
theorem ok_mk {ds : List PyData} {m : Nat} (h1 : ds.length ≤ 1000) (h2 : okDs ds m = true) : okD (.list ds) (m + 1) = true ∧ okD (.tuple ds) (m + 1) = true := by
  have h : (decide (0 < m + 1) && decide (ds.length ≤ 1000) && okDs ds (m + 1 - 1)) = true := by
    rw [decide_eq_true (Nat.succ_pos m), decide_eq_true h1, Nat.add_sub_cancel, h2]
    rfl
  exact ⟨by simpa only [okD] using h, by simpa only [okD] using h⟩
theorem ok_atom {d : PyData} (h : okD d 0 = true) : isSeq d = false := by
  cases d with
  | list xs => exact nomatch (show (decide (0 < 0) && decide (xs.length ≤ 1000) && okDs xs (0 - 1)) = true by simpa only [okD] using h)
  | tuple xs => exact nomatch (show (decide (0 < 0) && decide (xs.length ≤ 1000) && okDs xs (0 - 1)) = true by simpa only [okD] using h)
  | _ => rfl
theorem hide_of_same {B : List Addr} {H H' : Hp} (h : Same H H') : Same (hide B H) (hide B H') := (SameX.of h).hide (C := []) fun b hb => absurd hb List.not_mem_nil
/-- a new object, told without the hidden ones -/
theorem hide_new {B : List Addr} {H : Hp} {p : Addr} {o : HO} (lv : Live B H) (n : H p = none) : hide B (upd H p o) p = some o := by
  rw [hide_out (lv.new n), upd_same]
theorem hide_grow {B : List Addr} {H : Hp} {p : Addr} {o : HO} (lv : Live B H) (n : H p = none) : Same (hide B H) (hide B (upd H p o)) := hide_of_same (same_upd n)
abbrev sLists : Stmt := topS 37
section
variable {P : Program} {w : World} {K : PySem.W.Frag} {mg : Str → Option Value} {base : Heap}
/-! ### _law_lists -/
def spLists (K : PySem.W.Frag) (n : Nat) : Sp := fun vs H Q _ => ∃ (B : List Addr) (v : V) (d : PyData), vs = [v] ∧ Live B H ∧ Dp K (hide B H) v d ∧ okD d n = true ∧
  ∀ (v' : V) (H' : Hp), Same H H' → Dp K (hide B H') v' (lstD d) → Q v' H'
theorem scLists : FnScope ["_law_matter", "_law_bit"] ["_law_matter"] (defScope sLists) :=
  ⟨rfl, rfl, rfl, by decide +kernel, rfl, by decide +kernel, by decide +kernel⟩
theorem ok_lists {f : Addr} {fd : FuncData} (F : Fun K "_law_lists" "_law_lists" sLists f fd) (bF : Binds K fd ["_law_matter"] []) (mF : mg "_law_lists" = some (.ref f)) (mi : mg "isinstance" = none) (ml : mg "list" = none) (mt : mg "tuple" = none) :
    ∀ n : Nat, FnOk P w K mg base CX0 (n + 1) f fd ["_law_matter"] (spLists K n) := by
  intro n
  induction n with
  | zero =>
    refine F.ok scLists (fun vs H Q E h => ?_) (fun cdv A outer s H vs Q E hr h => ?_)
    · obtain ⟨B, v, d, rfl, _⟩ := h
      rfl
    · obtain ⟨B, v, d, rfl, lv, hd, hok, q⟩ := h
      have ha := ok_atom hok
      refine ⟨_, pss_one (ps_ret (pe_ifExp (pt_val (pe_callB cr_isSeq (by rfl) mi boot_isinstance (pa_cons (pv 0) (pa_cons (pe_tup (pa_cons (pe_bltn (v := .ty "list") (by rfl) ml (by decide +kernel) rfl) (pa_cons (pe_bltn (v := .ty "tuple") (by rfl) mt (by decide +kernel) rfl) pa_nil))) pa_nil))))
        pe_never (pv 0))), ?_⟩
      refine ⟨_, rfl, by show 2 ≤ sizeLine; decide, fun t nt => ⟨_, _, d, rfl, upd_same, dp_same (same_upd nt) (dp_same (hide_same B H) hd), _, rfl, ?_⟩⟩
      rw [ha]
      refine iteF ⟨_, rfl, q _ _ (same_upd nt) ?_⟩
      rw [lst_atom ha]
      exact dp_same (hide_of_same (same_upd nt)) hd
  | succ n ih =>
    refine F.ok scLists (fun vs H Q E h => ?_) (fun cdv A outer s H vs Q E hr h => ?_)
    · obtain ⟨B, v, d, rfl, _⟩ := h
      rfl
    · obtain ⟨B, v, d, rfl, lv, hd, hok, q⟩ := h
      refine ⟨_, pss_one (ps_ret (pe_ifExp (pt_val (pe_callB cr_isSeq (by rfl) mi boot_isinstance (pa_cons (pv 0) (pa_cons (pe_tup (pa_cons (pe_bltn (v := .ty "list") (by rfl) ml (by decide +kernel) rfl) (pa_cons (pe_bltn (v := .ty "tuple") (by rfl) mt (by decide +kernel) rfl) pa_nil))) pa_nil))))
        (pe_lc (own := [("_law_bit", 1)]) (g := gName 1) (tt := tYes) rfl scLists.nd (pi_dat B (pv 0)) (blkOk_by (N := ["_law_matter", "_law_bit"]) (sc := defScope sLists) (by decide +kernel)) (fun _ _ _ _ _ => pg_name (i := 1) scLists.nd rfl (Or.inl rfl)) (fun _ _ _ _ _ => pts_nil)
            (fun _ _ _ _ _ => pe_call ih hr (by rfl) mF F.kp bF .nil pass0 (pa_cons (pv 1) pa_nil))) (pv 0))), ?_⟩
      refine ⟨_, rfl, by show 2 ≤ sizeLine; decide, fun t nt => ⟨_, _, d, rfl, upd_same, dp_same (same_upd nt) (dp_same (hide_same B H) hd), _, rfl, ?_⟩⟩
      have s1 : Same H (upd H t (.tup [.ty "list", .ty "tuple"])) := same_upd nt
      have hd1 : Dp K (hide B (upd H t (.tup [.ty "list", .ty "tuple"]))) v d := dp_same (hide_of_same s1) hd
      have lv1 := lv.same s1
      generalize upd H t (.tup [.ty "list", .ty "tuple"]) = H1 at s1 hd1 lv1
      cases ha : isSeq d with
      | false =>
        refine iteF ⟨_, rfl, q _ _ s1 ?_⟩
        rw [lst_atom ha]
        exact hd1
      | true =>
        refine iteT ?_
        obtain ⟨a, xs, ds, rfl, hk, hall⟩ := dp_seq hd1 ha
        have hkk : d = .list ds ∨ d = .tuple ds := hk.imp And.right And.right
        obtain ⟨m, hm, hlen, hok2⟩ := ok_seq hkk hok
        have em : m = n := by omega
        subst em
        have elst : lstD d = .list (ds.map lstD) := by
          rcases hkk with rfl | rfl <;> simp only [lstD, lstDs_map]
        have hl := dps_len hall
        have hkB : SqL K (hide B H1) a xs ∨ SqT K (hide B H1) a xs := hk.imp And.left And.left
        refine ⟨_, rfl, a, xs, rfl, hkB, fun J G wk hG D nD => lc_dp (K := K) wk (ds := ds) (B := B) (C := []) (i := 1) hall lv1 (fun b hb => absurd hb List.not_mem_nil) nD (by omega) hG
            (fun _ _ => True) trivial (fun _ _ _ _ _ => trivial) (fun _ _ _ b hb => absurd hb List.not_mem_nil) (fun e e' => e' = lstD e)
            (fun j x e H2 Q2 _ he lv2 _ hdp2 k2 => ⟨_, rfl, D :: B, x, e, rfl, lv2, hdp2, okDs_get hok2 he, fun y H3 s3 hd3 => k2 y H3 _ (SameX.of s3) rfl hd3 trivial⟩)
            (fun H2 acc ds' s2 lv2 _ hD2 hacc h2 => q _ _ (fun c o e => ?_) ?_)⟩
        · have e1 := s1 c o e
          have cD : c ≠ D := ne_of_none e1 nD
          exact s2 c o (fun z => (List.mem_cons.mp z).elim cD (fun z => absurd z List.not_mem_nil)) e1
        · rw [elst, ← h2.fn]
          exact .lst (SqL.of (by rw [hide_out (lv1.new nD)]; exact hD2)) (dps_same hide_leave hacc)
end
end KV

namespace KV
open PySem PySem.Spec PyProof.Rows L2 RZ
/-- isinstance(x, T), one built-in class, of data -/
def rIsOne (K : PySem.W.Frag) (n : String) : List V → Hp → VK → Prop := fun vs H Q => ∃ v d, vs = [v, .ty n] ∧ Dp K H v d ∧ ∃ b, kitB (tyD d) n = some b ∧ Q (.bl b) H
theorem cr_isOne {X : Cx} (n : String) : CallR X (.builtin "isinstance") (rIsOne X.K n) := by
  intro pins s σ H vs us Q I r h
  obtain ⟨v, d, rfl, hd, b, hb, q⟩ := h
  exact call_isi pins s σ H _ us Q I r ⟨v, .ty n, _, _, b, rfl, .ty n, dp_ty hd, kit_ty hb, q⟩
theorem kit_bs {K : PySem.W.Frag} {a : String} {r1 r2 : Bool} (h1 : kitB a "bool" = some r1) (h2 : kitB a "str" = some r2) : PySem.W.kitAny K (.type a) [.type "bool", .type "str"] = some (r1 || r2) := by
  cases r1 with
  | true => exact kitAny_cons (kit_ty h1) (fun z => nomatch z) fun _ => rfl
  | false =>
    cases r2 with
    | true => exact kitAny_cons (kit_ty h1) (fun _ => kitAny_cons (kit_ty h2) (fun z => nomatch z) fun _ => rfl) fun z => nomatch z
    | false => exact kitAny_cons (kit_ty h1) (fun _ => kitAny_cons (kit_ty h2) (fun _ => kitAny_nil) fun z => nomatch z) fun z => nomatch z
def isBS : PyData → Bool
  | .bool _ => true
  | .str _ => true
  | _ => false
theorem kit_isBS {K : PySem.W.Frag} : ∀ (d : PyData), PySem.W.kitAny K (.type (tyD d)) [.type "bool", .type "str"] = some (isBS d)
  | .none => kit_bs (a := "NoneType") (r1 := false) (r2 := false) (by decide +kernel) (by decide +kernel)
  | .bool _ => kit_bs (a := "bool") (r1 := true) (r2 := false) (by decide +kernel) (by decide +kernel)
  | .int _ => kit_bs (a := "int") (r1 := false) (r2 := false) (by decide +kernel) (by decide +kernel)
  | .str _ => kit_bs (a := "str") (r1 := false) (r2 := true) (by decide +kernel) (by decide +kernel)
  | .list _ => kit_bs (a := "list") (r1 := false) (r2 := false) (by decide +kernel) (by decide +kernel)
  | .tuple _ => kit_bs (a := "tuple") (r1 := false) (r2 := false) (by decide +kernel) (by decide +kernel)
  | .dict _ => kit_bs (a := "dict") (r1 := false) (r2 := false) (by decide +kernel) (by decide +kernel)
/-- isinstance(x, (bool, str)) of data -/
def rIsBS (K : PySem.W.Frag) : List V → Hp → VK → Prop := fun vs H Q => ∃ v tp d, vs = [v, .ref tp] ∧ H tp = some (.tup [.ty "bool", .ty "str"]) ∧ Dp K H v d ∧ Q (.bl (isBS d)) H
theorem cr_isBS {X : Cx} : CallR X (.builtin "isinstance") (rIsBS X.K) := by
  intro pins s σ H vs us Q I r h
  obtain ⟨v, tp, d, rfl, ht, hd, q⟩ := h
  exact call_isiT pins s σ H _ us Q I r ⟨v, tp, _, _, _, _, rfl, ht, .cons (.ty _) (.cons (.ty _) .nil), dp_ty hd, kit_isBS d, q⟩
theorem walk_zipT {K : PySem.W.Frag} {a b : Addr} {xs ys : List V} {n : Nat} (hn : n = min xs.length ys.length) : Walk (ItzT K a b) n (fun H => SqT K H a xs ∧ SqT K H b ys) (YPair (fun i => xs[i]?) (fun i => ys[i]?)) := by
  subst hn
  refine ⟨fun i _ hi q => ?_, fun _ q => ⟨xs, ys, q.1, q.2, by omega⟩, fun i H v H' _ q y => ?_⟩
  · have h1 : i < xs.length := by omega
    have h2 : i < ys.length := by omega
    exact ⟨xs, ys, xs[i], ys[i], q.1, q.2, by simp [h1], by simp [h2]⟩
  · obtain ⟨T, x, z, h1, h2, h3, h4, h5⟩ := y
    exact ⟨T, x, z, h1, h2, h3, h4 xs q.1, h5 ys q.2⟩
theorem rep_bls (n : Nat) : (List.replicate n true).map V.bl = List.replicate n (.bl true) := by rw [List.map_replicate]
theorem rep_all (n : Nat) : (List.replicate n true).all id = true := by
  rw [List.all_eq_true]
  intro x hx
  exact (List.mem_replicate.mp hx).2
theorem seq_len {K : PySem.W.Frag} {H : Hp} {a : Addr} {xs : List V} (h : SqL K H a xs ∨ SqT K H a xs) : True := trivial
theorem iteD {p A B : Prop} [Decidable p] (h : p) (a : A) : if decide p = true then A else B := by
  rw [decide_eq_true h]
  exact iteT a
theorem iteDN {p A B : Prop} [Decidable p] (h : ¬ p) (b : B) : if decide p = true then A else B := by
  rw [decide_eq_false h]
  exact iteF b
theorem q_true {p : Prop} [Decidable p] {Q : VK} {H : Hp} (h : p) (q : Q (.bl true) H) : Q (.bl (decide p)) H := by
  rw [decide_eq_true h]
  exact q
/-- a comprehension over two sequences of the same data, each pair found the same -/
theorem lc_same {K : PySem.W.Frag} {J : It} {G : Hp → Prop} {xs ys : List V} {n : Nat} (w : Walk J n G (YPair (fun i => xs[i]?) (fun i => ys[i]?))) {ds : List PyData} {σ : L2.St} {vs : List Nat} {te : TE} {H1 : Hp} {D : Addr} {Qd : Hp → Prop}
    (hx : DpAll K H1 xs ds) (hy : DpAll K H1 ys ds) (hn : n = xs.length) (nD : H1 D = none) (hz : n ≤ 1000) (hG : ∀ H, Same H1 H → G H) (hw : ∀ x y : V, wipe (((wipe σ vs).set 3 (some x)).set 4 (some y)) vs = wipe σ vs)
    (step : ∀ (j : Nat) (x y : V) (d : PyData) (H : Hp) (Q : VK), ds[j]? = some d → Dp K H x d → Dp K H y d → (∀ H', Same H H' → Q (.bl true) H') → te (((wipe σ vs).set 3 (some x)).set 4 (some y)) H Q)
    (hd : ∀ H, SameX [D] H1 H → H D = some (.lst ((List.replicate n true).map V.bl)) → Qd H) :
    ∃ W : Nat → Nat → Hp → Prop, (∃ m, W 0 m (upd H1 D (.lst []))) ∧ ∀ i' m H, W i' m H →
      (J.stop i' H ∧ Qd H) ∨ (J.go i' H ∧ ∃ Nx : Hp → Prop, (∀ H', Nx H' → ∃ m', m' < m ∧ W (i' + 1) m' H') ∧ ∀ x H', J.yld i' H x H' → gTup K 2 (gCons (gName 3) (gCons (gName 4) gNil)) x (wipe σ vs) H' fun σ2 H2 => wipe σ2 vs = wipe σ vs ∧ tYes σ2 H2 fun b H3 =>
        if b = true then te σ2 H3 fun y H4 => ∃ acc, H4 D = some (.lst acc) ∧ acc.length < sizeLine ∧ Nx (upd H4 D (.lst (acc ++ [y]))) else Nx H3) := by
  have base : ∀ {H : Hp}, SameX [D] H1 H → Same H1 H := fun {H} h c o e => h c o (fun z => ne_of_none e nD (List.mem_singleton.mp z)) e
  refine lc_it w (fun j H => SameX [D] H1 H ∧ H D = some (.lst ((List.replicate j true).map V.bl))) ⟨fun c o n e => ?_, upd_same⟩ (fun j H _ h => hG H (base h.1)) ?_ (fun H h => hd H h.1 h.2)
  · rw [upd_ne (ne_of_none e nD)]
    exact e
  · rintro j v H H' hj ⟨hs, hD⟩ ⟨T, x, y, rfl, nT, rfl, ex, ey⟩
    have ex : xs[j]? = some x := ex
    have ey : ys[j]? = some y := ey
    obtain ⟨d, ed, dx⟩ := dps_get hx ex
    obtain ⟨d2, ed2, dy⟩ := dps_get hy ey
    have e12 : d2 = d := Option.some.inj (ed2.symm.trans ed)
    subst e12
    have sT := same_upd (o := HO.tup [x, y]) nT
    have s2 := (base hs).trans sT
    refine ⟨T, [x, y], rfl, SqT.of upd_same, rfl, x, [y], rfl, y, [], rfl, rfl, hw x y, tYes_ok (step j x y d2 _ _ ed (dp_same s2 dx) (dp_same s2 dy) fun H4 s4 => ?_)⟩
    have hD4 : H4 D = some (.lst ((List.replicate j true).map V.bl)) := s4 _ _ (sT _ _ hD)
    refine ⟨_, hD4, by rw [List.length_map, List.length_replicate]; exact small1000 (by omega), fun c o nc e => ?_, ?_⟩
    · rw [upd_ne (fun z => nc (List.mem_singleton.mpr z))]
      exact s4 _ _ (sT _ _ (hs c o nc e))
    · rw [upd_same, List.replicate_succ', List.map_append]
      rfl
abbrev sSame : Stmt := topS 56
abbrev sBox : Stmt := topS 57
section
variable {P : Program} {w : World} {K : PySem.W.Frag} {mg : Str → Option Value} {base : Heap}
theorem none_ok {f : Addr} {fd : FuncData} {ps : List Str} {sp : Sp} (no : ∀ vs H Q E, ¬ sp vs H Q E) : FnOk P w K mg base CX0 0 f fd ps sp :=
  ⟨fun vs H Q E h => absurd h (no vs H Q E), fun A outer s H args us vs Q E _ _ _ _ h => absurd h (no vs H Q E)⟩
/-! ### _law_same, of what is the same -/
def spSame (K : PySem.W.Frag) (N : Nat) : Sp := fun vs H Q _ => ∃ (n : Nat) (v u : V) (d : PyData), N = n + 1 ∧ vs = [v, u] ∧ Dp K H v d ∧ Dp K H u d ∧ okD d n = true ∧ ∀ (H' : Hp), Same H H' → Q (.bl true) H'
theorem scSame : FnScope ["_law_found", "_law_due", "_law_alike", "_law_mine", "_law_its"] ["_law_found", "_law_due"] (defScope sSame) :=
  ⟨rfl, rfl, rfl, by decide +kernel, rfl, by decide +kernel, by decide +kernel⟩
theorem ok_same {f : Addr} {fd : FuncData} (F : Fun K "_law_same" "_law_same" sSame f fd) (bF : Binds K fd ["_law_found", "_law_due"] []) (mF : mg "_law_same" = some (.ref f)) (mi : mg "isinstance" = none) (ml : mg "list" = none) (mt : mg "tuple" = none)
    (me : mg "len" = none) (ma : mg "all" = none) (mz : mg "zip" = none) (mb : mg "bool" = none) (ms : mg "str" = none) (mn : mg "int" = none) :
    ∀ N : Nat, FnOk P w K mg base CX0 N f fd ["_law_found", "_law_due"] (spSame K N) := by
  intro N
  induction N with
  | zero =>
    refine none_ok fun vs H Q E h => ?_
    obtain ⟨n, _, _, _, h, _⟩ := h
    omega
  | succ N ih =>
    refine F.ok scSame (fun vs H Q E h => ?_) (fun cdv A outer s H vs Q E hr h => ?_)
    · obtain ⟨n, v, u, d, _, rfl, _⟩ := h
      rfl
    · obtain ⟨n, v, u, d, hN, rfl, hv, hu, hok, q⟩ := h
      have eN : N = n := by omega
      subst eN
      refine ⟨_, pss_cons (ps_if (pt_val (pe_callB cr_isSeq (by rfl) mi boot_isinstance (pa_cons (pv 1) (pa_cons (pe_tup (pa_cons (pe_bltn (v := .ty "list") (by rfl) ml (by decide +kernel) rfl) (pa_cons (pe_bltn (v := .ty "tuple") (by rfl) mt (by decide +kernel) rfl) pa_nil))) pa_nil))))
          (pss_cons (ps_if (PW.pt (pw_or (pt_cmpR op_ne (pe_callB (cr_isOne "list") (by rfl) mi boot_isinstance (pa_cons (pv 0) (pa_cons (pe_bltn (v := .ty "list") (by rfl) ml (by decide +kernel) rfl) pa_nil))) (pe_callB (cr_isOne "list") (by rfl) mi boot_isinstance (pa_cons (pv 1) (pa_cons (pe_bltn (v := .ty "list") (by rfl) ml (by decide +kernel) rfl) pa_nil))) (nomark _))
              (pw_or1 (pt_cmpR op_ne (pe_callB (cr_isOne "tuple") (by rfl) mi boot_isinstance (pa_cons (pv 0) (pa_cons (pe_bltn (v := .ty "tuple") (by rfl) mt (by decide +kernel) rfl) pa_nil))) (pe_callB (cr_isOne "tuple") (by rfl) mi boot_isinstance (pa_cons (pv 1) (pa_cons (pe_bltn (v := .ty "tuple") (by rfl) mt (by decide +kernel) rfl) pa_nil))) (nomark _)))))
            (pss_one (ps_ret pe_bl)) pss_nil)
          (pss_one (ps_ret (pe_and (pe_cmpR op_eq (pe_callB call_len_seq (by rfl) me PySem.boot_len (pa_cons (pv 0) pa_nil)) (pe_callB call_len_seq (by rfl) me PySem.boot_len (pa_cons (pv 1) pa_nil)) (nomark _))
            (pe_one (pe_callB (cr_all rfl) (by rfl) ma boot_all (pa_cons
              (pe_lc (own := [("_law_mine", 3), ("_law_its", 4)]) (g := gTup K 2 (gCons (gName 3) (gCons (gName 4) gNil))) (tt := tYes) rfl scSame.nd (pi_zipA (by rfl) mz (pa_cons (pv 0) (pa_cons (pv 1) pa_nil)))
                (blkOk_by (N := ["_law_found", "_law_due", "_law_alike", "_law_mine", "_law_its"]) (sc := defScope sSame) (by decide +kernel))
                (fun _ _ _ _ _ => pg_tup rfl (pgs_cons (pg_name (i := 3) scSame.nd rfl (.inl rfl)) (pgs_cons (pg_name (i := 4) scSame.nd rfl (.inl rfl)) pgs_nil))) (fun _ _ _ _ _ => pts_nil)
                (fun _ _ _ _ _ => pe_call ih hr (by rfl) mF F.kp bF .nil pass0 (pa_cons (pv 3) (pa_cons (pv 4) pa_nil)))) pa_nil))))))) pss_nil)
        (pss_cons (ps_if (PW.pt (pw_or (pt_cmpR op_isN (pv 1) pe_non (nomark _)) (pw_or1 (pt_val (pe_callB cr_isBS (by rfl) mi boot_isinstance (pa_cons (pv 1) (pa_cons (pe_tup (pa_cons (pe_bltn (v := .ty "bool") (by rfl) mb (by decide +kernel) rfl) (pa_cons (pe_bltn (v := .ty "str") (by rfl) ms (by decide +kernel) rfl) pa_nil))) pa_nil)))))))
          (pss_cons (ps_set (i := 2) scSame.nd rfl (.inl rfl) (pe_and
              (pe_cmpR op_eq (pe_callB (cr_isOne "bool") (by rfl) mi boot_isinstance (pa_cons (pv 0) (pa_cons (pe_bltn (v := .ty "bool") (by rfl) mb (by decide +kernel) rfl) pa_nil))) (pe_callB (cr_isOne "bool") (by rfl) mi boot_isinstance (pa_cons (pv 1) (pa_cons (pe_bltn (v := .ty "bool") (by rfl) mb (by decide +kernel) rfl) pa_nil))) (nomark _))
              (pe_one (pe_cmpR op_eq (pe_cmpR op_isN (pv 0) pe_non (nomark _)) (pe_cmpR op_isN (pv 1) pe_non (nomark _)) (nomark _)))))
            (pss_one (ps_ret (pe_and (pe_cmpR op_eq (pv 0) (pv 1) (nomark _)) (pe_one (pv 2))))))
          pss_nil)
        (pss_one (ps_ret (pe_and (pe_callB (cr_isOne "int") (by rfl) mi boot_isinstance (pa_cons (pv 0) (pa_cons (pe_bltn (v := .ty "int") (by rfl) mn (by decide +kernel) rfl) pa_nil)))
          (pe_and (pe_not (pe_callB (cr_isOne "bool") (by rfl) mi boot_isinstance (pa_cons (pv 0) (pa_cons (pe_bltn (v := .ty "bool") (by rfl) mb (by decide +kernel) rfl) pa_nil))))
          (pe_one (pe_cmpR op_eq (pv 0) (pv 1) (nomark _)))))))), ?_⟩
      refine ⟨_, rfl, by show 2 ≤ sizeLine; decide, fun t nt => ⟨_, _, d, rfl, upd_same, dp_same (same_upd nt) hu, _, rfl, ?_⟩⟩
      have s1 : Same H (upd H t (.tup [.ty "list", .ty "tuple"])) := same_upd nt
      replace hv := dp_same s1 hv
      replace hu := dp_same s1 hu
      generalize upd H t (.tup [.ty "list", .ty "tuple"]) = H1 at s1 hv hu
      cases hv with
      | non =>
        cases hu
        have hv : ∀ {H2 : Hp}, Dp K H2 .non .none := .non
        refine iteF ⟨_, rfl, rfl, _, rfl, iteD rfl (iteT ?_)⟩
        refine ⟨_, rfl, ⟨_, _, rfl, hv, false, (show kitB "NoneType" "bool" = some false by decide +kernel), _, rfl, ⟨_, _, rfl, hv, false, (show kitB "NoneType" "bool" = some false by decide +kernel), rfl, _, rfl, iteD rfl ?_⟩⟩⟩
        refine ⟨_, rfl, rfl, _, rfl, rfl, rfl, ?_⟩
        exact ⟨_, rfl, _, rfl, rfl, _, rfl, iteD rfl ⟨_, rfl, q_true rfl (q _ s1)⟩⟩
      | bl c =>
        cases hu
        have hv : ∀ {H2 : Hp}, Dp K H2 (.bl c) (.bool c) := .bl c
        refine iteF ⟨_, rfl, rfl, _, rfl, iteDN (fun z => nomatch z) ?_⟩
        refine ⟨_, rfl, by show 2 ≤ sizeLine; decide, fun t2 nt2 => ⟨_, _, _, rfl, upd_same, hv, _, rfl, iteT ?_⟩⟩
        refine ⟨_, rfl, ⟨_, _, rfl, hv, true, (show kitB "bool" "bool" = some true by decide +kernel), _, rfl, ⟨_, _, rfl, hv, true, (show kitB "bool" "bool" = some true by decide +kernel), rfl, _, rfl, iteD rfl ?_⟩⟩⟩
        refine ⟨_, rfl, rfl, _, rfl, rfl, rfl, ?_⟩
        exact ⟨_, rfl, _, rfl, rfl, _, rfl, iteD rfl ⟨_, rfl, q_true rfl (q _ (s1.trans (same_upd nt2)))⟩⟩
      | int c =>
        cases hu
        have hv : ∀ {H2 : Hp}, Dp K H2 (.int c) (.int c) := .int c
        refine iteF ⟨_, rfl, rfl, _, rfl, iteDN (fun z => nomatch z) ?_⟩
        refine ⟨_, rfl, by show 2 ≤ sizeLine; decide, fun t2 nt2 => ⟨_, _, _, rfl, upd_same, hv, _, rfl, iteF ?_⟩⟩
        refine ⟨_, rfl, ⟨_, _, rfl, hv, true, (show kitB "int" "int" = some true by decide +kernel), _, rfl, iteT ⟨_, rfl, ⟨_, _, rfl, hv, false, (show kitB "int" "bool" = some false by decide +kernel), _, rfl, _, rfl, iteT ⟨_, rfl, _, rfl, rfl, q_true rfl (q _ (s1.trans (same_upd nt2)))⟩⟩⟩⟩⟩
      | str c =>
        cases hu
        have hv : ∀ {H2 : Hp}, Dp K H2 (.str c) (.str c) := .str c
        refine iteF ⟨_, rfl, rfl, _, rfl, iteDN (fun z => nomatch z) ?_⟩
        refine ⟨_, rfl, by show 2 ≤ sizeLine; decide, fun t2 nt2 => ⟨_, _, _, rfl, upd_same, hv, _, rfl, iteT ?_⟩⟩
        refine ⟨_, rfl, ⟨_, _, rfl, hv, false, (show kitB "str" "bool" = some false by decide +kernel), _, rfl, ⟨_, _, rfl, hv, false, (show kitB "str" "bool" = some false by decide +kernel), rfl, _, rfl, iteD rfl ?_⟩⟩⟩
        refine ⟨_, rfl, rfl, _, rfl, rfl, rfl, ?_⟩
        exact ⟨_, rfl, _, rfl, rfl, _, rfl, iteD rfl ⟨_, rfl, q_true rfl (q _ (s1.trans (same_upd nt2)))⟩⟩
      | lst h1 h2 =>
        rename_i a xs ds
        cases hu with
        | lst g1 g2 =>
        rename_i a' ys
        obtain ⟨m, hm, hlen, hok2⟩ := ok_seq (xs := ds) (.inl rfl) hok
        have l1 := dps_len h2
        have l2 := dps_len g2
        have hv : Dp K H1 (.ref a) _ := .lst h1 h2
        have hu : Dp K H1 (.ref a') _ := .lst g1 g2
        refine iteT ⟨_, rfl, ⟨_, _, rfl, hv, true, (show kitB "list" "list" = some true by decide +kernel), _, rfl, ⟨_, _, rfl, hu, true, (show kitB "list" "list" = some true by decide +kernel), rfl, _, rfl, iteNS rfl ?_⟩⟩⟩
        refine ⟨_, rfl, ⟨_, _, rfl, hv, false, (show kitB "list" "tuple" = some false by decide +kernel), _, rfl, ⟨_, _, rfl, hu, false, (show kitB "list" "tuple" = some false by decide +kernel), rfl, _, rfl, iteNS rfl ?_⟩⟩⟩
        refine ⟨_, rfl, _, xs, rfl, .inl h1, _, rfl, _, ys, rfl, .inl g1, rfl, _, rfl, iteD (by rw [l1, l2]) ?_⟩
        refine ⟨_, rfl, _, rfl, a, a', xs, ys, rfl, .inl ⟨h1, g1, fun D nD => lc_same (walk_zip (n := xs.length) (by omega)) h2 g2 rfl nD (by omega) (fun H2 s2 => ⟨Same.seq s2 h1, Same.seq s2 g1⟩) (fun _ _ => rfl)
          (fun j x y e H2 Q2 he dx dy k2 => ⟨_, rfl, _, rfl, m, x, y, e, by omega, rfl, dx, dy, okDs_get hok2 he, k2⟩) fun H2 s2 hD2 => ⟨D, List.replicate xs.length true, rfl, SqL.of hD2, ?_⟩⟩⟩
        rw [rep_all]
        exact q _ (s1.trans fun c o e => s2 c o (fun z => ne_of_none e nD (List.mem_singleton.mp z)) e)
      | tup h1 h2 =>
        rename_i a xs ds
        cases hu with
        | tup g1 g2 =>
        rename_i a' ys
        obtain ⟨m, hm, hlen, hok2⟩ := ok_seq (xs := ds) (.inr rfl) hok
        have l1 := dps_len h2
        have l2 := dps_len g2
        have hv : Dp K H1 (.ref a) _ := .tup h1 h2
        have hu : Dp K H1 (.ref a') _ := .tup g1 g2
        refine iteT ⟨_, rfl, ⟨_, _, rfl, hv, false, (show kitB "tuple" "list" = some false by decide +kernel), _, rfl, ⟨_, _, rfl, hu, false, (show kitB "tuple" "list" = some false by decide +kernel), rfl, _, rfl, iteNS rfl ?_⟩⟩⟩
        refine ⟨_, rfl, ⟨_, _, rfl, hv, true, (show kitB "tuple" "tuple" = some true by decide +kernel), _, rfl, ⟨_, _, rfl, hu, true, (show kitB "tuple" "tuple" = some true by decide +kernel), rfl, _, rfl, iteNS rfl ?_⟩⟩⟩
        refine ⟨_, rfl, _, xs, rfl, .inr h1, _, rfl, _, ys, rfl, .inr g1, rfl, _, rfl, iteD (by rw [l1, l2]) ?_⟩
        refine ⟨_, rfl, _, rfl, a, a', xs, ys, rfl, .inr ⟨h1, g1, fun D nD => lc_same (walk_zipT (n := xs.length) (by omega)) h2 g2 rfl nD (by omega) (fun H2 s2 => ⟨same_seqT s2 h1, same_seqT s2 g1⟩) (fun _ _ => rfl)
          (fun j x y e H2 Q2 he dx dy k2 => ⟨_, rfl, _, rfl, m, x, y, e, by omega, rfl, dx, dy, okDs_get hok2 he, k2⟩) fun H2 s2 hD2 => ⟨D, List.replicate xs.length true, rfl, SqL.of hD2, ?_⟩⟩⟩
        rw [rep_all]
        exact q _ (s1.trans fun c o e => s2 c o (fun z => ne_of_none e nD (List.mem_singleton.mp z)) e)
end
end KV

namespace KV
open PySem PySem.Spec PyProof.Rows L2 RZ
section
variable {P : Program} {w : World} {K : PySem.W.Frag} {mg : Str → Option Value} {base : Heap}
/-! ### _law_box -/
def spBox (K : PySem.W.Frag) : Sp := fun vs H Q _ => ∃ (a : Addr) (ns : List Int) (k : Nat), vs = [.ref a, .int k] ∧ SqL K H a (ns.map V.int) ∧ k < 10 ∧ ns.length ≤ 63 ∧
  ∀ (p : Addr) (H' : Hp), Same H H' → H p = none → BoxAt H' p 0 → Q (.ref p) H'
theorem scBox : FnScope ["_law_script", "_law_k", "_law_cell"] ["_law_script", "_law_k"] (defScope sBox) :=
  ⟨rfl, rfl, rfl, by decide +kernel, rfl, by decide +kernel, by decide +kernel⟩
theorem ok_box {f : Addr} {fd : FuncData} {k : Nat} (F : Fun K "_law_box" "_law_box" sBox f fd) (mi : mg "int" = none) (me : mg "len" = none) (mb : mg "abs" = none) : FnOk P w K mg base CX0 (k + 1) f fd ["_law_script", "_law_k"] (spBox K) := by
  refine F.ok scBox (fun vs H Q E h => ?_) (fun cdv A outer s H vs Q E hr h => ?_)
  · obtain ⟨a, ns, k, rfl, _⟩ := h
    rfl
  · obtain ⟨a, ns, k, rfl, hS, hk, hl, q⟩ := h
    refine ⟨_, pss_cons (ps_set (i := 2) scBox.nd rfl (.inl rfl) (pe_ifExp (pt_cmpR op_lt (pv 1) (pe_callB call_len_seq (by rfl) me PySem.boot_len (pa_cons (pv 0) pa_nil)) (nomark _)) (pe_ix ix_seq (pv 0) (pv 1) (fun _ _ => rfl)) pe_int))
      (pss_one (ps_ret (pe_lst (pa_cons (pe_op op_mul (pe_callB call_abs (by rfl) mb boot_abs (pa_cons (pv 2) pa_nil)) (pe_callTy call_int1 (by rfl) mi PyProof.Rows.boot_int (pa_cons (pe_cmpR op_ge (pe_callB call_abs (by rfl) mb boot_abs (pa_cons (pv 2) pa_nil)) (pe_op op_pow pe_int pe_int) (nomark _)) pa_nil)))
        (pa_cons (pe_op op_add (pe_op op_add (pe_op op_mod (pe_callTy call_int1 (by rfl) mi PyProof.Rows.boot_int (pa_cons (pv 2) pa_nil)) pe_int) (pe_op op_mul pe_int (pv 1))) pe_int) (pa_cons pe_int pa_nil)))))), ?_⟩
    -- the cell
    refine ⟨_, rfl, _, rfl, a, _, rfl, .inl hS, _, _, rfl, rfl, _, rfl, ite2 (fun e => ?_) (fun e => ?_)⟩
    · have e1 : k < ns.length := by
        have e2 := of_decide_eq_true e
        rw [List.length_map] at e2
        omega
      refine ⟨_, rfl, _, rfl, .inl ⟨a, _, k, .int ns[k], rfl, rfl, hS, atI_nat (by rw [List.getElem?_map, List.getElem?_eq_getElem e1]; rfl), ?_⟩⟩
      generalize ns[k] = c
      refine ⟨_, rfl, _, rfl, _, rfl, _, rfl, _, _, rfl, rfl, ⟨by decide, by decide, by decide⟩, _, _, rfl, rfl, .inr ⟨_, rfl, _, _, rfl, rfl, .inr ?_, _, rfl, .inl ⟨_, rfl, _, _, rfl, rfl, (by show (0 : Int) < _; decide), _, rfl, _, _, rfl, rfl, .inl ⟨by decide, by decide⟩, _, _, rfl, rfl, _, _, rfl, rfl, by show 3 ≤ sizeLine; decide, fun p np => q p _ (same_upd np) np ⟨_, _, _, upd_same, ?_, ?_, by decide, by decide⟩⟩⟩⟩
      · cases decide ((10 : Int) ^ (18 : Int).toNat ≤ if c < 0 then -c else c) <;> exact ⟨by decide, by decide⟩
      · have h1 : 0 ≤ c % 2305843009213693951 := Int.emod_nonneg _ (by decide)
        omega
      · have h2 : c % 2305843009213693951 < 2305843009213693951 := Int.emod_lt_of_pos _ (by decide)
        omega
    · refine ?_
      have c : Int := 0
      refine ⟨_, rfl, _, rfl, _, rfl, _, rfl, _, _, rfl, rfl, ⟨by decide, by decide, by decide⟩, _, _, rfl, rfl, .inr ⟨_, rfl, _, _, rfl, rfl, .inr ?_, _, rfl, .inl ⟨_, rfl, _, _, rfl, rfl, (by show (0 : Int) < _; decide), _, rfl, _, _, rfl, rfl, .inl ⟨by decide, by decide⟩, _, _, rfl, rfl, _, _, rfl, rfl, by show 3 ≤ sizeLine; decide, fun p np => q p _ (same_upd np) np ⟨_, _, _, upd_same, ?_, ?_, by decide, by decide⟩⟩⟩⟩
      · cases decide ((10 : Int) ^ (18 : Int).toNat ≤ if c < 0 then -c else c) <;> exact ⟨by decide, by decide⟩
      · have h1 : 0 ≤ c % 2305843009213693951 := Int.emod_nonneg _ (by decide)
        omega
      · have h2 : c % 2305843009213693951 < 2305843009213693951 := Int.emod_lt_of_pos _ (by decide)
        omega
end
end KV

namespace KV
open PySem PySem.Spec PyProof.Rows L2 PySem.Froz
/-! ### a set of texts -/
def TxSet (P : Program) (w : World) (h : Heap) (a : Addr) (l : List Str) : Prop :=
  ∃ D : SD, h.get? a = some (sObj "set" D) ∧ TxOk P w D l ∧ l.Nodup ∧ l.length < scanBound ∧ Ris D.2.2.place.toList ∧ (w.params.followText "set-order" = true ∨ D.2.2.led = true)
section
variable {P : Program} {w : World} {A : Around} {E : Value → Shared → Prop} {s : Shared} {a : Addr} {l : List Str}
theorem TxSet.keep {h h' : Heap} (R : TxSet P w h a l) (k : ∀ o, h.get? a = some o → h'.get? a = some o) : TxSet P w h' a l := by
  obtain ⟨D, e, z⟩ := R
  exact ⟨D, k _ e, z⟩
theorem TxSet.live {h : Heap} (R : TxSet P w h a l) : a < h.objs.size := by
  obtain ⟨D, e, _⟩ := R
  exact Heap.lt_size e
theorem tail_ris {ep : Nat} {es : Array (Int × Value)} {t : SetTable} {b : Bool} (r : Ris t.place.toList) : Ris (tailTx ep es t b).2.2.place.toList := by
  unfold tailTx
  split
  · exact relayAll_ris _ _ _
  · exact r
theorem tail_led {ep : Nat} {es : Array (Int × Value)} {t : SetTable} {b : Bool} : (tailTx ep es t b).2.2.led = t.led := by
  unfold tailTx
  split
  · exact relayAll_led _ _ _
  · rfl
theorem addTx_ris {h : Int} {v : Value} {D : SD} (r : Ris D.2.2.place.toList) : Ris (addTx h v D).2.2.place.toList := by
  have q := layNew_ris D.2.2 D.1 h v r
  exact tail_ris (by split <;> exact q)
theorem addTx_led {h : Int} {v : Value} {D : SD} : (addTx h v D).2.2.led = D.2.2.led := by
  have q := layNew_led D.2.2 D.1 h v
  refine Eq.trans tail_led ?_
  split <;> exact q
theorem tx_add {k : Str} {u : Tok} {Q : Bool → Shared → Prop} (R : TxSet P w s.heap a l) (room : l.length + 1 < scanBound)
    (hQ : ∀ (b : Bool) (h' : Heap) (l' : List Str), Heap.SameBut a s.heap h' → TxSet P w h' a l' → (∀ x, x ∈ l' ↔ x = k ∨ x ∈ l) → l'.length ≤ l.length + 1 → Q b { s with heap := h' }) :
    wpAny (model P w) A (setAddHashed a (.str k u) (hashStr w k)) Q E s := by
  obtain ⟨D, ho, F, nd, hb, hr, hl⟩ := R
  by_cases hk : k ∈ l
  · obtain ⟨es, ep, t⟩ := D
    have hkey : (strKind P w).is k (.str k u) = true := is_str k u
    have hsm : es.size < scanBound := by
      have e : es.size = l.length := F.sz
      omega
    unfold setAddHashed setAddHashedIn
    refine wpAny_holding (wpAny_bind (wpAny_setState_of (o := sObj "set" (es, ep, t)) ho rfl F.fit ?_))
    dsimp only
    rw [byScan_of (x := Value.str k u) rfl hsm F.el]
    simp only [↓reduceIte]
    unfold setAddByScan
    refine wpAny_bind (wpAny_bind (wpAny_rule (wpAny_bind (wpAny_setScan_of (knd := strKind P w) (k := k) (o := sObj "set" (es, ep, t)) hkey ho rfl F.fit F.el ?_))))
    cases hf : List.findIdx? (fun e => (strKind P w).is k e.2) es.toList with
    | some j => exact wpAny_pure (wpAny_pure (hQ _ s.heap l (Heap.SameBut.refl a s.heap) ⟨_, ho, F, nd, hb, hr, hl⟩ (fun x => ⟨.inr, fun z => z.elim (fun e => e ▸ hk) id⟩) (Nat.le_succ _)))
    | none =>
      obtain ⟨e, he, q⟩ := (F.mem k).mp hk
      have c := List.findIdx?_eq_none_iff.mp hf e he
      rw [q] at c
      cases c
  · refine add_x ho F hk room (hQ true _ (k :: l) (Heap.SameBut.update s.heap a _) ⟨_, get_upd _ ho rfl, add_ok u F, List.nodup_cons.mpr ⟨hk, nd⟩, room, addTx_ris hr, ?_⟩ (fun x => List.mem_cons) (Nat.le_refl _))
    exact hl.imp id fun z => addTx_led.trans z
theorem tx_fresh {h : Heap} (ho : h.get? a = some { cls := .type "set", dict := none, data := .set #[] 0 (.fresh 0 0 (!w.params.followText "set-order")) }) : TxSet P w h a [] := by
  refine ⟨(#[], 0, .fresh 0 0 (!w.params.followText "set-order")), ho, TxOk.nil rfl, List.nodup_nil, by decide, List.Pairwise.nil, ?_⟩
  cases e : w.params.followText "set-order" with
  | true => exact .inl rfl
  | false => exact .inr rfl
/-- set.update of a walk over texts -/
theorem tx_loop {I : Addr} {fp wr : List Addr} {G : Array GenState → Array GenState → Prop} {n : Nat} {Pv : Nat → Value → Prop} {St : Nat → Shared → Prop} {R : Result → Shared → Prop}
    (W : WalksS P w A.in1 I fp wr G n Pv St) (hf : a ∉ fp) (xs : List Str) (hn : n = xs.length) (hb : xs.length + 1 < scanBound) (hval : ∀ i v, Pv i v → ∃ k t, xs[i]? = some k ∧ v = .str k t) :
    ∀ (m i : Nat) (s : Shared), n = i + m → St i s → (∃ l, l.length ≤ i ∧ (∀ x, x ∈ l ↔ x ∈ xs.take i) ∧ TxSet P w s.heap a l) →
      (∀ s' l, Moved (a :: wr) G s s' → l.length ≤ n → (∀ x, x ∈ l ↔ x ∈ xs) → TxSet P w s'.heap a l → R (.ok (.ret .none)) s') →
      codeAny (model P w) A (.builtin "set.update.loop" ⟨[.ref a, .ref I], []⟩) R s := by
  have ha : a ∉ wr := fun z => hf (W.sub _ z)
  intro m
  induction m with
  | zero =>
    rintro i s en st ⟨l, hl, hm, hS⟩ fin
    have ei : i = n := by omega
    subst ei
    have all : xs.take i = xs := List.take_of_length_le (Nat.le_of_eq hn.symm)
    rw [all] at hm
    refine codeAny_builtin F.entry_set_update_loop (Around.under_plainId F.plain_set_update_loop _ ▸ wpAny_bind (W.done s _ _ st fun s' mv => wpAny_pure (fin s' l (mv.mono fun b z => List.mem_cons_of_mem _ z) hl hm (hS.keep fun o e => mv.heap a o ha e))))
  | succ m ih =>
    rintro i s en st ⟨l, hl, hm, hS⟩ fin
    have hi : i < n := by omega
    refine codeAny_builtin F.entry_set_update_loop (Around.under_plainId F.plain_set_update_loop _ ▸ wpAny_bind (W.item i s _ _ hi st fun v s1 pv st1 mv => ?_))
    obtain ⟨k, t, hk, rfl⟩ := hval i v pv
    have R1 : TxSet P w s1.heap a l := hS.keep fun o e => mv.heap a o ha e
    show wpAny _ A.in1 (holding [Value.str k t] (setAdd a (.str k t)) >>= _) _ _ s1
    refine wpAny_bind (wpAny_holding ?_)
    unfold setAdd
    refine wpAny_holding (wpAny_bind ((strKind P w).pyHash (k := k) (is_str _ _) ?_))
    refine tx_add (s := { s1 with toks := s1.toks + 1 }) R1 (by omega) fun b h' l' sb R2 hm2 hl2 => ?_
    refine wpAny_pure ⟨plainId_quiet F.plain_set_update_loop _, ih (i + 1) _ (by omega) (W.frame _ s1 _ _ st1 (Nat.le_succ _) fun b hb o e => (sb.2 b (fun z : b = a => hf (z ▸ hb))).trans e) ⟨l', by omega, fun x => ?_, R2⟩ fun s2 l2 mv2 h2 h3 h4 => ?_⟩
    · rw [hm2 x, hm x, List.take_add_one, hk, List.mem_append]
      show _ ↔ _ ∨ x ∈ [k]
      rw [List.mem_singleton]
      exact Or.comm
    · exact fin s2 l2 (Moved.trans W.gtrans ((mv.mono fun b z => List.mem_cons_of_mem _ z).then_heap (Nat.le_succ _) fun b o hb e => (sb.2 b (fun z : b = a => hb (z ▸ List.mem_cons_self))).trans e) mv2) h2 h3 h4
end
end KV

namespace KV
open PySem PySem.Spec PyProof.Rows L2 PySem.Froz
abbrev nob (w : World) : Obj := { cls := .type "set", dict := none, data := .set #[] 0 (.fresh 0 0 (!w.params.followText "set-order")) }
section
variable {P : Program} {w : World} {A : Around} {E : Value → Shared → Prop} {s : Shared} {a : Addr} {l : List Str}
/-- set(xs) of a tuple of texts -/
theorem tx_of_tuple {p : Addr} {its : Array Value} {xs : List Str} {Q : Value → Shared → Prop} (hh : A.handled = none) (hp : s.heap.IsTuple p its) (hx : StrsAre its.toList xs) (hb : xs.length + 1 < scanBound)
    (q : ∀ (h' : Heap) (tk : Nat) (l : List Str), TxSet P w h' s.heap.objs.size l → l.length ≤ xs.length → (∀ x, x ∈ l ↔ x ∈ xs) → (∀ b o, s.heap.get? b = some o → h'.get? b = some o) → Q (.ref s.heap.objs.size) { s with heap := h', toks := tk }) :
    wpAny (model P w) A (call (.type "set") [.ref p]) Q E s := by
  have hsz : its.size = xs.length := by
    rw [← StrsAre.len_eq hx, Array.length_toList]
  have ⟨c, tl, hmro⟩ := F.called_set.mro
  have hmade := F.called_set.made
  have hsub := F.called_set.sub
  have h1 := F.called_set.notType
  have h2 := F.called_set.canCreate
  have hct := F.typeCall_set_1 (.ref p)
  refine wpAny_call (codeAny_of_tree ?_)
  show wpAny _ _ (callAny (.type "set") _) _ _ _
  refine wpAny_pure ⟨Code.quiet_builtin _ (by decide +kernel), codeAny_builtin F.entry_type_call (Around.under_plain (weight_type_call_type "set" [.ref p] []) rfl ▸ ?_)⟩
  repeat (any_goals (first | assumption | wp_step))
  refine codeAny_mono (code_set_led1 (.ref p) (E := E) (Q₁ := fun v s1 => v = .ref s.heap.objs.size ∧ s1 = { s with heap := s.heap.push (nob w) }) ⟨rfl, rfl⟩) fun r s1 hr => ?_
  rcases r with e | fl
  · exact hr
  · cases fl with
    | ret v =>
      obtain ⟨rfl, rfl⟩ := hr
      have hS : (s.heap.push (nob w)).get? s.heap.objs.size = some (nob w) := Heap.get?_push_size _ rfl
      have hT : Shared.TypeIs { s with heap := s.heap.push (nob w) } (.ref s.heap.objs.size) "set" := ⟨_, hS, rfl⟩
      have hli := F.called_set.init.lookup
      have hbi := F.called_set.init.bind (.ref s.heap.objs.size)
      repeat (any_goals (first | assumption | wp_step))
      refine codeAny_mono (codeAny_call_builtin (R := wants (fun r s2 => r = .none ∧ ∃ h' tk l, s2 = { s with heap := h', toks := tk } ∧ TxSet P w h' s.heap.objs.size l ∧ l.length ≤ xs.length ∧ (∀ x, x ∈ l ↔ x ∈ xs) ∧
          ∀ b o, s.heap.get? b = some o → h'.get? b = some o) E) F.called_set.init.plain F.entry_set_init (check_set_init_1 hT ?_)) fun r2 s2 hr2 => ?_
      · obtain ⟨⟨oc, od, odt, osl⟩, hol, hcl, nl, hdl⟩ := hp
        simp only at hcl hdl
        subst hcl; subst hdl
        have hol1 : (s.heap.push (nob w)).get? p = some { cls := .type "tuple", dict := od, data := .seq its nl, slots := osl } := Heap.get?_push_of_some _ hol
        have n1 := F.sub_tuple_set
        have n2 := F.sub_tuple_frozenset
        have n3 : (Value.type "tuple" == Value.type "dict") = false := by decide
        have hp1 : (s.heap.push (nob w)).IsTuple p its := ⟨_, hol1, rfl, nl, rfl⟩
        unfold Builtin.«set.__init__» noKeywords Builtin.Frozenset.updateFrom
        generalize hPI : pyIter = PI
        wp_walk
        subst hPI
        refine wpAny_pyIter_tuple hp1 (wpAny_bind (wpAny_runValue ?_))
        have pS : p < s.heap.objs.size := Heap.lt_size hol
        have hz : (s.heap.push (nob w)).objs.size = s.heap.objs.size + 1 := Heap.size_push ..
        have hI : p ≠ (s.heap.push (nob w)).objs.size := fun z => Nat.ne_of_lt (Nat.lt_succ_of_lt pS) (z.trans hz)
        have hh3 : A.in1.in1.in1.handled = none := by simp [hh]
        have hSf : s.heap.objs.size ∉ [(s.heap.push (nob w)).objs.size, p] := fun z => by
          rcases List.mem_cons.mp z with z | z
          · exact absurd (z.trans hz) (Nat.ne_of_lt (Nat.lt_succ_self _))
          · exact Nat.ne_of_gt pS (List.mem_singleton.mp z)
        have hval : ∀ (i : Nat) (v : Value), its[i]? = some v → ∃ k t, xs[i]? = some k ∧ v = .str k t := fun i v hv => by
          have hi : i < xs.length := hsz ▸ (Array.getElem?_eq_some_iff.mp hv).1
          obtain ⟨t, e⟩ := SS.strs_at hx i v (by rw [Array.getElem?_toList]; exact hv)
          exact ⟨xs[i], t, List.getElem?_eq_getElem hi, by rw [e, List.getD_eq_getElem?_getD, List.getElem?_eq_getElem hi] <;> rfl⟩
        refine tx_loop (a := s.heap.objs.size) ((Walks.tuple hh3 _ p hI its).toS) hSf xs hsz hb hval its.size 0 _ (by omega) ⟨⟨_, Heap.get?_push_size _ rfl, rfl, rfl⟩, hp1.push _⟩ ⟨[], Nat.le_refl 0, fun x => by simp, tx_fresh (Heap.get?_push_of_some _ hS)⟩ ?_
        rintro ⟨h', g', d', tk', os'⟩ l mv hl hm hS2
        have eg : g' = s.gens := mv.gens
        have ed : d' = s.drawn := mv.drawn
        have eo : os' = s.os := mv.os
        subst eg; subst ed; subst eo
        show wpAny _ _ _ _ _ _
        refine wpAny_pure ?_
        show wpAny _ _ (ret Value.none) _ _ _
        refine wpAny_pure ⟨rfl, h', tk', l, rfl, hS2, hsz ▸ hl, hm, fun b o e => ?_⟩
        have b0 : b < s.heap.objs.size := Heap.lt_size e
        refine mv.heap b o (fun z => ?_) (Heap.get?_push_of_some _ (Heap.get?_push_of_some _ e))
        rcases List.mem_cons.mp z with z | z
        · exact Nat.ne_of_lt b0 z
        · exact Nat.ne_of_lt (Nat.lt_succ_of_lt b0) ((List.mem_singleton.mp z).trans hz)
      · rcases r2 with e | fl2
        · exact hr2
        · cases fl2 with
          | ret v2 =>
            obtain ⟨rfl, h', tk, l, rfl, hS2, hl, hm, hk⟩ := hr2
            repeat (any_goals (first | assumption | wp_step))
            exact q _ _ l hS2 hl hm hk
          | _ => exact hr2.elim
    | _ => exact hr.elim
end
end KV

namespace KV
open PySem PySem.Spec PyProof.Rows L2 PySem.Froz
theorem perm_of_sub {α : Type} [BEq α] [LawfulBEq α] : ∀ (l m : List α), l.Nodup → (∀ x ∈ l, x ∈ m) → m.length = l.length → m.Perm l
  | [], m, _, _, h => by
    rw [List.eq_nil_of_length_eq_zero h]
  | x :: l, m, nd, sub, h => by
    obtain ⟨n1, n2⟩ := List.nodup_cons.mp nd
    have hx : x ∈ m := sub x List.mem_cons_self
    have pm := List.perm_cons_erase hx
    have q := perm_of_sub l (m.erase x) n2 (fun y hy => (List.mem_erase_of_ne (fun z => n1 (by rw [← z]; exact hy))).mpr (sub y (List.mem_cons_of_mem _ hy))) (by
      have e := pm.length_eq
      rw [List.length_cons] at e h
      omega)
    exact pm.trans (q.cons x)
section
variable {P : Program} {w : World} {A : Around} {E : Value → Shared → Prop} {s : Shared} {a : Addr} {l : List Str}
theorem tx_sort {p : Addr} {vs : List Value} {ss : List Str} {n : Nat} {R : Fin → Shared → Prop} (ho : s.heap.get? p = some (seqObj "list" vs.toArray n)) (hS : StrsAre vs ss) (hz : vs.length ≤ sizeLine)
    (q : ∀ (out : Array Value) (ts : List Str), StrsAre out.toList ts → ts.Perm ss → sortedS ts = true → R (.done (.ret .none)) { s with heap := sortedHeap s.heap p vs out }) :
    wpAny (model P w) A (Builtin.«list.sort» ⟨[.ref p], []⟩) R E s := by
  refine list_sort_treeKAny strKind_oneLt ho hS.keysOf (fun v1 v2 r e => keyKind_strs (by rw [← e]; exact hS)) hz fun st' p1 p2 => ?_
  obtain ⟨ts, q1, q2, q3⟩ := sorted_out_str hS p1 p2
  exact q _ ts q1 q2 q3
/-- sorted(a set of texts) -/
theorem tx_sorted {Q : Value → Shared → Prop} (R : TxSet P w s.heap a l) (hh : A.handled = none)
    (q : ∀ s' p (out : Array Value) (c : Nat) (ss : List Str), (∀ b o, s.heap.get? b = some o → s'.heap.get? b = some o) → s'.gens = s.gens → s'.os = s.os → s.heap.objs.size ≤ p →
      s'.heap.get? p = some (seqObj "list" out c) → StrsAre out.toList ss → sortedS ss = true → ss.Perm l → Q (.ref p) s') :
    wpAny (model P w) A (call (.builtin "sorted") [.ref a]) Q E s := by
  obtain ⟨⟨es, ep, t⟩, ho, F, nd, hb, hr, hl⟩ := R
  have hsz : es.size = l.length := F.sz
  refine Calls.call_function_entry kind_sorted plain_sorted entry_sorted (args_sorted1 _) ?_
  unfold Builtin.«sorted»
  refine wpAny_bind (m := checkCount "sorted" 1 1 _) (wpAny_pure ?_)
  have hat : SetAt s.heap a es ep t := ⟨_, ho, rfl, rfl⟩
  have hfit : t.fits es.size = true := F.fit
  have hsm : es.size < scanBound := by
    rw [hsz]
    exact hb
  refine wpAny_bind (collect_set (A := A.in1) hh hat hfit hsm hr hl fun s1 vs k1 hz g1 o1 pm => ?_)
  have len : vs.length = l.length := by rw [pm.length_eq, List.length_map, Array.length_toList, hsz]
  have allS : ∀ v ∈ vs, ∃ x tk, v = Value.str x tk := fun v hv => by
    obtain ⟨e, he, z⟩ := List.mem_map.mp (pm.mem_iff.mp hv)
    obtain ⟨⟨k, hk, _⟩, _⟩ := F.el e he
    obtain ⟨tk, e2⟩ := Value.isStrOf_shape hk
    exact ⟨k, tk, by rw [← z]; exact e2⟩
  have hS := strsAre_map vs allS
  have pl : (vs.map strOf).Perm l := perm_of_sub l _ nd (fun x hx => by
    obtain ⟨e, he, z⟩ := (F.mem x).mp hx
    obtain ⟨tk, e2⟩ := Value.isStrOf_shape z
    exact List.mem_map.mpr ⟨e.2, pm.mem_iff.mpr (List.mem_map.mpr ⟨e, he, rfl⟩), by rw [e2] <;> rfl⟩) (by rw [List.length_map]; exact len)
  have hz64 : vs.length ≤ sizeLine := by
    rw [len]
    exact fits_of_scanBound hb
  refine wpAny_bind (wpAny_newList ?_ hz64)
  have hL : (s1.heap.push (seqObj "list" vs.toArray 0)).get? s1.heap.objs.size = some (seqObj "list" vs.toArray 0) := Heap.get?_push_size _ rfl
  refine wpAny_bind (wpAny_holding (wpAny_call_entry slot_list_sort ⟨_, hL, rfl⟩ entry_list_sort (tx_sort hL hS hz64 fun out ss q1 q2 q3 => ⟨_, rfl, ?_⟩) (args_list_sort _)))
  obtain ⟨c, hc⟩ := sortedHeap_at (vs := vs) (out := out) hL
  refine wpAny_pure ⟨_, rfl, q _ s1.heap.objs.size out c ss (fun b u e => ?_) g1 o1 hz hc q1 q3 (q2.trans pl)⟩
  have e1 := k1 b u e
  have lt := Heap.lt_size e1
  show (sortedHeap (s1.heap.push (seqObj "list" vs.toArray 0)) s1.heap.objs.size vs out).get? b = some u
  refine (sortedHeap_old (Nat.ne_of_lt lt) (by rw [size_push']; exact Nat.lt_succ_of_lt lt)).trans ?_
  exact Heap.get?_push_of_some _ e1
end
/-! ### as objects of the hand layer -/
def TxO (P : Program) (w : World) (a : Addr) (l : List Str) : HO := .ext fun h => TxSet P w h a l
section
variable {X : Cx}
theorem txO_new {P : Program} {w : World} {H : Hp} {h : Heap} {a : Addr} {l : List Str} (R : TxSet P w h a l) : ObjOk P w H h a (TxO P w a l) :=
  ⟨R, R.elim fun D z => ⟨_, z.1⟩, fun h1 h2 p k => TxSet.keep p k⟩
theorem txO_get {pins : List (Addr × Obj)} {σ : L2.St} {H : Hp} {s : Shared} {a : Addr} {l : List Str} (I : Inv X pins σ H s) (ha : H a = some (TxO X.prog X.w a l)) : TxSet X.prog X.w s.heap a l := (I.hok a _ ha).1
/-- set(a tuple of texts) -/
def rSetT (P : Program) (w : World) (K : PySem.W.Frag) : List V → Hp → VK → Prop := fun vs H Q => ∃ (p : Addr) (xs : List Str), vs = [.ref p] ∧ SqT K H p (xs.map V.str) ∧ xs.length ≤ 1000 ∧
  ∀ (a : Addr) (l : List Str), H a = none → (∀ x, x ∈ l ↔ x ∈ xs) → l.length ≤ xs.length → Q (.ref a) (upd H a (TxO P w a l))
theorem cr_setT (hc : X.calm = true) : CallR X (.type "set") (rSetT X.prog X.w X.K) := by
  intro pins s σ H vs us Q I r h
  obtain ⟨p, xs, rfl, hq, hz, q⟩ := h
  rw [Vals.ref1 r]
  obtain ⟨its, rv, pt, _⟩ := I.tuple hq
  have hx : StrsAre its.toArray.toList xs := by simpa using rv.strs
  refine tx_of_tuple (I.ok.hd hc) (show s.heap.IsTuple p its.toArray from pt) hx (by unfold scanBound; omega) fun h' tk l R hl hm k => ?_
  exact ⟨.ref _, upd H s.heap.objs.size (TxO X.prog X.w s.heap.objs.size l), I.laid k (Nat.le_refl _) (txO_new R), rfl, q _ l (I.hok.fresh (Nat.le_refl _)) hm hl⟩
/-- sorted(a set of texts) -/
def rSortedT (P : Program) (w : World) : List V → Hp → VK → Prop := fun vs H Q => ∃ (a : Addr) (l : List Str), vs = [.ref a] ∧ H a = some (TxO P w a l) ∧ l.length ≤ 1000 ∧
  ∀ (ss : List Str) (p : Addr), sortedS ss = true → ss.Perm l → l.Nodup → H p = none → Q (.ref p) (upd H p (.lst (ss.map V.str)))
theorem cr_sortedT (hc : X.calm = true) : CallR X (.builtin "sorted") (rSortedT X.prog X.w) := by
  intro pins s σ H vs us Q I r h
  obtain ⟨a, l, rfl, ha, hz, q⟩ := h
  rw [Vals.ref1 r]
  have R := txO_get I ha
  have nd : l.Nodup := R.elim fun D z => z.2.2.1
  refine tx_sorted R (I.ok.hd hc) fun s' p out c ss k g o hp hob hi hs pm => ?_
  have fits : (ss.map V.str).length ≤ sizeLine := by
    rw [List.length_map, pm.length_eq, sizeLine_eq]
    omega
  have none : H p = none := I.hok.fresh hp
  have J : Inv X pins σ (upd H p (.lst (ss.map V.str))) { s with heap := s'.heap, gens := s'.gens, drawn := s'.drawn, toks := s'.toks } :=
    I.call (ch := []) (Un.laid k hp none) (I.hok.laid k hp ⟨fits, out.toList, c, vals_of_strs hi, hob⟩) (by rw [g]; exact I.bare) (fun _ z => nomatch z)
  have e : s' = { s with heap := s'.heap, gens := s'.gens, drawn := s'.drawn, toks := s'.toks } := by
    obtain ⟨a1, a2, a3, a4, a5⟩ := s'
    obtain ⟨b1, b2, b3, b4, b5⟩ := s
    cases o
    rfl
  rw [e]
  exact ⟨.ref p, _, J, rfl, q ss p hs pm nd none⟩
end
end KV

namespace KV
open PySem PySem.Spec PyProof.Rows L2 PySem.Froz
/-! ### texts in order -/
def ltS (a b : Str) : Prop := a.cps.toList < b.cps.toList
instance (a b : Str) : Decidable (ltS a b) := by unfold ltS; infer_instance
theorem str_ext {a b : Str} (h : a.cps.toList = b.cps.toList) : a = b := by
  obtain ⟨x⟩ := a
  obtain ⟨y⟩ := b
  have e : x = y := Array.toList_inj.mp h
  rw [e]
theorem ltS_irr (a : Str) : ¬ ltS a a := List.lt_irrefl _
theorem ltS_trans {a b c : Str} (h : ltS a b) (k : ltS b c) : ltS a c := List.lt_trans h k
theorem ltS_tri {a b : Str} (h : ¬ ltS a b) (k : ¬ ltS b a) : a = b := str_ext (List.le_antisymm (List.not_lt.mp k) (List.not_lt.mp h))
theorem ltS_of {a b c : Str} (h : ¬ ltS b a) (k : ¬ ltS c b) : ¬ ltS c a := List.not_lt.mpr (List.le_trans (List.not_lt.mp h) (List.not_lt.mp k))
theorem ltS_cps (a b : Str) : ltCps a.cps.toList b.cps.toList = decide (ltS a b) := ltCps_eq _ _
/-- each is below the next -/
def ascS : List Str → Bool
  | [] => true
  | [_] => true
  | a :: b :: r => decide (ltS a b) && ascS (b :: r)
theorem ascS_pw : ∀ (l : List Str), ascS l = true → l.Pairwise ltS
  | [], _ => .nil
  | [a], _ => List.pairwise_singleton _ _
  | a :: b :: r, h => by
    have h1 : (decide (ltS a b) && ascS (b :: r)) = true := h
    rw [Bool.and_eq_true, decide_eq_true_eq] at h1
    have ih := ascS_pw (b :: r) h1.2
    refine List.pairwise_cons.mpr ⟨fun x hx => ?_, ih⟩
    rcases List.mem_cons.mp hx with rfl | hx
    · exact h1.1
    · exact ltS_trans h1.1 ((List.pairwise_cons.mp ih).1 x hx)
theorem pw_ascS : ∀ (l : List Str), l.Pairwise ltS → ascS l = true
  | [], _ => rfl
  | [a], _ => rfl
  | a :: b :: r, h => by
    show (decide (ltS a b) && ascS (b :: r)) = true
    rw [Bool.and_eq_true, decide_eq_true_eq]
    exact ⟨(List.pairwise_cons.mp h).1 b List.mem_cons_self, pw_ascS (b :: r) (List.pairwise_cons.mp h).2⟩
theorem rising_pw : ∀ (l : List Str) (p : Str), risingS p l = true → (p :: l).Pairwise fun a b => ¬ ltS b a
  | [], p, _ => List.pairwise_singleton _ _
  | x :: r, p, h => by
    have h1 : (!ltCps x.cps.toList p.cps.toList && risingS x r) = true := h
    rw [Bool.and_eq_true, ltS_cps, Bool.not_eq_true', decide_eq_false_iff_not] at h1
    have ih := rising_pw r x h1.2
    refine List.pairwise_cons.mpr ⟨fun y hy => ?_, ih⟩
    rcases List.mem_cons.mp hy with rfl | hy
    · exact h1.1
    · exact ltS_of h1.1 ((List.pairwise_cons.mp ih).1 y hy)
theorem sorted_pw {l : List Str} (h : sortedS l = true) : l.Pairwise fun a b => ¬ ltS b a := by
  cases l with
  | nil => exact .nil
  | cons x r => exact rising_pw r x h
theorem strict_of {l : List Str} (h : l.Pairwise fun a b => ¬ ltS b a) (nd : l.Nodup) : l.Pairwise ltS := by
  induction l with
  | nil => exact .nil
  | cons x r ih =>
    obtain ⟨h1, h2⟩ := List.pairwise_cons.mp h
    obtain ⟨n1, n2⟩ := List.nodup_cons.mp nd
    refine List.pairwise_cons.mpr ⟨fun y hy => Classical.byContradiction fun z => n1 ?_, ih h2 n2⟩
    rw [ltS_tri z (h1 y hy)]
    exact hy
theorem strict_eq : ∀ (l m : List Str), l.Pairwise ltS → m.Pairwise ltS → (∀ x, x ∈ l ↔ x ∈ m) → l = m
  | [], [], _, _, _ => rfl
  | [], y :: m, _, _, h => absurd ((h y).mpr List.mem_cons_self) List.not_mem_nil
  | x :: l, [], _, _, h => absurd ((h x).mp List.mem_cons_self) List.not_mem_nil
  | x :: l, y :: m, h1, h2, h => by
    obtain ⟨a1, a2⟩ := List.pairwise_cons.mp h1
    obtain ⟨b1, b2⟩ := List.pairwise_cons.mp h2
    have e : x = y := by
      refine Classical.byContradiction fun ne => ?_
      have q1 : x ∈ m := (List.mem_cons.mp ((h x).mp List.mem_cons_self)).resolve_left ne
      have q2 : y ∈ l := (List.mem_cons.mp ((h y).mpr List.mem_cons_self)).resolve_left (fun z => ne z.symm)
      exact ltS_irr _ (ltS_trans (b1 x q1) (a1 y q2))
    subst e
    have ih := strict_eq l m a2 b2 fun z => ⟨fun hz => ?_, fun hz => ?_⟩
    · rw [ih]
    · exact (List.mem_cons.mp ((h z).mp (List.mem_cons_of_mem _ hz))).resolve_left fun q => ltS_irr x (by have := a1 z hz; rw [q] at this; exact this)
    · exact (List.mem_cons.mp ((h z).mpr (List.mem_cons_of_mem _ hz))).resolve_left fun q => ltS_irr x (by have := b1 z hz; rw [q] at this; exact this)
/-- a list of texts is its set, sorted: each is below the next -/
theorem sorted_set_iff {xs l ss : List Str} (hm : ∀ x, x ∈ l ↔ x ∈ xs) (nd : l.Nodup) (hs : sortedS ss = true) (pm : ss.Perm l) : xs = ss ↔ ascS xs = true := by
  have hss := strict_of (sorted_pw hs) (pm.nodup_iff.mpr nd)
  constructor
  · rintro rfl
    exact pw_ascS _ hss
  · intro h
    exact strict_eq xs ss (ascS_pw xs h) hss fun x => ((hm x).symm.trans pm.mem_iff.symm)
end KV

namespace KV
open PySem PySem.Spec PyProof.Rows L2 RZ
abbrev sOf : Stmt := topS 33
abbrev sName : Stmt := topS 34
abbrev sNames : Stmt := topS 35
abbrev sNamed : Stmt := topS 36
section
variable {P : Program} {w : World} {K : PySem.W.Frag} {mg : Str → Option Value} {base : Heap}
theorem sgn_len (x : Str) : x.cps.toList.length = x.length := by simp [Str.length]
/-! ### _law_of -/
def spOf (K : PySem.W.Frag) : Sp := fun vs H Q _ => ∃ (b : Addr) (n : Nat) (v : V), vs = [.ref b, v] ∧ BoxAt H b n ∧ n + 1 ≤ 2 ^ 40 ∧
  ((∃ x : Str, v = .str x ∧ 0 < x.length ∧ x.length ≤ 1000 ∧ ∀ (c : Nat) (H' : Hp), c ∈ x.cps.toList → SameX [b] H H' → BoxAt H' b (n + 1) → Q (.str ⟨#[c]⟩) H') ∨
   (∃ (B : List Addr) (a : Addr) (xs : List V), v = .ref a ∧ b ∈ B ∧ (SqL K (hide B H) a xs ∨ SqT K (hide B H) a xs) ∧ 0 < xs.length ∧ xs.length ≤ 1000 ∧
     ∀ (i : Nat) (x : V) (H' : Hp), xs[i]? = some x → SameX [b] H H' → BoxAt H' b (n + 1) → Q x H'))
theorem scOf : FnScope ["_law_box_here", "_law_some"] ["_law_box_here", "_law_some"] (defScope sOf) :=
  ⟨rfl, rfl, rfl, by decide +kernel, rfl, by decide +kernel, by decide +kernel⟩
theorem ok_of {f fT : Addr} {fd fdT : FuncData} {k : Nat} (F : Fun K "_law_of" "_law_of" sOf f fd) (FT : Fun K "_law_take" "_law_take" sTake fT fdT) (bT : Binds K fdT ["_law_box_here", "_law_below"] []) (mT : mg "_law_take" = some (.ref fT))
    (mn : mg "int" = none) (ml : mg "len" = none) : FnOk P w K mg base CX0 (k + 2) f fd ["_law_box_here", "_law_some"] (spOf K) := by
  have GT : FnOk P w K mg base CX0 (k + 1) fT fdT ["_law_box_here", "_law_below"] spTake := ok_take FT mn
  refine F.ok scOf (fun vs H Q E h => ?_) (fun cdv A outer s H vs Q E hr h => ?_)
  · obtain ⟨b, n, v, rfl, _⟩ := h
    rfl
  · obtain ⟨b, n, v, rfl, hB, hn, h⟩ := h
    refine ⟨_, pss_one (ps_ret (pe_ix ix_seq (pv 1) (pe_call GT hr (by rfl) mT FT.kp bT .nil pass0 (pa_cons (pv 0) (pa_cons (pe_callB (call_len_seq.or call_len_str) (by rfl) ml PySem.boot_len (pa_cons (pv 1) pa_nil)) pa_nil))) (fun _ _ => rfl))), ?_⟩
    rcases h with ⟨x, rfl, h0, h1, q⟩ | ⟨B, a, xs, rfl, hb, hx, h0, h1, q⟩
    · refine ⟨_, rfl, _, rfl, _, rfl, .inr ⟨x, rfl, Nat.le_of_lt (small1000 h1), b, n, x.length, rfl, by omega, by omega, hB, by omega, fun r H' r0 r1 s2 b2 => ?_⟩⟩
      obtain ⟨j, rfl⟩ : ∃ j : Nat, r = j := ⟨r.toNat, by omega⟩
      have hj : j < x.cps.toList.length := by rw [sgn_len]; omega
      exact .inr (.inr ⟨x, j, x.cps.toList[j], rfl, rfl, Nat.le_of_lt (small1000 h1), atI_nat (List.getElem?_eq_getElem hj), q _ _ (List.getElem_mem hj) s2 b2⟩)
    · have hx1 : SqL K H a xs ∨ SqT K H a xs := hx.imp (hide_same B H).seq (same_seqT (hide_same B H))
      refine ⟨_, rfl, _, rfl, _, rfl, .inl ⟨a, xs, rfl, hx1, b, n, xs.length, rfl, by omega, by omega, hB, by omega, fun r H' r0 r1 s2 b2 => ?_⟩⟩
      obtain ⟨j, rfl⟩ : ∃ j : Nat, r = j := ⟨r.toNat, by omega⟩
      have hj : j < xs.length := by omega
      have e : xs[j]? = some xs[j] := List.getElem?_eq_getElem hj
      have s3 : Same (hide B H) (hide B H') := s2.hide fun c hc => by rw [List.mem_singleton.mp hc]; exact hb
      have hx2 : SqL K H' a xs ∨ SqT K H' a xs := hx.imp (fun z => (hide_same B H').seq (s3.seq z)) (fun z => same_seqT (hide_same B H') (same_seqT s3 z))
      rcases hx2 with z | z
      · exact .inl ⟨a, xs, j, _, rfl, rfl, z, atI_nat e, q j _ _ e s2 b2⟩
      · exact .inr (.inl ⟨a, xs, j, _, rfl, rfl, z, atI_nat e, q j _ _ e s2 b2⟩)
end
end KV

namespace KV
open PySem PySem.Spec PyProof.Rows L2 RZ
/-- a name: one to eight small letters -/
def wordS (x : Str) : Bool := decide (0 < x.length) && decide (x.length ≤ 8) && x.cps.toList.all fun c => decide (97 ≤ c) && decide (c ≤ 122)
theorem word_few : ((Txt.split (Str.ofString "link late kept yes no slots pipes ring nop put text all turn reap slot good") (Str.ofString " ")).all wordS && decide (0 < (Txt.split (Str.ofString "link late kept yes no slots pipes ring nop put text all turn reap slot good") (Str.ofString " ")).length) &&
    decide ((Txt.split (Str.ofString "link late kept yes no slots pipes ring nop put text all turn reap slot good") (Str.ofString " ")).length ≤ 1000)) = true := by decide +kernel
theorem letters_ok : ((Str.ofString "abcdefghijklmnopqrstuvwxyz").cps.toList.all fun c => decide (97 ≤ c) && decide (c ≤ 122)) = true := by decide +kernel
theorem glue_sing : ∀ cs : List Nat, (Str.join (Str.ofString "") (cs.map fun c => (⟨#[c]⟩ : Str))).cps.toList = cs
  | [] => rfl
  | [c] => rfl
  | c :: d :: r => by
    have ih := glue_sing (d :: r)
    show (#[c] ++ (Str.ofString "").cps ++ (Str.join (Str.ofString "") ((d :: r).map fun c => (⟨#[c]⟩ : Str))).cps : Array Nat).toList = _
    rw [Array.toList_append, Array.toList_append, ih]
    rfl
theorem sing_len (cs : List Nat) : ((cs.map fun c => (⟨#[c]⟩ : Str)).map (·.length)).sum = cs.length := by
  induction cs with
  | nil => rfl
  | cons c r ih =>
    show 1 + ((r.map fun c => (⟨#[c]⟩ : Str)).map (·.length)).sum = r.length + 1
    rw [ih, Nat.add_comm]
theorem glued_word {cs : List Nat} (h0 : 0 < cs.length) (h8 : cs.length ≤ 8) (ha : (cs.all fun c => decide (97 ≤ c) && decide (c ≤ 122)) = true) : wordS (Txt.join (Str.ofString "") (cs.map fun c => (⟨#[c]⟩ : Str))) = true := by
  have e : (Txt.join (Str.ofString "") (cs.map fun c => (⟨#[c]⟩ : Str))).cps.toList = cs := by
    show (Builtin.Str.glued (Str.ofString "") (cs.map fun c => (⟨#[c]⟩ : Str))).cps.toList = cs
    rw [StrLaws.glued_eq_join]
    exact glue_sing cs
  have el : (Txt.join (Str.ofString "") (cs.map fun c => (⟨#[c]⟩ : Str))).length = cs.length := by rw [← sgn_len, e]
  unfold wordS
  rw [e, el, ha, decide_eq_true h0, decide_eq_true h8]
  rfl
section
variable {P : Program} {w : World} {K : PySem.W.Frag} {mg : Str → Option Value} {base : Heap}
/-! ### _law_name -/
def spName (K : PySem.W.Frag) : Sp := fun vs H Q _ => ∃ (b : Addr) (n : Nat), vs = [.ref b] ∧ BoxAt H b n ∧ n + 20 ≤ 2 ^ 40 ∧
  ∀ (x : Str) (H' : Hp), wordS x = true → SameX [b] H H' → BoxAt H' b (n + 12) → Q (.str x) H'
theorem scName : FnScope ["_law_box_here", "_law_some", "_law_k"] ["_law_box_here"] (defScope sName) :=
  ⟨rfl, rfl, rfl, by decide +kernel, rfl, by decide +kernel, by decide +kernel⟩
theorem ok_name {f fT fO : Addr} {fd fdT fdO : FuncData} {k : Nat} (F : Fun K "_law_name" "_law_name" sName f fd) (FT : Fun K "_law_take" "_law_take" sTake fT fdT) (bT : Binds K fdT ["_law_box_here", "_law_below"] []) (mT : mg "_law_take" = some (.ref fT))
    (FO : Fun K "_law_of" "_law_of" sOf fO fdO) (bO : Binds K fdO ["_law_box_here", "_law_some"] []) (mO : mg "_law_of" = some (.ref fO))
    (mn : mg "int" = none) (ml : mg "len" = none) (mr : mg "range" = none) : FnOk P w K mg base CX0 (k + 3) f fd ["_law_box_here"] (spName K) := by
  have GT : FnOk P w K mg base CX0 (k + 2) fT fdT ["_law_box_here", "_law_below"] spTake := ok_take FT mn
  have GO : FnOk P w K mg base CX0 (k + 2) fO fdO ["_law_box_here", "_law_some"] (spOf K) := ok_of FO FT bT mT mn ml
  refine F.ok scName (fun vs H Q E h => ?_) (fun cdv A outer s H vs Q E hr h => ?_)
  · obtain ⟨b, n, rfl, _⟩ := h
    rfl
  · obtain ⟨b, n, rfl, hB, hn, q⟩ := h
    refine ⟨_, pss_cons (ps_if (pt_cmpR op_eq (pe_call GT hr (by rfl) mT FT.kp bT .nil pass0 (pa_cons (pv 0) (pa_cons pe_int pa_nil))) pe_int (nomark _))
        (pss_cons (ps_set (i := 1) scName.nd rfl (.inl rfl) pe_str) (pss_one (ps_ret (pe_call GO hr (by rfl) mO FO.kp bO .nil pass0 (pa_cons (pv 0) (pa_cons (pe_split (pv 1) pe_str) pa_nil)))))) pss_nil)
      (pss_one (ps_ret (pe_join pe_str (pe_lc (own := [("_law_k", 2)]) (g := gName 2) (tt := tYes) rfl scName.nd
        (pi_range1 (by rfl) mr (pa_cons (pe_op op_add pe_int (pe_call GT hr (by rfl) mT FT.kp bT .nil pass0 (pa_cons (pv 0) (pa_cons pe_int pa_nil)))) pa_nil))
        (blkOk_by (N := ["_law_box_here", "_law_some", "_law_k"]) (sc := defScope sName) (by decide +kernel))
        (fun _ _ _ _ _ => pg_name (i := 2) scName.nd rfl (Or.inl rfl)) (fun _ _ _ _ _ => pts_nil) (fun _ _ _ _ _ => pe_call GO hr (by rfl) mO FO.kp bO .nil pass0 (pa_cons (pv 0) (pa_cons pe_str pa_nil))))))), ?_⟩
    refine ⟨_, rfl, b, n, 3, rfl, by decide, by decide, hB, by omega, fun r H1 r0 r1 s1 b1 => ?_⟩
    refine ⟨rfl, _, rfl, ite2 (fun e => ?_) (fun e => ?_)⟩
    · have wf := word_few
      simp only [Bool.and_eq_true, decide_eq_true_eq] at wf
      obtain ⟨⟨w1, w2⟩, w3⟩ := wf
      refine ⟨_, rfl, _, rfl, ⟨_, rfl⟩, ⟨_, _, rfl, rfl, by decide +kernel, by decide +kernel, fun p np => ?_⟩⟩
      have pb : p ≠ b := b1.new np
      refine ⟨b, n + 1, .ref p, rfl, b1.same (same_upd np), by omega, .inr ⟨[b], p, _, rfl, List.mem_singleton.mpr rfl, .inl (SqL.of (by rw [hide_out (fun z => pb (List.mem_singleton.mp z)), upd_same])), by rw [List.length_map]; exact w2, by rw [List.length_map]; exact w3, fun i x H2 hx s2 b2 => ?_⟩⟩
      rw [List.getElem?_map] at hx
      obtain ⟨y, hy, rfl⟩ := Option.map_eq_some_iff.mp hx
      exact q y H2 (List.all_eq_true.mp w1 y (List.mem_of_getElem? hy)) (s1.trans ((SameX.of (same_upd np)).trans s2)) (b2.le (by omega))
    · refine ⟨⟨_, rfl⟩, ?_⟩
      refine ⟨_, rfl, b, n + 1, 8, rfl, by decide, by decide, b1, by omega, fun r2 H2 r20 r21 s2 b2 => ?_⟩
      obtain ⟨j, rfl⟩ : ∃ j : Nat, r2 = j := ⟨r2.toNat, by omega⟩
      refine ⟨_, _, rfl, rfl, _, rfl, by omega, by omega, fun D nD => lc_it (walk_range (lo := 0) (n := ((1 : Int) + j).toNat)) (fun i H3 => SameX [D, b] H2 H3 ∧ BoxAt H3 b (n + 2 + i) ∧ ∃ cs : List Nat, H3 D = some (.lst ((cs.map fun c => (⟨#[c]⟩ : Str)).map V.str)) ∧ cs.length = i ∧ (cs.all fun c => decide (97 ≤ c) && decide (c ≤ 122)) = true)
        ⟨sameX_upd List.mem_cons_self, ?_, [], upd_same, rfl, rfl⟩ (fun _ _ _ _ => trivial) ?_ ?_⟩
      · have pD : b ≠ D := (b2.new nD).symm
        obtain ⟨x, y, c, z, z2⟩ := b2
        exact ⟨x, y, c, by rw [upd_ne pD]; exact z, z2⟩
      · rintro i x H3 H3' hi ⟨s3, b3, cs, hD, hl, ha⟩ ⟨rfl, rfl⟩
        have pD : D ≠ b := b2.new nD
        refine ⟨rfl, tYes_ok ⟨_, rfl, b, _, _, rfl, b3, by omega, .inl ⟨_, rfl, by decide +kernel, by decide +kernel, fun c H4 hc s4 b4 => ?_⟩⟩⟩
        have hD4 : H4 D = some (.lst ((cs.map fun c => (⟨#[c]⟩ : Str)).map V.str)) := s4 D _ (fun z => pD (List.mem_singleton.mp z)) hD
        refine ⟨_, hD4, small1000 (by rw [List.length_map, List.length_map]; omega), s3.trans ((s4.sub fun z hz => List.mem_cons_of_mem _ hz).trans (sameX_upd List.mem_cons_self)), ?_, cs ++ [c], ?_, ?_, ?_⟩
        · obtain ⟨u1, u2, u3, z, z2⟩ := b4
          exact ⟨u1, u2, u3, by rw [upd_ne pD.symm]; exact z, by omega⟩
        · rw [upd_same, List.map_append, List.map_append]
          rfl
        · rw [List.length_append, hl]
          rfl
        · rw [List.all_append, ha, Bool.true_and]
          have hc2 := List.all_eq_true.mp letters_ok c hc
          simpa using hc2
      · rintro H3 ⟨s3, b3, cs, hD, hl, ha⟩
        refine ⟨_, D, _, rfl, rfl, .inl (SqL.of hD), ?_, q _ _ (glued_word (by omega) (by omega) ha) ?_ (b3.le (by omega))⟩
        · rw [sing_len, List.length_map]
          show cs.length + cs.length * 0 ≤ _
          omega
        · refine s1.trans (s2.trans fun c o z e => s3 c o (fun y => ?_) e)
          rcases List.mem_cons.mp y with y | y
          · exact ne_of_none e nD y
          · exact z y
end
end KV

namespace KV
open PySem PySem.Spec PyProof.Rows L2 RZ
/-- a letter, eight times -/
def eight (c : Nat) : Str := ⟨#[c, c, c, c, c, c, c, c]⟩
def rMul8 : R2 := fun x y H Q => ∃ c : Nat, x = .str ⟨#[c]⟩ ∧ y = .int 8 ∧ Q (.str (eight c)) H
theorem op_mul8 {X : Cx} : OpR X (binaryOp .Mult) rMul8 := by
  intro pins s σ H x y v u Q I rx ry h
  obtain ⟨c, rfl, rfl, q⟩ := h
  obtain ⟨t, rfl⟩ := rx
  obtain ⟨t2, rfl⟩ := ry
  refine PySem.P.mul_str (by decide) (fun _ _ => by show ¬ (((1 : Nat) : Int) > (2 ^ 63 - 1) / 8); decide) (fun _ _ => by show Builtin.Str.tooLong (1 * (8 : Int).toNat) = false; decide +kernel) ?_
  rw [if_neg (by decide), if_neg (by show ¬ ((8 : Int) == 1 || (1 : Nat) == 0) = true; decide)]
  have e : (⟨List.foldl (fun x1 x2 => x1 ++ x2) #[] (List.replicate (Int.toNat 8) (⟨#[c]⟩ : Str).cps)⟩ : Str) = eight c := rfl
  rw [e]
  exact ⟨by show 8 ≤ sizeLine; decide, ⟨.str (eight c), H, I.tok _, ⟨_, rfl⟩, q⟩⟩
theorem in_strs (x : Str) (xs : List Str) : inV (.str x) (xs.map V.str) = decide (x ∈ xs) := by
  unfold inV
  rw [List.any_map, Bool.eq_iff_iff, List.any_eq_true, decide_eq_true_eq]
  constructor
  · rintro ⟨y, hy, e⟩
    have e2 : (y == x) = true := e
    rw [← eq_of_beq e2]
    exact hy
  · intro h
    exact ⟨x, h, beq_self_eq_true x⟩
theorem flat_strs (xs : List Str) : (xs.map V.str).all flatV = true := by
  rw [List.all_map, List.all_eq_true]
  intro x _
  rfl
theorem eight_inj {c d : Nat} (h : eight c = eight d) : c = d := by
  have e : [c, c, c, c, c, c, c, c] = [d, d, d, d, d, d, d, d] := congrArg (fun x : Str => x.cps.toList) h
  exact (List.cons.inj e).1
theorem eight_word {c : Nat} (h : (decide (97 ≤ c) && decide (c ≤ 122)) = true) : wordS (eight c) = true := by
  show (decide (0 < 8) && decide (8 ≤ 8) && [c, c, c, c, c, c, c, c].all fun c => decide (97 ≤ c) && decide (c ≤ 122)) = true
  simp only [List.all_cons, h, List.all_nil]
  rfl
def abcs : List Nat := (Str.ofString "abcdefghijklmnopqrstuvwxyz").cps.toList
theorem abcs_nd : abcs.Nodup ∧ abcs.length = 26 := by decide +kernel
theorem fresh_word {xs : List Str} (h : xs.length < 26) : ∃ c ∈ abcs, eight c ∉ xs := by
  refine Classical.byContradiction fun no => ?_
  have all : ∀ c ∈ abcs, eight c ∈ xs := fun c hc => Classical.byContradiction fun z => no ⟨c, hc, z⟩
  have nd : (abcs.map eight).Nodup := by
    rw [List.nodup_iff_pairwise_ne, List.pairwise_map]
    exact (List.nodup_iff_pairwise_ne.mp abcs_nd.1).imp fun h e => h (eight_inj e)
  have le : (abcs.map eight).length ≤ xs.length := by
    have key : ∀ (l m : List Str), l.Nodup → (∀ x ∈ l, x ∈ m) → l.length ≤ m.length := by
      intro l
      induction l with
      | nil => intro m _ _; exact Nat.zero_le _
      | cons x l ih =>
        intro m nd sub
        obtain ⟨n1, n2⟩ := List.nodup_cons.mp nd
        have hx : x ∈ m := sub x List.mem_cons_self
        have q := ih (m.erase x) n2 fun y hy => (List.mem_erase_of_ne (fun z => n1 (by rw [← z]; exact hy))).mpr (sub y (List.mem_cons_of_mem _ hy))
        have e := (List.perm_cons_erase hx).length_eq
        rw [List.length_cons] at e ⊢
        omega
    refine key _ _ nd fun x hx => ?_
    obtain ⟨c, hc, rfl⟩ := List.mem_map.mp hx
    exact all c hc
  rw [List.length_map, abcs_nd.2] at le
  omega
end KV

namespace KV
open PySem PySem.Spec PyProof.Rows L2 RZ
theorem sameX_old {B : List Addr} {H H' : Hp} {D : Addr} (h : SameX (D :: B) H H') (n : H D = none) : SameX B H H' := fun c o z e => h c o (fun y => (List.mem_cons.mp y).elim (ne_of_none e n) z) e
theorem op_notInK {X : Cx} {K : PySem.W.Frag} (h : X.K = K) : OpR X (compareOp .NotIn) (rIn K true) := by
  subst h
  exact op_notIn_seq
section
variable {P : Program} {w : World} {K : PySem.W.Frag} {mg : Str → Option Value} {base : Heap}
/-! ### _law_names -/
def spNames (K : PySem.W.Frag) : Sp := fun vs H Q _ => ∃ (b : Addr) (n m : Nat), vs = [.ref b, .int m] ∧ m ≤ 24 ∧ BoxAt H b n ∧ n + 1000 ≤ 2 ^ 40 ∧
  ∀ (p : Addr) (xs : List Str) (H' : Hp), SameX [b] H H' → H p = none → H' p = some (.lst (xs.map V.str)) → xs.Nodup → (∀ x ∈ xs, wordS x = true) → xs.length = m → BoxAt H' b (n + 24 * m) → Q (.ref p) H'
abbrev nNames : List Str := ["_law_box_here", "_law_many_so", "_law_found", "_law_k", "_law_some", "_law_turn", "_law_letter", "_law_word"]
theorem scNames : FnScope nNames ["_law_box_here", "_law_many_so"] (defScope sNames) :=
  ⟨rfl, rfl, rfl, by decide +kernel, rfl, by decide +kernel, by decide +kernel⟩
theorem ok_names {f fN : Addr} {fd fdN : FuncData} {k : Nat} (F : Fun K "_law_names" "_law_names" sNames f fd) (FN : Fun K "_law_name" "_law_name" sName fN fdN) (bN : Binds K fdN ["_law_box_here"] []) (mN : mg "_law_name" = some (.ref fN))
    (GN : FnOk P w K mg base CX0 (k + 3) fN fdN ["_law_box_here"] (spName K)) (mr : mg "range" = none) : FnOk P w K mg base CX0 (k + 4) f fd ["_law_box_here", "_law_many_so"] (spNames K) := by
  refine F.ok scNames (fun vs H Q E h => ?_) (fun cdv A outer s H vs Q E hr h => ?_)
  · obtain ⟨b, n, m, rfl, _⟩ := h
    rfl
  · obtain ⟨b, n, m, rfl, hm, hB, hn, q⟩ := h
    refine ⟨_, pss_cons (ps_set (i := 2) scNames.nd rfl (.inr rfl) (pe_lst pa_nil))
      (pss_cons (ps_for PassesOwn.never rfl (pi_range1 (by rfl) mr (pa_cons (pv 1) pa_nil)) (pg_name (i := 3) scNames.nd rfl (.inl rfl))
        (pss_cons (ps_set (i := 4) scNames.nd rfl (.inl rfl) (pe_op op_cat
            (pe_lc (own := [("_law_turn", 5)]) (g := gName 5) (tt := tYes) rfl scNames.nd (pi_range1 (by rfl) mr (pa_cons pe_int pa_nil)) (blkOk_by (N := nNames) (sc := defScope sNames) (by decide +kernel))
              (fun _ _ _ _ _ => pg_name (i := 5) scNames.nd rfl (Or.inl rfl)) (fun _ _ _ _ _ => pts_nil) (fun _ _ _ _ _ => pe_call GN hr (by rfl) mN FN.kp bN .nil pass0 (pa_cons (pv 0) pa_nil)))
            (pe_lc (own := [("_law_letter", 6)]) (g := gName 6) (tt := tYes) rfl scNames.nd (pi_str pe_str) (blkOk_by (N := nNames) (sc := defScope sNames) (by decide +kernel))
              (fun _ _ _ _ _ => pg_name (i := 6) scNames.nd rfl (Or.inl rfl)) (fun _ _ _ _ _ => pts_nil) (fun _ _ _ _ _ => pe_op op_mul8 (pv 6) pe_int))))
        (pss_one (ps_expr (pe_bm PySem.F.plainAttrs_list PySem.F.slot_list_append PySem.F.type_list_append mt_append (pv 2) (pa_cons (pe_ix ix_seq
            (pe_lc (own := [("_law_word", 7)]) (g := gName 7) rfl scNames.nd (pi_list (pv 4)) (blkOk_by (N := nNames) (sc := defScope sNames) (by decide +kernel))
              (fun _ _ _ _ _ => pg_name (i := 7) scNames.nd rfl (Or.inl rfl)) (fun _ _ _ _ _ => pts_one (pt_cmpR (op_notInK (K := K) rfl) (pv 7) (pv 2) (by rfl))) (fun _ _ _ _ _ => pv 7)) pe_int (fun _ _ => rfl)) pa_nil))))))
      (pss_one (ps_ret (pv 2)))), ?_⟩
    refine ⟨by decide, fun p np => ?_⟩
    refine ⟨_, rfl, m, rfl, by omega, by omega, for_range (lo := 0) (n := (m : Int).toNat) (fun i σ H' => ∃ x3 x4 xs, σ = [some (.ref b), some (.int m), some (.ref p), x3, x4, none, none, none] ∧ SameX [p, b] H H' ∧ BoxAt H' b (n + 24 * i) ∧ H' p = some (.lst (xs.map V.str)) ∧ xs.Nodup ∧ (∀ x ∈ xs, wordS x = true) ∧ xs.length = i)
      ⟨none, none, [], rfl, sameX_upd List.mem_cons_self, ?_, upd_same, List.nodup_nil, fun x hx => absurd hx List.not_mem_nil, rfl⟩ ?_ ?_⟩
    · have pb : b ≠ p := (hB.new np).symm
      obtain ⟨x, y, c, z, z2⟩ := hB
      exact ⟨x, y, c, by rw [upd_ne pb]; exact z, z2⟩
    · rintro i σ H1 hi ⟨x3, x4, xs, rfl, s1, b1, hp, nd, wf, hl⟩
      have pb : p ≠ b := hB.new np
      -- two names
      refine ⟨2, rfl, by decide, by decide, fun D nD => lc_it (walk_range (lo := 0) (n := 2)) (fun j H3 => SameX [D, b] H1 H3 ∧ BoxAt H3 b (n + 24 * i + 12 * j) ∧ ∃ ys : List Str, H3 D = some (.lst (ys.map V.str)) ∧ ys.length = j ∧ ∀ y ∈ ys, wordS y = true)
        ⟨sameX_upd List.mem_cons_self, ?_, [], upd_same, rfl, fun y hy => absurd hy List.not_mem_nil⟩ (fun _ _ _ _ => trivial) ?_ ?_⟩
      · have bD : b ≠ D := (b1.new nD).symm
        obtain ⟨x, y, c, z, z2⟩ := b1
        exact ⟨x, y, c, by rw [upd_ne bD]; exact z, z2⟩
      · rintro j x H3 H3' hj ⟨s3, b3, ys, hD, ly, wy⟩ ⟨rfl, rfl⟩
        have Db : D ≠ b := b1.new nD
        refine ⟨rfl, tYes_ok ⟨_, rfl, b, _, rfl, b3, by omega, fun y H4 hw s4 b4 => ?_⟩⟩
        have hD4 : H4 D = some (.lst (ys.map V.str)) := s4 D _ (fun z => Db (List.mem_singleton.mp z)) hD
        refine ⟨_, hD4, small1000 (by rw [List.length_map]; omega), s3.trans ((s4.sub fun z hz => List.mem_cons_of_mem _ hz).trans (sameX_upd List.mem_cons_self)), ?_, ys ++ [y], ?_, ?_, ?_⟩
        · obtain ⟨u1, u2, u3, z, z2⟩ := b4
          exact ⟨u1, u2, u3, by rw [upd_ne Db.symm]; exact z, by omega⟩
        · rw [upd_same, List.map_append]
          rfl
        · rw [List.length_append, ly]
          rfl
        · intro z hz
          rcases List.mem_append.mp hz with hz | hz
          · exact wy z hz
          · rw [List.mem_singleton.mp hz]
            exact hw
      rintro H2 ⟨s2, b2, ys, hD, ly, wy⟩
      have Db : D ≠ b := b1.new nD
      have pD : p ≠ D := fun e => by rw [e, nD] at hp; cases hp
      have hp2 : H2 p = some (.lst (xs.map V.str)) := s2 p _ (fun z => (List.mem_cons.mp z).elim pD fun z => pb (List.mem_singleton.mp z)) hp
      -- letters, eight times
      refine ⟨_, rfl, fun D2 nD2 => lc_it (walk_str (z := Str.ofString "abcdefghijklmnopqrstuvwxyz")) (fun j H3 => SameX [D2] H2 H3 ∧ H3 D2 = some (.lst (((abcs.take j).map eight).map V.str))) ⟨sameX_upd List.mem_cons_self, upd_same⟩ (fun _ _ _ _ => trivial) ?_ ?_⟩
      · rintro j x H3 H3' hj ⟨s3, hD2⟩ ⟨rfl, c, hc, rfl⟩
        have hc2 : abcs[j]? = some c := by
          rw [← hc]
          exact Array.getElem?_toList
        refine ⟨rfl, tYes_ok ⟨_, rfl, c, rfl, rfl, _, hD2, small1000 ?_, s3.trans (sameX_upd List.mem_cons_self), ?_⟩⟩
        · rw [List.length_map, List.length_map, List.length_take]
          have := abcs_nd.2
          omega
        · rw [upd_same, take_snoc hc2, List.map_append, List.map_append]
          rfl
      rintro H3 ⟨s3, hD2⟩
      have e26 : abcs.take (Str.ofString "abcdefghijklmnopqrstuvwxyz").cps.size = abcs := List.take_of_length_le (by rw [Array.length_toList.symm.trans rfl]; exact Nat.le_refl _)
      rw [e26] at hD2
      have DD2 : D ≠ D2 := fun e => by rw [e, nD2] at hD; cases hD
      have pD2 : p ≠ D2 := fun e => by rw [e, nD2] at hp2; cases hp2
      have hD3 : H3 D = some (.lst (ys.map V.str)) := s3 D _ (fun z => DD2 (List.mem_singleton.mp z)) hD
      have hp3 : H3 p = some (.lst (xs.map V.str)) := s3 p _ (fun z => pD2 (List.mem_singleton.mp z)) hp2
      refine ⟨D, D2, _, _, rfl, rfl, hD3, hD2, ?_, fun r nr => ?_⟩
      · rw [List.length_map, List.length_map, List.length_map, abcs_nd.2, ly]
        decide
      have pr : p ≠ r := fun e => by rw [e, nr] at hp3; cases hp3
      have br : BoxAt H3 b (n + 24 * i + 24) := by
        obtain ⟨u1, u2, u3, z, z2⟩ := b2
        exact ⟨u1, u2, u3, s3 b _ (fun y => by rw [List.mem_singleton.mp y, nD2] at z; cases z) z, z2⟩
      have ews : ys.map V.str ++ (abcs.map eight).map V.str = (ys ++ abcs.map eight).map V.str := by rw [List.map_append]
      rw [ews]
      have hr4 : (upd H3 r (.lst ((ys ++ abcs.map eight).map V.str))) r = some (.lst ((ys ++ abcs.map eight).map V.str)) := upd_same
      have hp4 : (upd H3 r (.lst ((ys ++ abcs.map eight).map V.str))) p = some (.lst (xs.map V.str)) := by rw [upd_ne pr]; exact hp3
      have s4 : Same H3 (upd H3 r (.lst ((ys ++ abcs.map eight).map V.str))) := same_upd nr
      have b4 := br.same s4
      have wall : ∀ x ∈ ys ++ abcs.map eight, wordS x = true := fun x hx => by
        rcases List.mem_append.mp hx with hx | hx
        · exact wy x hx
        · obtain ⟨c, hc, rfl⟩ := List.mem_map.mp hx
          exact eight_word (List.all_eq_true.mp letters_ok c hc)
      have wlen : (ys ++ abcs.map eight).length = 28 := by rw [List.length_append, List.length_map, abcs_nd.2, ly]
      obtain ⟨c0, hc0, hn0⟩ := fresh_word (xs := xs) (by omega)
      have hin : eight c0 ∈ ys ++ abcs.map eight := List.mem_append_right _ (List.mem_map.mpr ⟨c0, hc0, rfl⟩)
      generalize upd H3 r (.lst ((ys ++ abcs.map eight).map V.str)) = H4 at hr4 hp4 s4 b4
      generalize ys ++ abcs.map eight = ws at hr4 wall wlen hin
      refine ⟨_, rfl, .inl ⟨rfl, _, .inl (.inl hp4)⟩, _, rfl, r, rfl, ⟨_, SqL.of hr4⟩, fun D3 nD3 => lc_it (walk_list (xs := ws.map V.str)) (fun j H5 => SameX [D3] H4 H5 ∧ H5 D3 = some (.lst (((ws.take j).filter fun x => !decide (x ∈ xs)).map V.str)))
        ⟨sameX_upd List.mem_cons_self, upd_same⟩ (fun j H5 _ z => ?_) ?_ ?_⟩
      · exact SqL.of (z.1 r _ (fun y => by rw [List.mem_singleton.mp y, nD3] at hr4; cases hr4) hr4)
      · rintro j x H5 H5' hj ⟨s5, hD5⟩ ⟨rfl, hx⟩
        rw [List.getElem?_map] at hx
        obtain ⟨y, hy, rfl⟩ := Option.map_eq_some_iff.mp hx
        have hp5 : H5' p = some (.lst (xs.map V.str)) := s5 p _ (fun y => by rw [List.mem_singleton.mp y, nD3] at hp4; cases hp4) hp4
        refine ⟨rfl, _, rfl, _, rfl, p, _, rfl, .inl (SqL.of hp5), rfl, flat_strs xs, _, rfl, ?_⟩
        rw [in_strs]
        have ef : (ws.take (j + 1)).filter (fun x => !decide (x ∈ xs)) = (ws.take j).filter (fun x => !decide (x ∈ xs)) ++ (if (!decide (y ∈ xs)) = true then [y] else []) := by
          rw [take_snoc hy, List.filter_append, List.filter_cons, List.filter_nil]
        cases hk : (!decide (y ∈ xs)) with
        | true =>
          rw [hk] at ef
          refine iteT ⟨_, rfl, _, hD5, small1000 ?_, s5.trans (sameX_upd List.mem_cons_self), ?_⟩
          · rw [List.length_map]
            have h1 := List.length_filter_le (fun x => !decide (x ∈ xs)) (ws.take j)
            rw [List.length_take] at h1
            omega
          · rw [upd_same, ef, List.map_append]
            rfl
        | false =>
          rw [hk] at ef
          refine iteF ⟨s5, ?_⟩
          rw [hD5, ef]
          exact congrArg _ (congrArg _ (by simp))
      · rintro H5 ⟨s5, hD5⟩
        rw [List.length_map, List.take_length] at hD5
        have hne : eight c0 ∈ ws.filter (fun x => !decide (x ∈ xs)) := List.mem_filter.mpr ⟨hin, by rw [decide_eq_false hn0]; rfl⟩
        obtain ⟨w0, rest, hw⟩ : ∃ w0 rest, ws.filter (fun x => !decide (x ∈ xs)) = w0 :: rest := by
          cases hq : ws.filter (fun x => !decide (x ∈ xs)) with
          | nil => rw [hq] at hne; exact absurd hne List.not_mem_nil
          | cons w0 rest => exact ⟨w0, rest, rfl⟩
        have hw0 : w0 ∈ ws ∧ w0 ∉ xs := by
          have z : w0 ∈ ws.filter (fun x => !decide (x ∈ xs)) := by rw [hw]; exact List.mem_cons_self
          have z2 := List.mem_filter.mp z
          exact ⟨z2.1, fun y => by rw [decide_eq_true y] at z2; exact nomatch z2.2⟩
        rw [hw] at hD5
        have p3 : p ≠ D3 := fun e => by rw [e, nD3] at hp4; cases hp4
        have hp5 : H5 p = some (.lst (xs.map V.str)) := s5 p _ (fun y => p3 (List.mem_singleton.mp y)) hp4
        have b5 : BoxAt H5 b (n + 24 * i + 24) := by
          obtain ⟨u1, u2, u3, z, z2⟩ := b4
          exact ⟨u1, u2, u3, s5 b _ (fun y => by rw [List.mem_singleton.mp y, nD3] at z; cases z) z, z2⟩
        refine .inl ⟨D3, _, 0, .str w0, rfl, rfl, SqL.of hD5, atI_nat (j := 0) rfl, p, _, _, rfl, rfl, hp5, small1000 (by rw [List.length_map]; omega), _, _, xs ++ [w0], rfl, ?_, ?_, ?_, ?_, ?_, ?_⟩
        · refine s1.trans (SameX.trans (fun c o z e => ?_) (sameX_upd List.mem_cons_self))
          have cD : c ≠ D := ne_of_none e nD
          have e2 := s2 c o (fun y => (List.mem_cons.mp y).elim cD fun y => z (List.mem_cons_of_mem _ y)) e
          have e3 := s3 c o (fun y => ne_of_none e2 nD2 (List.mem_singleton.mp y)) e2
          have e4 := s4 c o e3
          exact s5 c o (fun y => ne_of_none e4 nD3 (List.mem_singleton.mp y)) e4
        · obtain ⟨u1, u2, u3, z, z2⟩ := b5
          exact ⟨u1, u2, u3, by rw [upd_ne pb.symm]; exact z, by omega⟩
        · rw [upd_same, List.map_append]
          rfl
        · refine List.nodup_append.mpr ⟨nd, List.nodup_cons.mpr ⟨List.not_mem_nil, List.nodup_nil⟩, fun x hx y hy e => ?_⟩
          rw [List.mem_singleton.mp hy] at e
          exact hw0.2 (by rw [← e]; exact hx)
        · intro x hx
          rcases List.mem_append.mp hx with hx | hx
          · exact wf x hx
          · rw [List.mem_singleton.mp hx]
            exact wall _ hw0.1
        · rw [List.length_append, hl]
          rfl
    · rintro σ H1 ⟨x3, x4, xs, rfl, s1, b1, hp, nd, wf, hl⟩
      exact ⟨_, rfl, q p xs H1 (sameX_old s1 np) np hp nd wf (by omega) (b1.le (by omega))⟩
end
end KV

namespace KV
open PySem PySem.Spec PyProof.Rows L2 RZ
theorem dp_new {K : PySem.W.Frag} {B : List Addr} {H : Hp} {p : Addr} {xs : List V} {ds : List PyData} (lv : Live B H) (n : H p = none) (h : DpAll K (hide B H) xs ds) : Dp K (hide B (upd H p (.tup xs))) (.ref p) (.tuple ds) :=
  .tup (SqT.of (hide_new lv n)) (dps_same (hide_grow lv n) h)
theorem dps_strs {K : PySem.W.Frag} {H : Hp} : ∀ xs : List Str, DpAll K H (xs.map V.str) (xs.map PyData.str)
  | [] => .nil
  | x :: xs => .cons (.str x) (dps_strs xs)
/-- a drawn SETUP -/
def SetupD (l : Nat) (d : PyData) : Prop := ∃ (sp rm : Int) (ps : List Str) (ss : List PyData), d = .tuple [.int sp, .int rm, .tuple (ps.map PyData.str), .tuple ss] ∧ 1 ≤ sp ∧ sp ≤ 6 ∧ 1 ≤ rm ∧ rm ≤ 8 ∧ (∀ p ∈ ps, wordS p = true) ∧ ascS ps = true ∧
  l ≤ ps.length ∧ ps.length ≤ 4 ∧ ss.length ≤ 5 ∧ ∀ e ∈ ss, e = .none ∨ ∃ p ∈ ps, e = .str p
theorem op_catK {X : Cx} {K : PySem.W.Frag} (h : X.K = K) : OpR X (binaryOp .Add) (rCatA K) := by
  subst h
  exact op_catA
def oV : Option Str → V
  | none => .non
  | some x => .str x
def oD : Option Str → PyData
  | none => .none
  | some x => .str x
theorem dps_opts {K : PySem.W.Frag} {H : Hp} : ∀ es : List (Option Str), DpAll K H (es.map oV) (es.map oD)
  | [] => .nil
  | none :: xs => .cons .non (dps_opts xs)
  | some x :: xs => .cons (.str x) (dps_opts xs)
theorem opt_at {ys : List Str} {i : Nat} {x : V} (h : (ys.map V.str ++ [V.non])[i]? = some x) : ∃ e : Option Str, x = oV e ∧ (e = none ∨ ∃ p ∈ ys, e = some p) := by
  have m := List.mem_of_getElem? h
  rcases List.mem_append.mp m with m | m
  · obtain ⟨y, hy, rfl⟩ := List.mem_map.mp m
    exact ⟨some y, rfl, .inr ⟨y, hy, rfl⟩⟩
  · exact ⟨none, List.mem_singleton.mp m, .inl rfl⟩
section
variable {P : Program} {w : World} {K : PySem.W.Frag} {mg : Str → Option Value} {base : Heap}
theorem BoxAt.up {H H' : Hp} {b : Addr} {n : Nat} (h : BoxAt H b n) {B : List Addr} (s : SameX B H H') (nb : b ∉ B) : BoxAt H' b n := by
  obtain ⟨x, y, c, z, z2⟩ := h
  exact ⟨x, y, c, s b _ nb z, z2⟩
theorem BoxAt.live {H : Hp} {b : Addr} {n : Nat} (h : BoxAt H b n) : H b ≠ none := by
  obtain ⟨x, y, c, z, z2⟩ := h
  rw [z]
  exact fun e => nomatch e
/-! ### _law_named_setup -/
def spNamed (K : PySem.W.Frag) : Sp := fun vs H Q _ => ∃ (B : List Addr) (b : Addr) (n l : Nat), vs = [.ref b, .int l] ∧ l ≤ 4 ∧ b ∈ B ∧ Live B H ∧ BoxAt H b n ∧ n + 2000 ≤ 2 ^ 40 ∧
  ∀ (v : V) (d : PyData) (H' : Hp), SetupD l d → SameX [b] H H' → BoxAt H' b (n + 400) → Dp K (hide B H') v d → Q v H'
abbrev nNamed : List Str := ["_law_box_here", "_law_least_so", "_law_pipes_so", "_law_slots_so", "_law_turn"]
theorem scNamed : FnScope nNamed ["_law_box_here", "_law_least_so"] (defScope sNamed) :=
  ⟨rfl, rfl, rfl, by decide +kernel, rfl, by decide +kernel, by decide +kernel⟩
theorem ok_named {f fT fO fN : Addr} {fd fdT fdO fdN : FuncData} {k : Nat} (F : Fun K "_law_named_setup" "_law_named_setup" sNamed f fd)
    (FT : Fun K "_law_take" "_law_take" sTake fT fdT) (bT : Binds K fdT ["_law_box_here", "_law_below"] []) (mT : mg "_law_take" = some (.ref fT)) (GT : FnOk P w K mg base CX0 (k + 4) fT fdT ["_law_box_here", "_law_below"] spTake)
    (FO : Fun K "_law_of" "_law_of" sOf fO fdO) (bO : Binds K fdO ["_law_box_here", "_law_some"] []) (mO : mg "_law_of" = some (.ref fO)) (GO : FnOk P w K mg base CX0 (k + 4) fO fdO ["_law_box_here", "_law_some"] (spOf K))
    (FN : Fun K "_law_names" "_law_names" sNames fN fdN) (bN : Binds K fdN ["_law_box_here", "_law_many_so"] []) (mN : mg "_law_names" = some (.ref fN)) (GN : FnOk P w K mg base CX0 (k + 4) fN fdN ["_law_box_here", "_law_many_so"] (spNames K))
    (mr : mg "range" = none) (mt : mg "tuple" = none) (ms : mg "sorted" = none) : FnOk P w K mg base CX0 (k + 5) f fd ["_law_box_here", "_law_least_so"] (spNamed K) := by
  refine F.ok scNamed (fun vs H Q E h => ?_) (fun cdv A outer s H vs Q E hr h => ?_)
  · obtain ⟨B, b, n, l, rfl, _⟩ := h
    rfl
  · obtain ⟨B, b, n, l, rfl, hl, hb, lv, hB, hn, q⟩ := h
    refine ⟨_, pss_cons (ps_set (i := 2) scNamed.nd rfl (.inr rfl) (pe_callTy call_tuple_of (by rfl) mt PyProof.Rows.boot_tuple (pa_cons (pe_callB cr_sortedS (by rfl) ms boot_sorted (pa_cons
          (pe_call GN hr (by rfl) mN FN.kp bN .nil pass0 (pa_cons (pv 0) (pa_cons (pe_op op_add (pv 1) (pe_call GT hr (by rfl) mT FT.kp bT .nil pass0 (pa_cons (pv 0) (pa_cons (pe_op op_sub pe_int (pv 1)) pa_nil)))) pa_nil))) pa_nil)) pa_nil)))
      (pss_cons (ps_setLc (i := 3) (own := [("_law_turn", 4)]) (g := gName 4) (tt := tYes) rfl scNamed.nd rfl rfl (sw_true rfl rfl rfl (by decide +kernel))
          (pi_range1 (by rfl) mr (pa_cons (pe_call GT hr (by rfl) mT FT.kp bT .nil pass0 (pa_cons (pv 0) (pa_cons pe_int pa_nil))) pa_nil)) (blkOk_by (N := nNamed) (sc := defScope sNamed) (by decide +kernel))
          (fun _ _ _ _ _ => pg_name (i := 4) scNamed.nd rfl (Or.inl rfl)) (fun _ _ _ _ _ => pts_nil) (fun _ _ _ _ _ => pe_call GO hr (by rfl) mO FO.kp bO .nil pass0 (pa_cons (pv 0) (pa_cons (pe_op (op_catK (K := K) rfl) (pv 2) (pe_tup (pa_cons pe_non pa_nil))) pa_nil))))
      (pss_one (ps_ret (pe_tup (pa_cons (pe_op op_add pe_int (pe_call GT hr (by rfl) mT FT.kp bT .nil pass0 (pa_cons (pv 0) (pa_cons pe_int pa_nil)))) (pa_cons (pe_op op_add pe_int (pe_call GT hr (by rfl) mT FT.kp bT .nil pass0 (pa_cons (pv 0) (pa_cons pe_int pa_nil))))
        (pa_cons (pv 2) (pa_cons (pe_callTy call_tuple_of (by rfl) mt PyProof.Rows.boot_tuple (pa_cons (pv 3) pa_nil)) pa_nil)))))))), ?_⟩
    refine ⟨_, rfl, _, rfl, _, rfl, _, rfl, _, _, rfl, rfl, b, n, 5 - l, rfl, by omega, by omega, hB, by omega, fun r H1 r0 r1 s1 b1 => ?_⟩
    obtain ⟨j, rfl⟩ : ∃ j : Nat, r = j := ⟨r.toNat, by omega⟩
    refine ⟨_, _, rfl, rfl, b, n + 1, l + j, congrArg (fun z => [V.ref b, V.int z]) (Int.natCast_add l j).symm, by omega, b1, by omega, fun p xs H2 s2 np hp nd wf hlen b2 => ?_⟩
    refine ⟨p, xs, rfl, SqL.of hp, by omega, fun ys p2 pm hs np2 => ⟨p2, _, rfl, .inl ⟨SqL.of upd_same, fun p3 np3 => ?_⟩⟩⟩
    have lys : ys.length = l + j := by rw [pm.length_eq, hlen]
    have asc : ascS ys = true := pw_ascS _ (strict_of (sorted_pw hs) (pm.nodup_iff.mpr nd))
    have wys : ∀ y ∈ ys, wordS y = true := fun y hy => wf y (pm.mem_iff.mp hy)
    have s3 : SameX [b] H (upd (upd H2 p2 (.lst (ys.map V.str))) p3 (.tup (ys.map V.str))) := s1.trans (s2.trans (SameX.of ((same_upd np2).trans (same_upd np3))))
    have b3 := b2.same ((same_upd (o := .lst (ys.map V.str)) np2).trans (same_upd (o := .tup (ys.map V.str)) np3))
    have hp3 : (upd (upd H2 p2 (.lst (ys.map V.str))) p3 (.tup (ys.map V.str))) p3 = some (.tup (ys.map V.str)) := upd_same
    have lv2 : Live B H2 := (s1.trans s2).live lv fun c hc => by rw [List.mem_singleton.mp hc]; exact b2.live
    have p3B : p3 ∉ B := (lv2.upd (p := p2)).new np3
    generalize upd (upd H2 p2 (.lst (ys.map V.str))) p3 (.tup (ys.map V.str)) = H3 at s3 b3 hp3
    refine ⟨_, rfl, b, _, 6, rfl, by decide, by decide, b3, by omega, fun r2 H4 r20 r21 s4 b4 => ?_⟩
    have p3b : p3 ≠ b := fun e => by
      obtain ⟨_, _, _, z, _⟩ := b3
      rw [e, z] at hp3
      cases hp3
    have hp4 : H4 p3 = some (.tup (ys.map V.str)) := s4 p3 _ (fun z => p3b (List.mem_singleton.mp z)) hp3
    refine ⟨r2, rfl, by omega, by omega, fun D nD => lc_it (walk_range (lo := 0) (n := r2.toNat)) (fun i H5 => SameX [D, b] H4 H5 ∧ BoxAt H5 b (n + 200 + i) ∧ ∃ es : List (Option Str), H5 D = some (.lst (es.map oV)) ∧ es.length = i ∧ ∀ e ∈ es, e = none ∨ ∃ p ∈ ys, e = some p)
      ⟨sameX_upd List.mem_cons_self, ?_, [], upd_same, rfl, fun y hy => absurd hy List.not_mem_nil⟩ (fun _ _ _ _ => trivial) ?_ ?_⟩
    · have bD : b ≠ D := (b4.new nD).symm
      obtain ⟨x, y, c, z, z2⟩ := b4
      exact ⟨x, y, c, by rw [upd_ne bD]; exact z, by omega⟩
    · rintro i x H5 H5' hi ⟨s5, b5, es, hD, le, we⟩ ⟨rfl, rfl⟩
      have Db : D ≠ b := b4.new nD
      have pD : p3 ≠ D := fun e => by rw [e, nD] at hp4; cases hp4
      have hp5 : H5' p3 = some (.tup (ys.map V.str)) := s5 p3 _ (fun z => (List.mem_cons.mp z).elim pD fun z => p3b (List.mem_singleton.mp z)) hp4
      refine ⟨rfl, tYes_ok ⟨_, rfl, _, rfl, by show 1 ≤ sizeLine; decide, fun t nt => ?_⟩⟩
      have hp6 : (upd H5' t (.tup [V.non])) p3 = some (.tup (ys.map V.str)) := same_upd nt _ _ hp5
      have ht6 : (upd H5' t (.tup [V.non])) t = some (.tup [V.non]) := upd_same
      have s6 : Same H5' (upd H5' t (.tup [V.non])) := same_upd nt
      generalize upd H5' t (.tup [V.non]) = H6 at hp6 ht6 s6
      have b6 := b5.same s6
      have fin : ∀ (u : Addr) (H7 : Hp), Same H6 H7 → H7 u = some (.tup (ys.map V.str ++ [V.non])) → spOf K [.ref b, .ref u] H7 (fun y H4_1 => ∃ acc, H4_1 D = some (.lst acc) ∧ acc.length < sizeLine ∧ SameX [D, b] H4 (upd H4_1 D (.lst (acc ++ [y]))) ∧
          BoxAt (upd H4_1 D (.lst (acc ++ [y]))) b (n + 200 + (i + 1)) ∧ ∃ es : List (Option Str), (upd H4_1 D (.lst (acc ++ [y]))) D = some (.lst (es.map oV)) ∧ es.length = i + 1 ∧ ∀ e ∈ es, e = none ∨ ∃ p ∈ ys, e = some p) E0 := by
        intro u H7 s7 hu
        have b7 := b6.same s7
        have ub : u ≠ b := fun e => by
          obtain ⟨_, _, _, z, _⟩ := b7
          rw [e, z] at hu
          cases hu
        refine ⟨b, _, .ref u, rfl, b7, by omega, .inr ⟨[b], u, _, rfl, List.mem_singleton.mpr rfl, .inr (SqT.of (by rw [hide_out (fun z => ub (List.mem_singleton.mp z))]; exact hu)), by rw [List.length_append]; exact Nat.succ_pos _, ?_, fun k x H8 hx s8 b8 => ?_⟩⟩
        · rw [List.length_append, List.length_map, lys]
          show l + j + 1 ≤ 1000
          omega
        · obtain ⟨e, rfl, he⟩ := opt_at hx
          have hD8 : H8 D = some (.lst (es.map oV)) := s8 D _ (fun z => Db (List.mem_singleton.mp z)) (s7 _ _ (s6 _ _ hD))
          refine ⟨_, hD8, small1000 (by rw [List.length_map]; omega), ?_, ?_, es ++ [e], ?_, ?_, ?_⟩
          · exact s5.trans ((SameX.of (s6.trans s7)).trans ((s8.sub fun z hz => List.mem_cons_of_mem _ hz).trans (sameX_upd List.mem_cons_self)))
          · obtain ⟨u1, u2, u3, z, z2⟩ := b8
            exact ⟨u1, u2, u3, by rw [upd_ne Db.symm]; exact z, by omega⟩
          · rw [upd_same, List.map_append]
            rfl
          · rw [List.length_append, le]
            rfl
          · intro y hy
            rcases List.mem_append.mp hy with hy | hy
            · exact we y hy
            · rw [List.mem_singleton.mp hy]
              exact he
      refine ⟨p3, t, _, _, rfl, rfl, SqT.of hp6, SqT.of ht6, ?_, fun e0 => ?_, fun _ e0 => (nomatch e0), fun _ _ u nu => ?_⟩
      · rw [List.length_map, lys]
        show l + j + 1 ≤ sizeLine
        rw [sizeLine_eq]
        omega
      · exact fin t H6 (fun _ _ z => z) (by rw [e0]; exact ht6)
      · exact fin u _ (same_upd nu) upd_same
    · rintro H5 ⟨s5, b5, es, hD, le, we⟩
      have Db : D ≠ b := b4.new nD
      have pD : p3 ≠ D := fun e => by rw [e, nD] at hp4; cases hp4
      have hp5 : H5 p3 = some (.tup (ys.map V.str)) := s5 p3 _ (fun z => (List.mem_cons.mp z).elim pD fun z => p3b (List.mem_singleton.mp z)) hp4
      refine ⟨_, rfl, b, _, 6, rfl, by decide, by decide, b5, by omega, fun r5 H6 r50 r51 s6 b6 => ⟨_, _, rfl, rfl, _, rfl, b, _, 8, rfl, by decide, by decide, b6, by omega, fun r6 H7 r60 r61 s7 b7 => ⟨_, _, rfl, rfl, _, rfl, _, rfl, D, es.map oV, rfl, .inl ⟨SqL.of ?_, fun p5 np5 => ⟨by show 4 ≤ sizeLine; decide, fun p6 np6 => ?_⟩⟩⟩⟩⟩
      · exact s7 D _ (fun z => Db (List.mem_singleton.mp z)) (s6 D _ (fun z => Db (List.mem_singleton.mp z)) hD)
      · have S7 : SameX [b] H H7 := s3.trans (s4.trans ((sameX_old s5 nD).trans (s6.trans s7)))
        have lv7 : Live B H7 := S7.live lv fun c hc => by rw [List.mem_singleton.mp hc]; exact b7.live
        have hp7 : H7 p3 = some (.tup (ys.map V.str)) := s7 p3 _ (fun z => p3b (List.mem_singleton.mp z)) (s6 p3 _ (fun z => p3b (List.mem_singleton.mp z)) hp5)
        have d3 : Dp K (hide B H7) (.ref p3) (.tuple (ys.map PyData.str)) := .tup (SqT.of (by rw [hide_out p3B]; exact hp7)) (dps_strs ys)
        have d5 := dp_new (K := K) lv7 np5 (dps_opts es)
        have d6 := dp_new (K := K) (lv7.upd (p := p5) (o := .tup (es.map oV))) np6 (.cons (.int (1 + r5)) (.cons (.int (1 + r6)) (.cons (dp_same (hide_grow lv7 np5) d3) (.cons d5 .nil))))
        refine q _ _ _ ⟨1 + r5, 1 + r6, ys, es.map oD, rfl, by omega, by omega, by omega, by omega, wys, asc, by omega, by omega, by rw [List.length_map]; omega, fun e he => ?_⟩ (S7.trans (SameX.of ((same_upd np5).trans (same_upd np6)))) ((b7.same ((same_upd np5).trans (same_upd np6))).le (by omega)) d6
        obtain ⟨o, ho, rfl⟩ := List.mem_map.mp he
        rcases we o ho with rfl | ⟨y, hy, rfl⟩
        · exact .inl rfl
        · exact .inr ⟨y, hy, rfl⟩
end
end KV

namespace KV
open PySem PySem.Spec PyProof.Rows L2 RZ
/-! ### data of small leaves, short sequences, little depth -/
mutual
def gD (lf : PyData → Bool) (L : Nat) : PyData → Nat → Bool
  | .list xs, n => decide (0 < n) && decide (xs.length ≤ L) && gDs lf L xs (n - 1)
  | .tuple xs, n => decide (0 < n) && decide (xs.length ≤ L) && gDs lf L xs (n - 1)
  | .none, _ => true
  | .bool _, _ => true
  | .int i, _ => lf (.int i)
  | .str x, _ => lf (.str x)
  | .dict _, _ => false
def gDs (lf : PyData → Bool) (L : Nat) : List PyData → Nat → Bool
  | [], _ => true
  | d :: ds, n => gD lf L d n && gDs lf L ds n
end
theorem gDs_all (lf : PyData → Bool) (L : Nat) : ∀ ds n, gDs lf L ds n = ds.all fun d => gD lf L d n
  | [], _ => by simp [gDs]
  | d :: ds, n => by simp [gDs, gDs_all lf L ds n]
theorem gD_seq {lf : PyData → Bool} {L : Nat} {xs : List PyData} {n : Nat} {d : PyData} (hd : d = .list xs ∨ d = .tuple xs) (h : gD lf L d n = true) : ∃ m, n = m + 1 ∧ xs.length ≤ L ∧ gDs lf L xs m = true := by
  have h' : (decide (0 < n) && decide (xs.length ≤ L) && gDs lf L xs (n - 1)) = true := by
    rcases hd with rfl | rfl <;> simpa only [gD] using h
  simp only [Bool.and_eq_true, decide_eq_true_eq] at h'
  obtain ⟨⟨h1, h2⟩, h3⟩ := h'
  exact ⟨n - 1, by omega, h2, h3⟩
theorem gD_mk {lf : PyData → Bool} {L : Nat} {xs : List PyData} {m : Nat} (h1 : xs.length ≤ L) (h2 : gDs lf L xs m = true) : gD lf L (.list xs) (m + 1) = true ∧ gD lf L (.tuple xs) (m + 1) = true := by
  have h : (decide (0 < m + 1) && decide (xs.length ≤ L) && gDs lf L xs (m + 1 - 1)) = true := by
    rw [decide_eq_true (Nat.succ_pos m), decide_eq_true h1, Nat.add_sub_cancel, h2]
    rfl
  exact ⟨by simpa only [gD] using h, by simpa only [gD] using h⟩
mutual
theorem gD_mono {lf lg : PyData → Bool} {L M : Nat} (hl : ∀ d, lf d = true → lg d = true) (hL : L ≤ M) : ∀ (d : PyData) (n m : Nat), n ≤ m → gD lf L d n = true → gD lg M d m = true
  | .list xs, n, m, hn, h => by
    obtain ⟨k, rfl, h1, h2⟩ := gD_seq (.inl rfl) h
    obtain ⟨j, rfl⟩ : ∃ j, m = j + 1 := ⟨m - 1, by omega⟩
    exact (gD_mk (Nat.le_trans h1 hL) (gDs_mono hl hL xs k j (by omega) h2)).1
  | .tuple xs, n, m, hn, h => by
    obtain ⟨k, rfl, h1, h2⟩ := gD_seq (.inr rfl) h
    obtain ⟨j, rfl⟩ : ∃ j, m = j + 1 := ⟨m - 1, by omega⟩
    exact (gD_mk (Nat.le_trans h1 hL) (gDs_mono hl hL xs k j (by omega) h2)).2
  | .none, _, _, _, _ => by simp only [gD]
  | .bool _, _, _, _, _ => by simp only [gD]
  | .int i, _, _, _, h => by
    simp only [gD] at h ⊢
    exact hl _ h
  | .str i, _, _, _, h => by
    simp only [gD] at h ⊢
    exact hl _ h
  | .dict _, _, _, _, h => by simp only [gD] at h; cases h
theorem gDs_mono {lf lg : PyData → Bool} {L M : Nat} (hl : ∀ d, lf d = true → lg d = true) (hL : L ≤ M) : ∀ (ds : List PyData) (n m : Nat), n ≤ m → gDs lf L ds n = true → gDs lg M ds m = true
  | [], _, _, _, _ => by simp only [gDs]
  | d :: ds, n, m, hn, h => by
    simp only [gDs, Bool.and_eq_true] at h ⊢
    exact ⟨gD_mono hl hL d n m hn h.1, gDs_mono hl hL ds n m hn h.2⟩
end
mutual
theorem gD_ok {lf : PyData → Bool} {L : Nat} (hL : L ≤ 1000) : ∀ (d : PyData) (n : Nat), gD lf L d n = true → okD d n = true
  | .list xs, n, h => by
    obtain ⟨k, rfl, h1, h2⟩ := gD_seq (.inl rfl) h
    exact (ok_mk (Nat.le_trans h1 hL) (gDs_ok hL xs k h2)).1
  | .tuple xs, n, h => by
    obtain ⟨k, rfl, h1, h2⟩ := gD_seq (.inr rfl) h
    exact (ok_mk (Nat.le_trans h1 hL) (gDs_ok hL xs k h2)).2
  | .none, _, _ => by simp only [okD]
  | .bool _, _, _ => by simp only [okD]
  | .int i, _, h => by simp only [okD]
  | .str i, _, h => by simp only [okD]
  | .dict _, _, h => by simp only [gD] at h; cases h
theorem gDs_ok {lf : PyData → Bool} {L : Nat} (hL : L ≤ 1000) : ∀ (ds : List PyData) (n : Nat), gDs lf L ds n = true → okDs ds n = true
  | [], _, _ => by simp only [okDs]
  | d :: ds, n, h => by
    simp only [gDs, Bool.and_eq_true] at h
    simp only [okDs, Bool.and_eq_true]
    exact ⟨gD_ok hL d n h.1, gDs_ok hL ds n h.2⟩
end
/-- leaves before, and behind a bend -/
def lf1 : PyData → Bool
  | .int i => decide (i.natAbs ≤ 10 ^ 29)
  | .str x => decide (x.length ≤ 15) && x.cps.toList.all fun c => decide (c < 128)
  | _ => false
def lf2 : PyData → Bool
  | .int i => decide (i.natAbs < 10 ^ 31)
  | .str x => decide (x.length ≤ 60) && x.cps.toList.all fun c => decide (c < 1114112)
  | _ => false
theorem lf12 : ∀ d, lf1 d = true → lf2 d = true
  | .int i, h => by
    have h1 : i.natAbs ≤ 10 ^ 29 := of_decide_eq_true h
    show decide (i.natAbs < 10 ^ 31) = true
    rw [decide_eq_true_eq]
    omega
  | .str x, h => by
    have h1 : (decide (x.length ≤ 15) && x.cps.toList.all fun c => decide (c < 128)) = true := h
    show (decide (x.length ≤ 60) && x.cps.toList.all fun c => decide (c < 1114112)) = true
    rw [Bool.and_eq_true, decide_eq_true_eq, List.all_eq_true] at h1 ⊢
    refine ⟨by omega, fun c hc => ?_⟩
    have h2 := h1.2 c hc
    rw [decide_eq_true_eq] at h2 ⊢
    omega
theorem ofs_len (s : String) : (Str.ofString s).length = s.length := by
  show (Str.ofString s).cps.size = s.length
  rw [Str.ofString_eq_toList]
  simp only [List.size_toArray, List.length_map]
  first
    | exact String.length_toList
    | exact s.length_toList
    | rfl
mutual
theorem gD_dep {lf : PyData → Bool} {L : Nat} : ∀ (d : PyData) (n : Nat), gD lf L d n = true → d.depth ≤ n
  | .list xs, n, h => by
    obtain ⟨m, rfl, _, h2⟩ := gD_seq (.inl rfl) h
    have := gDs_dep xs m h2
    simp only [PyData.depth]
    omega
  | .tuple xs, n, h => by
    obtain ⟨m, rfl, _, h2⟩ := gD_seq (.inr rfl) h
    have := gDs_dep xs m h2
    simp only [PyData.depth]
    omega
  | .none, n, _ => by simp [PyData.depth]
  | .bool _, n, _ => by simp [PyData.depth]
  | .int _, n, _ => by simp [PyData.depth]
  | .str _, n, _ => by simp [PyData.depth]
  | .dict _, n, h => by simp [gD] at h
theorem gDs_dep {lf : PyData → Bool} {L : Nat} : ∀ (ds : List PyData) (n : Nat), gDs lf L ds n = true → PyData.depthAll ds ≤ n
  | [], n, _ => by simp [PyData.depthAll]
  | d :: ds, n, h => by
    simp only [gDs, Bool.and_eq_true] at h
    have h1 := gD_dep d n h.1
    have h2 := gDs_dep ds n h.2
    simp only [PyData.depthAll]
    omega
end
mutual
theorem gD_facts {L : Nat} : ∀ (d : PyData) (n : Nat), gD lf2 L d n = true → d.showable = true ∧ d.hasDict = false ∧ d.leavesShort 130 = true
  | .list xs, n, h => by
    obtain ⟨m, rfl, _, h2⟩ := gD_seq (.inl rfl) h
    have := gDs_facts xs m h2
    simpa only [PyData.showable, PyData.hasDict, PyData.leavesShort] using this
  | .tuple xs, n, h => by
    obtain ⟨m, rfl, _, h2⟩ := gD_seq (.inr rfl) h
    have := gDs_facts xs m h2
    simpa only [PyData.showable, PyData.hasDict, PyData.leavesShort] using this
  | .none, n, _ => ⟨rfl, rfl, rfl⟩
  | .bool _, n, _ => ⟨rfl, rfl, rfl⟩
  | .int i, n, h => by
    have h1 : i.natAbs < 10 ^ 31 := of_decide_eq_true (show decide (i.natAbs < 10 ^ 31) = true by simp only [gD] at h; exact h)
    refine ⟨?_, rfl, ?_⟩
    · show decide (i.natAbs.log2 < 1920) = true
      rw [decide_eq_true_eq]
      by_cases z : i.natAbs = 0
      · rw [z]; decide
      · exact (Nat.log2_lt z).mpr (Nat.lt_trans h1 (by decide +kernel))
    · show decide ((PyData.shown (.int i)).length ≤ 130) = true
      rw [decide_eq_true_eq]
      have e := int_text_length_le10 (k := 31) (by decide) h1
      show (Str.ofString (toString i)).length ≤ 130
      rw [ofs_len]
      omega
  | .str x, n, h => by
    refine ⟨rfl, rfl, ?_⟩
    have h1 : (decide (x.length ≤ 60) && x.cps.toList.all fun c => decide (c < 1114112)) = true := by simp only [gD] at h; exact h
    rw [Bool.and_eq_true] at h1
    show (x.cps.toList.all fun c => decide (c < 16 ^ 8)) = true
    have h2 := h1.2
    rw [List.all_eq_true] at h2 ⊢
    intro c hc
    have h3 := of_decide_eq_true (h2 c hc)
    exact decide_eq_true (by omega)
  | .dict _, n, h => by simp [gD] at h
theorem gDs_facts {L : Nat} : ∀ (ds : List PyData) (n : Nat), gDs lf2 L ds n = true → PyData.showableAll ds = true ∧ PyData.hasDictAll ds = false ∧ PyData.leavesShortAll 130 ds = true
  | [], n, _ => ⟨rfl, rfl, rfl⟩
  | d :: ds, n, h => by
    simp only [gDs, Bool.and_eq_true] at h
    obtain ⟨a1, a2, a3⟩ := gD_facts d n h.1
    obtain ⟨b1, b2, b3⟩ := gDs_facts ds n h.2
    simp only [PyData.showableAll, PyData.hasDictAll, PyData.leavesShortAll, a1, a2, a3, b1, b2, b3, Bool.and_self, Bool.or_self, and_self]
end
def bulkN (L : Nat) : Nat → Nat
  | 0 => 60
  | n + 1 => 60 + L * (bulkN L n + 1)
mutual
theorem gD_bulk {L : Nat} : ∀ (d : PyData) (n : Nat), gD lf2 L d n = true → d.bulk ≤ bulkN L n
  | .list xs, n, h => by
    obtain ⟨m, rfl, h1, h2⟩ := gD_seq (.inl rfl) h
    have h3 := gDs_bulk xs m h2
    have h4 := Nat.mul_le_mul_right (bulkN L m + 1) h1
    simp only [PyData.bulk, bulkN]
    omega
  | .tuple xs, n, h => by
    obtain ⟨m, rfl, h1, h2⟩ := gD_seq (.inr rfl) h
    have h3 := gDs_bulk xs m h2
    have h4 := Nat.mul_le_mul_right (bulkN L m + 1) h1
    simp only [PyData.bulk, bulkN]
    omega
  | .none, n, _ => Nat.zero_le _
  | .bool _, n, _ => Nat.zero_le _
  | .int _, n, _ => Nat.zero_le _
  | .str x, n, h => by
    have h1 : (decide (x.length ≤ 60) && x.cps.toList.all fun c => decide (c < 1114112)) = true := by simp only [gD] at h; exact h
    rw [Bool.and_eq_true, decide_eq_true_eq] at h1
    have h2 : x.cps.size ≤ 60 := h1.1
    simp only [PyData.bulk]
    cases n <;> simp only [bulkN] <;> omega
  | .dict _, n, h => by simp [gD] at h
theorem gDs_bulk {L : Nat} : ∀ (ds : List PyData) (n : Nat), gDs lf2 L ds n = true → PyData.bulkAll ds ≤ ds.length * (bulkN L n + 1)
  | [], n, _ => Nat.zero_le _
  | d :: ds, n, h => by
    simp only [gDs, Bool.and_eq_true] at h
    have h1 := gD_bulk d n h.1
    have h2 := gDs_bulk ds n h.2
    simp only [PyData.bulkAll, List.length_cons, Nat.succ_mul]
    omega
end
theorem gD_size {L n : Nat} {d : PyData} (h : gD lf2 L d n = true) (hb : 132 * bulkN L n + 130 ≤ 16777216) : d.shown.length ≤ sizeLine := by
  have h1 := PyData.shown_le_bulk 130 (by decide) d (gD_facts d n h).2.2
  have h2 := Nat.mul_le_mul_left 132 (gD_bulk d n h)
  rw [sizeLine_eq]
  omega
theorem cps_small (s : String) : (Str.ofString s).cps.toList.all (fun c => decide (c < 1114112)) = true := by
  rw [List.all_eq_true]
  intro c hc
  rw [decide_eq_true_eq]
  rw [Str.ofString_eq_toList] at hc
  have hc2 : c ∈ s.toList.map Char.toNat := by simpa using hc
  obtain ⟨z, _, rfl⟩ := List.mem_map.mp hc2
  have h1 := z.valid
  rcases h1 with h1 | h1
  · have h2 : z.toNat < 0xd800 := h1
    omega
  · exact h1.2
end KV

namespace KV
open PySem PySem.Spec PyProof.Rows L2 RZ Builtin
theorem upper_table : ((List.range 128).all fun c => (Unicode.upperOf c).all fun d => decide (d < 1114112)) = true := by decide +kernel
theorem upper_small {x : Str} (h : (x.cps.toList.all fun c => decide (c < 128)) = true) : ((Txt.upper x).cps.toList.all fun c => decide (c < 1114112)) = true := by
  rw [List.all_eq_true] at h ⊢
  intro c hc
  have hc2 : c ∈ (x.cps.mapIdx fun i c => (Unicode.upperOf c).toArray).flatten := by
    have z : c ∈ (Txt.upper x).cps := Array.mem_toList_iff.mp hc
    exact z
  rw [Array.mem_flatten] at hc2
  obtain ⟨l, hl, hcl⟩ := hc2
  rw [Array.mem_mapIdx] at hl
  obtain ⟨i, hi, rfl⟩ := hl
  have h1 := h _ (Array.mem_toList_iff.mpr (Array.getElem_mem hi))
  rw [decide_eq_true_eq] at h1
  have h2 := List.all_eq_true.mp upper_table _ (List.mem_range.mpr h1)
  exact List.all_eq_true.mp h2 c (by simpa using hcl)
theorem str_good {L n : Nat} {x : Str} (h1 : x.length ≤ 60) (h2 : (x.cps.toList.all fun c => decide (c < 1114112)) = true) : gD lf2 L (.str x) n = true := by
  simp only [gD]
  show (decide (x.length ≤ 60) && x.cps.toList.all fun c => decide (c < 1114112)) = true
  rw [decide_eq_true h1, h2]
  rfl
theorem int_good {L n : Nat} {i : Int} (h : i.natAbs < 10 ^ 31) : gD lf2 L (.int i) n = true := by
  simp only [gD]
  exact decide_eq_true h
theorem all_up {l : List Nat} (h : (l.all fun c => decide (c < 128)) = true) : (l.all fun c => decide (c < 1114112)) = true := by
  rw [List.all_eq_true] at h ⊢
  intro c hc
  have := h c hc
  rw [decide_eq_true_eq] at this ⊢
  omega
theorem bent_add {L n : Nat} {x : Str} (h1 : x.length ≤ 15) (h2 : (x.cps.toList.all fun c => decide (c < 128)) = true) : gD lf2 L (.str (x ++ Str.ofString "x")) n = true := by
  have e : (x ++ Str.ofString "x").cps.toList = x.cps.toList ++ [120] := by
    show (x.cps ++ (Str.ofString "x").cps).toList = _
    rw [Array.toList_append]
    rfl
  refine str_good ?_ ?_
  · rw [← sgn_len, e, List.length_append, sgn_len]
    show x.length + 1 ≤ 60
    omega
  · rw [e, List.all_append, all_up h2]
    rfl
theorem bent_cut {L n : Nat} {x : Str} (lo hi : Option Int) (h1 : x.length ≤ 15) (h2 : (x.cps.toList.all fun c => decide (c < 128)) = true) : gD lf2 L (.str (cutS x lo hi)) n = true := by
  have e : (cutS x lo hi).cps.toList = (x.cps.toList.drop (HT.sIx x.length 0 lo)).take (HT.sIx x.length x.length hi - HT.sIx x.length 0 lo) := rfl
  refine str_good ?_ ?_
  · rw [← sgn_len, e, List.length_take, List.length_drop, sgn_len]
    omega
  · rw [e]
    refine all_up ?_
    rw [List.all_eq_true] at h2 ⊢
    exact fun c hc => h2 c (List.mem_of_mem_drop (List.mem_of_mem_take hc))
theorem bent_up {L n : Nat} {x : Str} (h1 : x.length ≤ 15) (h2 : (x.cps.toList.all fun c => decide (c < 128)) = true) : gD lf2 L (.str (Txt.upper x)) n = true := by
  have := len_upper x
  exact str_good (by omega) (upper_small h2)
theorem bent_int {L n : Nat} {i : Int} (h : i.natAbs < 10 ^ 30) : gD lf2 L (.str (Str.ofString (toString i))) n = true := by
  have := int_text_length_le10 (k := 30) (by decide) h
  exact str_good (by rw [ofs_len]; omega) (cps_small _)
end KV

namespace KV
open PySem PySem.Spec PyProof.Rows L2 RZ
abbrev sBent : Stmt := topS 43
theorem kit_tl {K : PySem.W.Frag} {a : String} {r1 r2 : Bool} (h1 : kitB a "tuple" = some r1) (h2 : kitB a "list" = some r2) : PySem.W.kitAny K (.type a) [.type "tuple", .type "list"] = some (r1 || r2) := by
  cases r1 with
  | true => exact kitAny_cons (kit_ty h1) (fun z => nomatch z) fun _ => rfl
  | false =>
    cases r2 with
    | true => exact kitAny_cons (kit_ty h1) (fun _ => kitAny_cons (kit_ty h2) (fun z => nomatch z) fun _ => rfl) fun z => nomatch z
    | false => exact kitAny_cons (kit_ty h1) (fun _ => kitAny_cons (kit_ty h2) (fun _ => kitAny_nil) fun z => nomatch z) fun z => nomatch z
theorem kit_seq2 {K : PySem.W.Frag} : ∀ (d : PyData), PySem.W.kitAny K (.type (tyD d)) [.type "tuple", .type "list"] = some (isSeq d)
  | .none => kit_tl (a := "NoneType") (r1 := false) (r2 := false) (by decide +kernel) (by decide +kernel)
  | .bool _ => kit_tl (a := "bool") (r1 := false) (r2 := false) (by decide +kernel) (by decide +kernel)
  | .int _ => kit_tl (a := "int") (r1 := false) (r2 := false) (by decide +kernel) (by decide +kernel)
  | .str _ => kit_tl (a := "str") (r1 := false) (r2 := false) (by decide +kernel) (by decide +kernel)
  | .list _ => kit_tl (a := "list") (r1 := false) (r2 := true) (by decide +kernel) (by decide +kernel)
  | .tuple _ => kit_tl (a := "tuple") (r1 := true) (r2 := false) (by decide +kernel) (by decide +kernel)
  | .dict _ => kit_tl (a := "dict") (r1 := false) (r2 := false) (by decide +kernel) (by decide +kernel)
/-- isinstance(x, (tuple, list)) of data -/
def rIsSeq2 (K : PySem.W.Frag) : List V → Hp → VK → Prop := fun vs H Q => ∃ v tp d, vs = [v, .ref tp] ∧ H tp = some (.tup [.ty "tuple", .ty "list"]) ∧ Dp K H v d ∧ Q (.bl (isSeq d)) H
theorem cr_isSeq2 {X : Cx} : CallR X (.builtin "isinstance") (rIsSeq2 X.K) := by
  intro pins s σ H vs us Q I r h
  obtain ⟨v, tp, d, rfl, ht, hd, q⟩ := h
  exact call_isiT pins s σ H _ us Q I r ⟨v, tp, _, _, _, _, rfl, ht, .cons (.ty _) (.cons (.ty _) .nil), dp_ty hd, kit_seq2 d, q⟩
theorem none_okk {P : Program} {w : World} {K : PySem.W.Frag} {mg : Str → Option Value} {base : Heap} {k : Nat} {f : Addr} {fd : FuncData} {ps : List Str} {sp : Sp} (no : ∀ vs H Q E, ¬ sp vs H Q E) : FnOk P w K mg base CX0 k f fd ps sp :=
  ⟨fun vs H Q E h => absurd h (no vs H Q E), fun A outer s H args us vs Q E _ _ _ _ h => absurd h (no vs H Q E)⟩
theorem dps_erase {K : PySem.W.Frag} {H : Hp} : ∀ {vs : List V} {ds : List PyData} (i : Nat), DpAll K H vs ds → DpAll K H (vs.eraseIdx i) (ds.eraseIdx i)
  | _, _, 0, .nil => .nil
  | _, _, i + 1, .nil => .nil
  | _, _, 0, .cons _ h => h
  | _, _, i + 1, .cons h1 h => .cons h1 (dps_erase i h)
theorem dps_set {K : PySem.W.Frag} {H : Hp} {v : V} {d : PyData} (hv : Dp K H v d) : ∀ {vs : List V} {ds : List PyData} (i : Nat), DpAll K H vs ds → DpAll K H (vs.set i v) (ds.set i d)
  | _, _, 0, .nil => .nil
  | _, _, i + 1, .nil => .nil
  | _, _, 0, .cons _ h => .cons hv h
  | _, _, i + 1, .cons h1 h => .cons h1 (dps_set hv i h)
theorem gDs_of {lf : PyData → Bool} {L n : Nat} {ds : List PyData} (h : ∀ e ∈ ds, gD lf L e n = true) : gDs lf L ds n = true := by
  rw [gDs_all, List.all_eq_true]
  exact h
theorem okGet {lf : PyData → Bool} {L n : Nat} {ds : List PyData} {e : PyData} (h : gDs lf L ds n = true) (k : e ∈ ds) : gD lf L e n = true := by
  rw [gDs_all, List.all_eq_true] at h
  exact h e k
def rTupOf (K : PySem.W.Frag) : List V → Hp → VK → Prop := fun xs H Q => ∃ p ys, xs = [V.ref p] ∧ ((SqL K H p ys ∧ ∀ l : Addr, H l = none → Q (V.ref l) (upd H l (HO.tup ys))) ∨ (SqT K H p ys ∧ Q (V.ref p) H))
theorem dp_newL {K : PySem.W.Frag} {B : List Addr} {H : Hp} {p : Addr} {xs : List V} {ds : List PyData} (lv : Live B H) (n : H p = none) (h : DpAll K (hide B H) xs ds) : Dp K (hide B (upd H p (.lst xs))) (.ref p) (.list ds) :=
  .lst (SqL.of (hide_new lv n)) (dps_same (hide_grow lv n) h)
section
variable {P : Program} {w : World} {K : PySem.W.Frag} {mg : Str → Option Value} {base : Heap}
/-! ### _law_bent -/
def spBent (K : PySem.W.Frag) (N : Nat) : Sp := fun vs H Q _ => ∃ (n : Nat) (B : List Addr) (b : Addr) (m L : Nat) (v : V) (d : PyData), N = n + 1 ∧ vs = [.ref b, v] ∧ b ∈ B ∧ Live B H ∧ BoxAt H b m ∧ m + 10 * (n + 1) ≤ 2 ^ 40 ∧ L ≤ 100 ∧ Dp K (hide B H) v d ∧ gD lf1 L d n = true ∧
  ∀ (v' : V) (d' : PyData) (H' : Hp), gD lf2 (L + 1) d' (n + 1) = true → SameX [b] H H' → BoxAt H' b (m + 10 * (n + 1)) → Dp K (hide B H') v' d' → Q v' H'
abbrev nBent : List Str := ["_law_box_here", "_law_bit", "_law_way", "_law_at", "_law_some", "_law_odd"]
theorem scBent : FnScope nBent ["_law_box_here", "_law_bit"] (defScope sBent) :=
  ⟨rfl, rfl, rfl, by decide +kernel, rfl, by decide +kernel, by decide +kernel⟩
theorem ok_bent {f fT fO : Addr} {fd fdT fdO : FuncData} (F : Fun K "_law_bent" "_law_bent" sBent f fd) (bF : Binds K fd ["_law_box_here", "_law_bit"] []) (mF : mg "_law_bent" = some (.ref f))
    (FT : Fun K "_law_take" "_law_take" sTake fT fdT) (bT : Binds K fdT ["_law_box_here", "_law_below"] []) (mT : mg "_law_take" = some (.ref fT))
    (FO : Fun K "_law_of" "_law_of" sOf fO fdO) (bO : Binds K fdO ["_law_box_here", "_law_some"] []) (mO : mg "_law_of" = some (.ref fO))
    (mn : mg "int" = none) (me : mg "len" = none) (mi : mg "isinstance" = none) (ml : mg "list" = none) (mt : mg "tuple" = none) (mb : mg "bool" = none) (ms : mg "str" = none) :
    ∀ N : Nat, FnOk P w K mg base CX0 (N + 2) f fd ["_law_box_here", "_law_bit"] (spBent K N) := by
  intro N
  induction N with
  | zero =>
    refine none_okk fun vs H Q E h => ?_
    obtain ⟨n, _, _, _, _, _, _, h, _⟩ := h
    omega
  | succ N ih =>
    have GT : FnOk P w K mg base CX0 (N + 2) fT fdT ["_law_box_here", "_law_below"] spTake := ok_take FT mn
    have GO : FnOk P w K mg base CX0 (N + 2) fO fdO ["_law_box_here", "_law_some"] (spOf K) := ok_of FO FT bT mT mn me
    refine F.ok scBent (fun vs H Q E h => ?_) (fun cdv A outer s H vs Q E hr h => ?_)
    · obtain ⟨n, B, b, m, L, v, d, _, rfl, _⟩ := h
      rfl
    · obtain ⟨n, B, b, m, L, v, d, eN, rfl, hb, lv, hB, hm, hL, hd, hg, q⟩ := h
      have eN2 : N = n := by omega
      subst eN2
      have memb : ∀ c ∈ [b], c ∈ B := fun c hc => by rw [List.mem_singleton.mp hc]; exact hb
      have fin : ∀ (a : Addr) (H8 : Hp), SameX [b] H H8 → BoxAt H8 b (m + 1) → (∃ xs ds, H8 a = some (.lst xs) ∧ DpAll K (hide B H8) xs ds ∧ (∀ e ∈ ds, gD lf2 (L + 1) e (N + 1) = true) ∧ 0 < xs.length ∧ xs.length ≤ 50 ∧ a ∉ B) → spOf K [.ref b, .ref a] H8 Q E0 := by
        rintro a H8 s8 b8 ⟨xs, ds, ha, hx, hg8, h0, h50, aB⟩
        refine ⟨b, m + 1, .ref a, rfl, b8, by omega, .inr ⟨B, a, xs, rfl, hb, .inl (SqL.of (by rw [hide_out aB]; exact ha)), h0, by omega, fun i x H9 hi s9 b9 => ?_⟩⟩
        obtain ⟨e, he, hxe⟩ := dps_get hx hi
        exact q x e H9 (hg8 e (List.mem_of_getElem? he)) (s8.trans s9) (b9.le (by omega)) (dp_same (s9.hide memb) hxe)
      have rest : ∃ u, PSs (cxOf CX0 P w K mg base nBent "_law_bent" (defScope sBent) f cdv A outer s H E).nox ((defBody sBent).drop 3) u ∧ ∀ (x2 x3 x4 x5 : Option V) (H3 : Hp), SameX [b] H H3 → BoxAt H3 b (m + 1) → u { nx := fun _ H' => Q .non H', rt := Q } [some (.ref b), some v, x2, x3, x4, x5] H3 := by
        refine ⟨_, pss_cons (ps_set (i := 5) scBent.nd rfl (.inl rfl) (pe_lst (pa_cons pe_non (pa_cons pe_bl (pa_cons pe_bl (pa_cons (pe_un un_neg pe_int) (pa_cons pe_int (pa_cons pe_int (pa_cons pe_int (pa_cons pe_str (pa_cons pe_str (pa_cons pe_str (pa_cons pe_str (pa_cons pe_str (pa_cons pe_str
              (pa_cons (pe_tup pa_nil) (pa_cons (pe_lst pa_nil) (pa_cons (pe_tup (pa_cons pe_int pa_nil)) (pa_cons (pe_tup (pa_cons pe_str pa_nil)) (pa_cons pe_str pa_nil))))))))))))))))))))
          (pss_cons (ps_set (i := 5) scBent.nd rfl (.inl rfl) (pe_op op_cat (pv 5) (pe_lst (pa_cons pe_str pa_nil))))
          (pss_cons (ps_if (PW.pt (pw_and (pt_val (pe_callB (cr_isOne "int") (by rfl) mi boot_isinstance (pa_cons (pv 1) (pa_cons (pe_bltn (v := .ty "int") (by rfl) mn (by decide +kernel) rfl) pa_nil))))
              (pw_and1 (pt_not (pt_val (pe_callB (cr_isOne "bool") (by rfl) mi boot_isinstance (pa_cons (pv 1) (pa_cons (pe_bltn (v := .ty "bool") (by rfl) mb (by decide +kernel) rfl) pa_nil))))))))
            (pss_one (ps_set (i := 5) scBent.nd rfl (.inl rfl) (pe_op op_cat (pv 5) (pe_lst (pa_cons (pe_op op_add (pv 1) pe_int) (pa_cons (pe_op op_sub (pv 1) pe_int) (pa_cons (pe_op op_add (pv 1) pe_int) (pa_cons (pe_callTy call_str_int (by rfl) ms PyProof.Rows.boot_str (pa_cons (pv 1) pa_nil)) (pa_cons pe_int (pa_cons (pe_op op_pow pe_int pe_int) pa_nil)))))))))) pss_nil)
          (pss_cons (ps_if (pt_val (pe_callB (cr_isOne "str") (by rfl) mi boot_isinstance (pa_cons (pv 1) (pa_cons (pe_bltn (v := .ty "str") (by rfl) ms (by decide +kernel) rfl) pa_nil))))
            (pss_one (ps_set (i := 5) scBent.nd rfl (.inl rfl) (pe_op op_cat (pv 5) (pe_lst (pa_cons (pe_op op_add_str (pv 1) pe_str) (pa_cons (pe_slice sl_str (pv 1) po_none (po_some (pe_un un_neg pe_int))) (pa_cons (pe_upper (pv 1)) (pa_cons (pe_op op_add_str (pv 1) pe_str) pa_nil)))))))) pss_nil)
          (pss_one (ps_ret (pe_call GO hr (by rfl) mO FO.kp bO .nil pass0 (pa_cons (pv 0) (pa_cons (pv 5) pa_nil)))))))), fun x2 x3 x4 x5 H3 s3 b3 => ?_⟩
        have lv3 : Live B H3 := s3.live lv fun c hc => by rw [List.mem_singleton.mp hc]; exact b3.live
        have d3 : Dp K (hide B H3) v d := dp_same (s3.hide memb) hd
        refine ⟨_, rfl, by show 0 ≤ sizeLine; decide, fun p1 n1 => ⟨by show 0 ≤ sizeLine; decide, fun p2 n2 => ⟨by show 1 ≤ sizeLine; decide, fun p3 n3 => ⟨by show 1 ≤ sizeLine; decide, fun p4 n4 => ⟨by show 18 ≤ sizeLine; decide, fun p5 n5 => ?_⟩⟩⟩⟩⟩
        have k1 := dp_new (K := K) (xs := []) (ds := []) lv3 n1 .nil
        have u1 : Same H3 (upd H3 p1 (.tup [])) := same_upd n1
        have k2 := dp_newL (K := K) (xs := []) (ds := []) (lv3.same u1) n2 .nil
        have u2 := same_upd (o := HO.lst []) n2
        have k3 := dp_new (K := K) ((lv3.same u1).same u2) n3 (.cons (.int 0) .nil)
        have u3 := same_upd (o := HO.tup [.int 0]) n3
        have k4 := dp_new (K := K) (((lv3.same u1).same u2).same u3) n4 (.cons (.str "nop") .nil)
        have u4 := same_upd (o := HO.tup [.str "nop"]) n4
        have u14 := ((u1.trans u2).trans u3).trans u4
        have lv4 := lv3.same u14
        replace k1 := dp_same (hide_of_same (B := B) ((u2.trans u3).trans u4)) k1
        replace k2 := dp_same (hide_of_same (B := B) (u3.trans u4)) k2
        replace k3 := dp_same (hide_of_same (B := B) u4) k3
        generalize upd (upd (upd (upd H3 p1 (HO.tup [])) p2 (HO.lst [])) p3 (HO.tup [V.int 0])) p4 (HO.tup [V.str "nop"]) = H4 at n5 k1 k2 k3 k4 u14 lv4
        have d18 : DpAll K (hide B H4) [.non, .bl true, .bl false, .int (-1), .int 0, .int 1, .int 2, .str "", .str "a", .str "pipe", .str "slot", .str "link", .str "nop", .ref p1, .ref p2, .ref p3, .ref p4, .str "Ab"]
            [.none, .bool true, .bool false, .int (-1), .int 0, .int 1, .int 2, .str "", .str "a", .str "pipe", .str "slot", .str "link", .str "nop", .tuple [], .list [], .tuple [.int 0], .tuple [.str "nop"], .str "Ab"] :=
          .cons .non (.cons (.bl _) (.cons (.bl _) (.cons (.int _) (.cons (.int _) (.cons (.int _) (.cons (.int _) (.cons (.str _) (.cons (.str _) (.cons (.str _) (.cons (.str _) (.cons (.str _) (.cons (.str _) (.cons k1 (.cons k2 (.cons k3 (.cons k4 (.cons (.str _) .nil)))))))))))))))))
        have u5 := same_upd (o := HO.lst [.non, .bl true, .bl false, .int (-1), .int 0, .int 1, .int 2, .str "", .str "a", .str "pipe", .str "slot", .str "link", .str "nop", .ref p1, .ref p2, .ref p3, .ref p4, .str "Ab"]) n5
        have h5 : (upd H4 p5 (HO.lst [.non, .bl true, .bl false, .int (-1), .int 0, .int 1, .int 2, .str "", .str "a", .str "pipe", .str "slot", .str "link", .str "nop", .ref p1, .ref p2, .ref p3, .ref p4, .str "Ab"])) p5 = _ := upd_same
        replace d18 := dps_same (hide_of_same (B := B) u5) d18
        have lv5 := lv4.same u5
        replace u5 := u14.trans u5
        show tSeq _ _ _ _ (upd H4 p5 (HO.lst [.non, .bl true, .bl false, .int (-1), .int 0, .int 1, .int 2, .str "", .str "a", .str "pipe", .str "slot", .str "link", .str "nop", .ref p1, .ref p2, .ref p3, .ref p4, .str "Ab"]))
        generalize upd H4 p5 (HO.lst [.non, .bl true, .bl false, .int (-1), .int 0, .int 1, .int 2, .str "", .str "a", .str "pipe", .str "slot", .str "link", .str "nop", .ref p1, .ref p2, .ref p3, .ref p4, .str "Ab"]) = H5 at h5 d18 lv5 u5
        refine ⟨_, rfl, by show 1 ≤ sizeLine; decide, fun p6 n6 => ⟨p5, p6, _, _, rfl, rfl, same_upd n6 _ _ h5, upd_same, by show 18 + 1 ≤ sizeLine; decide, fun p7 n7 => ?_⟩⟩
        have u6 : Same H5 (upd H5 p6 (.lst [.str "ninechars"])) := same_upd n6
        have lv6 := lv5.same u6
        have d19 := dps_app (dps_same (hide_of_same (B := B) u6) d18) (.cons (.str "ninechars") .nil)
        have len19 : (([.non, .bl true, .bl false, .int (-1), .int 0, .int 1, .int 2, .str "", .str "a", .str "pipe", .str "slot", .str "link", .str "nop", .ref p1, .ref p2, .ref p3, .ref p4, .str "Ab"] : List V) ++ [V.str "ninechars"]).length = 19 := rfl
        generalize ([.non, .bl true, .bl false, .int (-1), .int 0, .int 1, .int 2, .str "", .str "a", .str "pipe", .str "slot", .str "link", .str "nop", .ref p1, .ref p2, .ref p3, .ref p4, .str "Ab"] : List V) ++ [V.str "ninechars"] = xs at d19 len19
        have o7 : ∃ ds, DpAll K (hide B (upd (upd H5 p6 (.lst [.str "ninechars"])) p7 (.lst xs))) xs ds ∧ (∀ e ∈ ds, gD lf2 (L + 1) e (N + 1) = true) := by
          refine ⟨_, dps_same (hide_grow lv6 n7) d19, ?_⟩
          have a2 : gDs lf2 1 [.none, .bool true, .bool false, .int (-1), .int 0, .int 1, .int 2, .str "", .str "a", .str "pipe", .str "slot", .str "link", .str "nop", .tuple [], .list [], .tuple [.int 0], .tuple [.str "nop"], .str "Ab", .str "ninechars"] 1 = true := by decide +kernel
          rw [gDs_all, List.all_eq_true] at a2
          intro e he
          exact gD_mono (fun _ z => z) (by omega) e 1 (N + 1) (by omega) (a2 e he)
        have h7 : (upd (upd H5 p6 (.lst [.str "ninechars"])) p7 (.lst xs)) p7 = some (.lst xs) := upd_same
        have u7 : Same H3 (upd (upd H5 p6 (.lst [.str "ninechars"])) p7 (.lst xs)) := (u5.trans u6).trans (same_upd n7)
        have p7B := lv6.new n7
        show tSeq _ _ _ _ (upd (upd H5 p6 (.lst [.str "ninechars"])) p7 (.lst xs))
        generalize upd (upd H5 p6 (.lst [.str "ninechars"])) p7 (.lst xs) = H7 at o7 h7 u7
        obtain ⟨ds, o7, good⟩ := o7
        have d7 := dp_same (hide_of_same (B := B) u7) d3
        have e7 := dp_same (hide_same B H7) d7
        have lv7 := lv3.same u7
        have b7 := b3.same u7
        have s7 : SameX [b] H H7 := s3.trans (SameX.of u7)
        have goOn := fin p7 H7 s7 b7 ⟨xs, ds, h7, o7, good, by omega, by omega, p7B⟩
        -- more of these
        have more : ∀ (ys : List V) (es : List PyData) (H8 : Hp) (p8 p9 : Addr), Same H7 H8 → H8 p8 = none → upd H8 p8 (.lst ys) p9 = none → DpAll K (hide B H8) ys es → ys.length ≤ 10 → (∀ e ∈ es, gD lf2 (L + 1) e (N + 1) = true) → spOf K [.ref b, .ref p9] (upd (upd H8 p8 (.lst ys)) p9 (.lst (xs ++ ys))) Q E0 := by
          intro ys es H8 p8 p9 s8 n8 n9 dy ly gy
          have s9 := s8.trans ((same_upd (o := HO.lst ys) n8).trans (same_upd (o := HO.lst (xs ++ ys)) n9))
          refine fin p9 _ (s7.trans (SameX.of s9)) (b7.same s9) ⟨xs ++ ys, ds ++ es, upd_same, ?_, ?_, ?_, ?_, ((lv7.same s8).upd (p := p8)).new n9⟩
          · exact dps_app (dps_same (hide_of_same s9) o7) (dps_same (hide_of_same ((same_upd (o := HO.lst ys) n8).trans (same_upd (o := HO.lst (xs ++ ys)) n9))) dy)
          · intro e he
            rcases List.mem_append.mp he with he | he
            · exact good e he
            · exact gy e he
          · rw [List.length_append]
            omega
          · rw [List.length_append]
            omega
        cases e7 with
        | non =>
          have hv : ∀ {H2 : Hp}, Dp K H2 .non .none := .non
          exact ⟨_, rfl, ⟨_, _, rfl, hv, false, (show kitB "NoneType" "int" = some false by decide +kernel), _, rfl, iteF (iteF ⟨_, rfl, ⟨_, _, rfl, hv, false, (show kitB "NoneType" "str" = some false by decide +kernel), _, rfl, iteF ⟨_, rfl, _, rfl, goOn⟩⟩⟩)⟩⟩
        | bl c =>
          have hv : ∀ {H2 : Hp}, Dp K H2 (.bl c) (.bool c) := .bl c
          exact ⟨_, rfl, ⟨_, _, rfl, hv, true, (show kitB "bool" "int" = some true by decide +kernel), _, rfl, iteT ⟨_, rfl, ⟨_, _, rfl, hv, true, (show kitB "bool" "bool" = some true by decide +kernel), _, rfl, iteF ⟨_, rfl, ⟨_, _, rfl, hv, false, (show kitB "bool" "str" = some false by decide +kernel), _, rfl, iteF ⟨_, rfl, _, rfl, goOn⟩⟩⟩⟩⟩⟩⟩
        | int c =>
          have hv : ∀ {H2 : Hp}, Dp K H2 (.int c) (.int c) := .int c
          have hc : c.natAbs ≤ 10 ^ 29 := of_decide_eq_true (show decide (c.natAbs ≤ 10 ^ 29) = true by simp only [gD] at hg; exact hg)
          have h30 : c.natAbs < 10 ^ 30 := by omega
          have hlog : c.natAbs.log2 < 1920 := by
            by_cases z : c.natAbs = 0
            · rw [z]; decide
            · exact (Nat.log2_lt z).mpr (Nat.lt_trans h30 (by decide +kernel))
          have hlen := int_text_length_le10 (k := 30) (by decide) h30
          refine ⟨_, rfl, ⟨_, _, rfl, hv, true, (show kitB "int" "int" = some true by decide +kernel), _, rfl, iteT ⟨_, rfl, ⟨_, _, rfl, hv, false, (show kitB "int" "bool" = some false by decide +kernel), _, rfl, iteT ?_⟩⟩⟩⟩
          refine ⟨_, rfl, _, rfl, _, _, rfl, rfl, _, rfl, _, _, rfl, rfl, _, rfl, _, _, rfl, rfl, _, rfl, _, rfl, hlog, _, _, rfl, rfl, ⟨by decide, by decide, by decide⟩, by show 6 ≤ sizeLine; decide, fun p8 n8 => ⟨p7, p8, _, _, rfl, rfl, same_upd n8 _ _ h7, upd_same, ?_, fun p9 n9 => ?_⟩⟩
          · show xs.length + 6 ≤ sizeLine
            rw [sizeLine_eq]
            omega
          · refine ⟨_, rfl, ⟨_, _, rfl, hv, false, (show kitB "int" "str" = some false by decide +kernel), _, rfl, iteF ⟨_, rfl, _, rfl, more _ _ H7 p8 p9 (fun _ _ z => z) n8 n9 (.cons (.int _) (.cons (.int _) (.cons (.int _) (.cons (.str _) (.cons (.int _) (.cons (.int _) .nil)))))) (by show 6 ≤ 10; decide) fun e he => ?_⟩⟩⟩
            have z : c + 1 = c + 1 := rfl
            rcases List.mem_cons.mp he with rfl | he
            · exact int_good (by omega)
            rcases List.mem_cons.mp he with rfl | he
            · exact int_good (by omega)
            rcases List.mem_cons.mp he with rfl | he
            · exact int_good (by omega)
            rcases List.mem_cons.mp he with rfl | he
            · exact bent_int h30
            rcases List.mem_cons.mp he with rfl | he
            · exact int_good (by decide)
            · rw [List.mem_singleton.mp he]
              exact int_good (by decide +kernel)
        | str c =>
          have hv : ∀ {H2 : Hp}, Dp K H2 (.str c) (.str c) := .str c
          have hc : (decide (c.length ≤ 15) && c.cps.toList.all fun c => decide (c < 128)) = true := by simp only [gD] at hg; exact hg
          rw [Bool.and_eq_true, decide_eq_true_eq] at hc
          refine ⟨_, rfl, ⟨_, _, rfl, hv, false, (show kitB "str" "int" = some false by decide +kernel), _, rfl, iteF (iteF ⟨_, rfl, ⟨_, _, rfl, hv, true, (show kitB "str" "str" = some true by decide +kernel), _, rfl, iteT ?_⟩⟩)⟩⟩
          refine ⟨_, rfl, _, rfl, _, _, rfl, rfl, ?_, _, rfl, _, rfl, _, rfl, _, rfl, ?_, _, rfl, ⟨_, rfl⟩, _, rfl, rfl, ?_, _, rfl, _, _, rfl, rfl, ?_, by show 4 ≤ sizeLine; decide, fun p8 n8 => ⟨p7, p8, _, _, rfl, rfl, same_upd n8 _ _ h7, upd_same, ?_, fun p9 n9 => ?_⟩⟩
          · show c.length + 1 ≤ sizeLine
            rw [sizeLine_eq]
            omega
          · rw [sizeLine_eq]
            omega
          · omega
          · show c.length + 1 ≤ sizeLine
            rw [sizeLine_eq]
            omega
          · show xs.length + 4 ≤ sizeLine
            rw [sizeLine_eq]
            omega
          · refine ⟨_, rfl, _, rfl, more _ _ H7 p8 p9 (fun _ _ z => z) n8 n9 (.cons (.str _) (.cons (.str _) (.cons (.str _) (.cons (.str _) .nil)))) (by show 4 ≤ 10; decide) fun e he => ?_⟩
            rcases List.mem_cons.mp he with rfl | he
            · exact bent_add hc.1 hc.2
            rcases List.mem_cons.mp he with rfl | he
            · exact bent_cut _ _ hc.1 hc.2
            rcases List.mem_cons.mp he with rfl | he
            · exact bent_up hc.1 hc.2
            · rw [List.mem_singleton.mp he]
              exact bent_add hc.1 hc.2
        | lst h1 h2 =>
          rename_i a zs es
          have hv : ∀ {H2 : Hp}, Same H7 H2 → Dp K H2 (.ref a) (.list es) := fun z => dp_same z (.lst h1 h2)
          exact ⟨_, rfl, ⟨_, _, rfl, hv (fun _ _ z => z), false, (show kitB "list" "int" = some false by decide +kernel), _, rfl, iteF (iteF ⟨_, rfl, ⟨_, _, rfl, hv (fun _ _ z => z), false, (show kitB "list" "str" = some false by decide +kernel), _, rfl, iteF ⟨_, rfl, _, rfl, goOn⟩⟩⟩)⟩⟩
        | tup h1 h2 =>
          rename_i a zs es
          have hv : ∀ {H2 : Hp}, Same H7 H2 → Dp K H2 (.ref a) (.tuple es) := fun z => dp_same z (.tup h1 h2)
          exact ⟨_, rfl, ⟨_, _, rfl, hv (fun _ _ z => z), false, (show kitB "tuple" "int" = some false by decide +kernel), _, rfl, iteF (iteF ⟨_, rfl, ⟨_, _, rfl, hv (fun _ _ z => z), false, (show kitB "tuple" "str" = some false by decide +kernel), _, rfl, iteF ⟨_, rfl, _, rfl, goOn⟩⟩⟩)⟩⟩
      obtain ⟨u, hu, hrest⟩ := rest
      have rest2 : ∃ u2, PSs (cxOf CX0 P w K mg base nBent "_law_bent" (defScope sBent) f cdv A outer s H E).nox ((defBody sBent).drop 2) u2 ∧ ∀ (r : Int) (x3 x4 x5 : Option V) (H3 : Hp), SameX [b] H H3 → BoxAt H3 b (m + 1) → u2 { nx := fun _ H' => Q .non H', rt := Q } [some (.ref b), some v, some (.int r), x3, x4, x5] H3 := by
        refine ⟨_, pss_cons (ps_if (PW.pt (pw_and (pt_cmpR op_eq (pv 2) pe_int (nomark _)) (pw_and1 (pt_val (pe_callB cr_isSeq2 (by rfl) mi boot_isinstance (pa_cons (pv 1) (pa_cons (pe_tup (pa_cons (pe_bltn (v := .ty "tuple") (by rfl) mt (by decide +kernel) rfl) (pa_cons (pe_bltn (v := .ty "list") (by rfl) ml (by decide +kernel) rfl) pa_nil))) pa_nil)))))))
          (pss_one (ps_ret (pe_ifExp (pt_val (pe_callB (cr_isOne "tuple") (by rfl) mi boot_isinstance (pa_cons (pv 1) (pa_cons (pe_bltn (v := .ty "tuple") (by rfl) mt (by decide +kernel) rfl) pa_nil))))
              (pe_callTy call_list_of (by rfl) ml PyProof.Rows.boot_list (pa_cons (pv 1) pa_nil)) (pe_callTy call_tuple_of (by rfl) mt PyProof.Rows.boot_tuple (pa_cons (pv 1) pa_nil))))) pss_nil)
          hu, fun r x3 x4 x5 H3 s3 b3 => ?_⟩
        have d3 : Dp K (hide B H3) v d := dp_same (s3.hide memb) hd
        have lv3 : Live B H3 := s3.live lv fun c hc => by rw [List.mem_singleton.mp hc]; exact b3.live
        refine ⟨_, rfl, rfl, _, rfl, ite2 (fun e => ?_) (fun e => iteF (hrest _ _ _ _ _ s3 b3))⟩
        refine ⟨_, rfl, by show 2 ≤ sizeLine; decide, fun t nt => ⟨_, _, d, rfl, upd_same, dp_same ((hide_same B H3).trans (same_upd nt)) d3, _, rfl, ?_⟩⟩
        have st : Same H3 (upd H3 t (.tup [.ty "tuple", .ty "list"])) := same_upd nt
        have d4 : Dp K (hide B (upd H3 t (.tup [.ty "tuple", .ty "list"]))) v d := dp_same (hide_of_same st) d3
        have lv4 := lv3.same st
        have s4 := s3.trans (SameX.of (B := [b]) st)
        have b4 := b3.same st
        generalize upd H3 t (.tup [.ty "tuple", .ty "list"]) = H4 at st d4 lv4 s4 b4
        cases hq : isSeq d with
        | false => exact iteF (hrest _ _ _ _ _ s4 b4)
        | true =>
          refine iteT ?_
          obtain ⟨a, xs, ds, rfl, hk, hall⟩ := dp_seq d4 hq
          have b5 := b4.le (show m + 1 ≤ m + 10 * (N + 1) by omega)
          rcases hk with ⟨hS, rfl⟩ | ⟨hS, rfl⟩
          · obtain ⟨k, rfl, h1, h2⟩ := gD_seq (.inl rfl) hg
            have hv : Dp K H4 (.ref a) (.list ds) := dp_same (hide_same B H4) d4
            refine ⟨_, rfl, ⟨_, _, rfl, hv, false, (show kitB "list" "tuple" = some false by decide +kernel), _, rfl, iteF ⟨_, rfl, a, xs, rfl, .inl ⟨(hide_same B H4).seq hS, fun l nl => q _ (.tuple ds) _ ?_ (s4.trans (SameX.of (same_upd nl))) (b5.same (same_upd nl)) (dp_new lv4 nl hall)⟩⟩⟩⟩
            exact gD_mono lf12 (Nat.le_succ L) _ (k + 1) _ (by omega) (gD_mk h1 h2).2
          · obtain ⟨k, rfl, h1, h2⟩ := gD_seq (.inr rfl) hg
            have hv : Dp K H4 (.ref a) (.tuple ds) := dp_same (hide_same B H4) d4
            refine ⟨_, rfl, ⟨_, _, rfl, hv, true, (show kitB "tuple" "tuple" = some true by decide +kernel), _, rfl, iteT ⟨_, rfl, a, xs, rfl, .inr (same_seqT (hide_same B H4) hS), fun l nl => q _ (.list ds) _ ?_ (s4.trans (SameX.of (same_upd nl))) (b5.same (same_upd nl)) (dp_newL lv4 nl hall)⟩⟩⟩
            exact gD_mono lf12 (Nat.le_succ L) _ (k + 1) _ (by omega) (gD_mk h1 h2).1
      obtain ⟨u2, hu2, hrest2⟩ := rest2
      refine ⟨_, pss_cons (ps_set (i := 2) scBent.nd rfl (.inl rfl) (pe_call GT hr (by rfl) mT FT.kp bT .nil pass0 (pa_cons (pv 0) (pa_cons pe_int pa_nil))))
        (pss_cons (ps_if (PW.pt (pw_and (pt_val (pe_callB cr_isSeq2 (by rfl) mi boot_isinstance (pa_cons (pv 1) (pa_cons (pe_tup (pa_cons (pe_bltn (v := .ty "tuple") (by rfl) mt (by decide +kernel) rfl) (pa_cons (pe_bltn (v := .ty "list") (by rfl) ml (by decide +kernel) rfl) pa_nil))) pa_nil))))
            (pw_and (pt_cmpR op_gt (pe_callB call_len_seq (by rfl) me PySem.boot_len (pa_cons (pv 1) pa_nil)) pe_int (nomark _)) (pw_and1 (pt_cmpR op_gt (pv 2) pe_int (nomark _))))))
          (pss_cons (ps_par (i := 3) (j := 4) rfl scBent.nd rfl rfl (by decide) rfl rfl (pa_cons (pe_call GT hr (by rfl) mT FT.kp bT .nil pass0 (pa_cons (pv 0) (pa_cons (pe_callB call_len_seq (by rfl) me PySem.boot_len (pa_cons (pv 1) pa_nil)) pa_nil)))
              (pa_cons (pe_callTy call_list_of (by rfl) ml PyProof.Rows.boot_list (pa_cons (pv 1) pa_nil)) pa_nil)) (by rfl))
          (pss_cons (ps_if (pt_cmpR op_eq (pv 2) pe_int (nomark _))
            (pss_one (ps_expr (pe_bm PySem.F.plainAttrs_list PySem.F.slot_list_pop PySem.F.type_list_pop mt_popAt (pv 4) (pa_cons (pv 3) pa_nil))))
            (pss_one (ps_if (pt_cmpR op_eq (pv 2) pe_int (nomark _))
              (pss_one (ps_expr (pe_bm PySem.F.plainAttrs_list PySem.F.slot_list_insert PySem.F.type_list_insert mt_insert (pv 4) (pa_cons (pv 3) (pa_cons (pe_ix ix_seq (pv 4) (pv 3) (fun _ _ => rfl)) pa_nil)))))
              (pss_one (ps_asg (pe_call ih hr (by rfl) mF F.kp bF .nil pass0 (pa_cons (pv 0) (pa_cons (pe_ix ix_seq (pv 4) (pv 3) (fun _ _ => rfl)) pa_nil))) (pg_sub (pv 4) (pv 3) set_list))))))
          (pss_one (ps_ret (pe_ifExp (pt_val (pe_callB (cr_isOne "tuple") (by rfl) mi boot_isinstance (pa_cons (pv 1) (pa_cons (pe_bltn (v := .ty "tuple") (by rfl) mt (by decide +kernel) rfl) pa_nil))))
              (pe_callTy call_tuple_of (by rfl) mt PyProof.Rows.boot_tuple (pa_cons (pv 4) pa_nil)) (pv 4)))))) pss_nil)
        hu2), ?_⟩
      refine ⟨_, rfl, b, m, 7, rfl, by decide, by decide, hB, by omega, fun r H1 r0 r1 s1 b1 => ?_⟩
      have d1 : Dp K (hide B H1) v d := dp_same (s1.hide memb) hd
      have lv1 : Live B H1 := s1.live lv fun c hc => by rw [List.mem_singleton.mp hc]; exact b1.live
      refine ⟨_, rfl, by show 2 ≤ sizeLine; decide, fun t nt => ⟨_, _, d, rfl, upd_same, dp_same ((hide_same B H1).trans (same_upd nt)) d1, _, rfl, ?_⟩⟩
      have st : Same H1 (upd H1 t (.tup [.ty "tuple", .ty "list"])) := same_upd nt
      have d2 : Dp K (hide B (upd H1 t (.tup [.ty "tuple", .ty "list"]))) v d := dp_same (hide_of_same st) d1
      have lv2 := lv1.same st
      have s2 := s1.trans (SameX.of (B := [b]) st)
      have b2 := b1.same st
      generalize upd H1 t (.tup [.ty "tuple", .ty "list"]) = H2 at st d2 lv2 s2 b2
      cases hq : isSeq d with
      | false => exact iteF (iteF (hrest2 _ _ _ _ _ s2 b2))
      | true =>
        refine iteT ?_
        obtain ⟨a, xs, ds, rfl, hk, hall⟩ := dp_seq d2 hq
        have hkB : SqL K (hide B H2) a xs ∨ SqT K (hide B H2) a xs := hk.imp And.left And.left
        have hk2 : SqL K H2 a xs ∨ SqT K H2 a xs := hkB.imp (hide_same B H2).seq (same_seqT (hide_same B H2))
        have hkk : d = .list ds ∨ d = .tuple ds := hk.imp And.right And.right
        obtain ⟨n0, hN0, hlen, hgs⟩ := gD_seq hkk hg
        subst hN0
        have hl := dps_len hall
        refine ⟨_, rfl, a, xs, rfl, hk2, _, _, rfl, rfl, _, rfl, ite2 (fun e1 => ?_) (fun e1 => iteF (hrest2 _ _ _ _ _ s2 b2))⟩
        have hpos : 0 < xs.length := by
          have z := of_decide_eq_true e1
          omega
        refine ⟨_, rfl, _, _, rfl, rfl, _, rfl, ite2 (fun e2 => ?_) (fun e2 => hrest2 _ _ _ _ _ s2 b2)⟩
        -- the place, and a list of its own
        refine ⟨_, rfl, _, rfl, a, xs, rfl, hk2, b, m + 1, xs.length, rfl, by omega, by omega, b2, by omega, fun k0 H3 k00 k01 s3 b3 => ?_⟩
        obtain ⟨j, rfl⟩ : ∃ j : Nat, k0 = j := ⟨k0.toNat, by omega⟩
        have hj : j < xs.length := by omega
        have lv3 : Live B H3 := s3.live lv2 fun c hc => by rw [List.mem_singleton.mp hc]; exact b3.live
        have hk3B : SqL K (hide B H3) a xs ∨ SqT K (hide B H3) a xs := hkB.imp (s3.hide memb).seq (same_seqT (s3.hide memb))
        have hk3 : SqL K H3 a xs ∨ SqT K H3 a xs := hk3B.imp (hide_same B H3).seq (same_seqT (hide_same B H3))
        have d3 : Dp K (hide B H3) (.ref a) d := dp_same (s3.hide memb) d2
        have hall3 : DpAll K (hide B H3) xs ds := dps_same (s3.hide memb) hall
        refine ⟨_, rfl, a, xs, rfl, hk3, fun l nl => ⟨_, _, rfl, ?_⟩⟩
        have lB := lv3.new nl
        have lb : l ≠ b := fun e => lB (e ▸ hb)
        have s34 : Same H3 (upd H3 l (.lst xs)) := same_upd nl
        have hl4 : (upd H3 l (.lst xs)) l = some (.lst xs) := upd_same
        have lv4 := lv3.same s34
        have hall4 := dps_same (hide_of_same (B := B) s34) hall3
        have d4 := dp_same (hide_of_same (B := B) s34) d3
        have s4 : SameX [b] H (upd H3 l (.lst xs)) := s2.trans (s3.trans (SameX.of s34))
        have b4 := b3.same s34
        have x4 : ∀ c, H c ≠ none → c ≠ l := fun c hc e => by
          cases z : H c with
          | none => exact hc z
          | some o =>
            by_cases y : c = b
            · exact lb (e ▸ y)
            · rw [← e, s3 c o (fun z => y (List.mem_singleton.mp z)) (s2 c o (fun z => y (List.mem_singleton.mp z)) z)] at nl
              cases nl
        have m35 : ∀ {H5 : Hp}, SameX [l, b] (upd H3 l (.lst xs)) H5 → Same (hide B H3) (hide B H5) := fun {H5} s5 c o z => by
          obtain ⟨cB, z2⟩ := hide_some z
          rw [hide_out cB]
          refine s5 c o (fun y => ?_) (s34 c o z2)
          rcases List.mem_cons.mp y with y | y
          · exact ne_of_none z2 nl y
          · exact cB (by rw [List.mem_singleton.mp y]; exact hb)
        have m4 : Same (hide B H3) (hide (l :: B) (upd H3 l (.lst xs))) := fun c o z => by
          obtain ⟨cB, z2⟩ := hide_some z
          rw [hide_out (fun y => (List.mem_cons.mp y).elim (ne_of_none z2 nl) cB)]
          exact s34 c o z2
        have sH : ∀ {H5 : Hp}, SameX [l, b] (upd H3 l (.lst xs)) H5 → SameX [b] H H5 := fun {H5} s5 c o z z2 => by
          refine s5 c o (fun y => ?_) (s4 c o z z2)
          rcases List.mem_cons.mp y with y | y
          · exact x4 c (fun e => by rw [z2] at e; cases e) y
          · exact z y
        have gall : ∀ e ∈ ds, gD lf2 (L + 1) e (n0 + 1) = true := fun e he => by
          rw [gDs_all, List.all_eq_true] at hgs
          exact gD_mono lf12 (Nat.le_succ L) e n0 _ (Nat.le_succ n0) (hgs e he)
        have ret : ∀ (x5 : Option V) (H5 : Hp) (zs : List V) (es : List PyData), SameX [l, b] (upd H3 l (.lst xs)) H5 → BoxAt H5 b (m + 10 * (n0 + 1 + 1)) → H5 l = some (.lst zs) → DpAll K (hide B H5) zs es → es.length ≤ L + 1 → (∀ e ∈ es, gD lf2 (L + 1) e (n0 + 1) = true) →
            (tIf (tB (tCB (rIsOne K "tuple") (tCons (tVar 1) (tCons (tC (V.ty "tuple")) tNil)))) (tCB (rTupOf K) (tCons (tVar 4) tNil)) (tVar 4)) [some (.ref b), some (.ref a), some (.int r), some (.int j), some (.ref l), x5] H5 Q := by
          intro x5 H5 zs es s5 b5 hl5 dz le ge
          have d5 : Dp K H5 (.ref a) d := dp_same ((m35 s5).trans (hide_same B H5)) d3
          have S5 := sH s5
          have lv5 : Live B H5 := S5.live lv fun c hc => by rw [List.mem_singleton.mp hc]; exact b5.live
          have gg := gD_mk le (gDs_of ge)
          rcases hkk with rfl | rfl
          · refine ⟨_, rfl, ⟨_, _, rfl, d5, false, (show kitB "list" "tuple" = some false by decide +kernel), _, rfl, iteF ⟨_, rfl, q _ (.list es) _ gg.1 S5 b5 (.lst (SqL.of (by rw [hide_out lB]; exact hl5)) dz)⟩⟩⟩
          · refine ⟨_, rfl, ⟨_, _, rfl, d5, true, (show kitB "tuple" "tuple" = some true by decide +kernel), _, rfl, iteT ⟨_, rfl, l, zs, rfl, .inl ⟨SqL.of hl5, fun l2 nl2 => q _ (.tuple es) _ gg.2 (S5.trans (SameX.of (same_upd nl2))) (b5.same (same_upd nl2)) (dp_new lv5 nl2 dz)⟩⟩⟩⟩
        have hjx : xs[j]? = some xs[j] := List.getElem?_eq_getElem hj
        obtain ⟨dj, hdj, hxj⟩ := dps_get hall3 hjx
        have hdl : dj ∈ ds := List.mem_of_getElem? hdj
        have upl : ∀ (ys : List V), SameX [l, b] (upd H3 l (.lst xs)) (upd (upd H3 l (.lst xs)) l (.lst ys)) := fun ys => sameX_upd List.mem_cons_self
        have bup : ∀ {H5 : Hp} {k : Nat} (ys : List V), BoxAt H5 b k → BoxAt (upd H5 l (.lst ys)) b k := fun {H5 k} ys z => by
          obtain ⟨u1, u2, u3, z1, z2⟩ := z
          exact ⟨u1, u2, u3, by rw [upd_ne lb.symm]; exact z1, z2⟩
        refine ⟨_, rfl, rfl, _, rfl, ite2 (fun e3 => ?_) (fun e3 => ?_)⟩
        · refine ⟨_, rfl, .inl ⟨rfl, _, .inl (.inl hl4)⟩, _, rfl, l, xs, j, j, xs[j], rfl, rfl, hl4, by omega, by omega, ?_, hjx, ?_⟩
          · exact seqIndex_of (k := (j : Int)) (by omega) (by omega)
          · refine ret _ _ (xs.eraseIdx j) (ds.eraseIdx j) (upl _) ((bup _ b4).le (by omega)) upd_same (dps_erase j (dps_same (m35 (upl _)) hall3)) ?_ fun e he => gall e (List.mem_of_mem_eraseIdx he)
            have := List.length_eraseIdx_le ds j
            omega
        · refine ⟨_, rfl, rfl, _, rfl, ite2 (fun e4 => ?_) (fun e4 => ?_)⟩
          · refine ⟨_, rfl, .inl ⟨rfl, _, .inl (.inl hl4)⟩, _, rfl, _, rfl, _, rfl, .inl ⟨l, xs, j, xs[j], rfl, rfl, SqL.of hl4, atI_nat hjx, l, xs, j, xs[j], rfl, rfl, hl4, small1000 (by omega), by omega, by omega, ?_⟩⟩
            refine ret _ _ (xs.take j ++ [xs[j]] ++ xs.drop j) (ds.take j ++ [dj] ++ ds.drop j) (upl _) ((bup _ b4).le (by omega)) upd_same (dps_app (dps_app (dps_take j (dps_same (m35 (upl _)) hall3)) (.cons (dp_same (m35 (upl _)) hxj) .nil)) (dps_drop j (dps_same (m35 (upl _)) hall3))) ?_ fun e he => ?_
            · rw [List.length_append, List.length_append, List.length_take, List.length_drop]
              show min j ds.length + 1 + (ds.length - j) ≤ L + 1
              omega
            · rcases List.mem_append.mp he with he | he
              · rcases List.mem_append.mp he with he | he
                · exact gall e (List.mem_of_mem_take he)
                · rw [List.mem_singleton.mp he]
                  exact gall _ hdl
              · exact gall e (List.mem_of_mem_drop he)
          · refine ⟨_, rfl, _, rfl, _, rfl, .inl ⟨l, xs, j, xs[j], rfl, rfl, SqL.of hl4, atI_nat hjx, n0, l :: B, b, m + 1 + 1, L, xs[j], dj, rfl, rfl, List.mem_cons_of_mem _ hb, lv4.cons hl4, b4, by omega, hL, dp_same m4 hxj, okGet hgs hdl, fun v' d' H5 g' s5 b5 dv' => ?_⟩⟩
            have hl5 : H5 l = some (.lst xs) := s5 l _ (fun z => lb (List.mem_singleton.mp z)) hl4
            refine ⟨_, rfl, _, rfl, l, xs, j, j, rfl, rfl, hl5, ?_, ?_⟩
            · unfold ixN
              rw [if_pos (by omega), if_pos (by omega)]
              rfl
            · have s6 : SameX [l, b] (upd H3 l (.lst xs)) (upd H5 l (.lst (xs.set j v'))) := (s5.sub fun z hz => List.mem_cons_of_mem _ hz).trans (sameX_upd List.mem_cons_self)
              have m6 : Same (hide (l :: B) H5) (hide B (upd H5 l (.lst (xs.set j v')))) := fun c o z => by
                obtain ⟨cB, z2⟩ := hide_some z
                rw [hide_out (fun y => cB (List.mem_cons_of_mem _ y)), upd_ne (fun y => cB (by rw [y]; exact List.mem_cons_self))]
                exact z2
              refine ret _ _ (xs.set j v') (ds.set j d') s6 ((bup _ b5).le (by omega)) upd_same (dps_set (dp_same m6 dv') j (dps_same (m35 s6) hall3)) (by rw [List.length_set]; omega) fun e he => ?_
              rcases List.mem_or_eq_of_mem_set he with he | rfl
              · exact gall e he
              · exact g'
end
end KV

namespace KV
open PySem PySem.Spec PyProof.Rows L2 RZ
abbrev sNum : Stmt := topS 2
abbrev sRow : Stmt := topS 7
abbrev sRowOf : Stmt := topS 44
abbrev sWhole : Stmt := topS 46
/-- a tuple of so many -/
def isRowD : PyData → Nat → Bool
  | .tuple ds, n => decide (ds.length = n)
  | _, _ => false
/-- a whole number, not below k -/
def isNumD : PyData → Int → Bool
  | .int i, k => decide (k ≤ i)
  | _, _ => false
section
variable {P : Program} {w : World} {K : PySem.W.Frag} {mg : Str → Option Value} {base : Heap}
def spRow (K : PySem.W.Frag) : Sp := fun vs H Q _ => ∃ (v : V) (d : PyData) (n : Nat), vs = [v, .int n] ∧ Dp K H v d ∧ Q (.bl (isRowD d n)) H
def spNum (K : PySem.W.Frag) : Sp := fun vs H Q _ => ∃ (v : V) (d : PyData) (k : Int), vs = [v, .int k] ∧ Dp K H v d ∧ Q (.bl (isNumD d k)) H
theorem scRow : FnScope ["thing", "many"] ["thing", "many"] (defScope sRow) :=
  ⟨rfl, rfl, rfl, by decide +kernel, rfl, by decide +kernel, by decide +kernel⟩
theorem scRowOf : FnScope ["_law_matter", "_law_size"] ["_law_matter", "_law_size"] (defScope sRowOf) :=
  ⟨rfl, rfl, rfl, by decide +kernel, rfl, by decide +kernel, by decide +kernel⟩
theorem scNum : FnScope ["thing", "least"] ["thing", "least"] (defScope sNum) :=
  ⟨rfl, rfl, rfl, by decide +kernel, rfl, by decide +kernel, by decide +kernel⟩
theorem scWhole : FnScope ["_law_matter", "_law_least_so"] ["_law_matter", "_law_least_so"] (defScope sWhole) :=
  ⟨rfl, rfl, rfl, by decide +kernel, rfl, by decide +kernel, by decide +kernel⟩
theorem ok_row {f : Addr} {fd : FuncData} {k : Nat} (F : Fun K "is_row" "is_row" sRow f fd) (mi : mg "isinstance" = none) (me : mg "len" = none) (mt : mg "tuple" = none) : FnOk P w K mg base CX0 (k + 1) f fd ["thing", "many"] (spRow K) := by
  refine F.ok scRow (fun vs H Q E h => ?_) (fun cdv A outer s H vs Q E hr h => ?_)
  · obtain ⟨v, d, n, rfl, _⟩ := h
    rfl
  · obtain ⟨v, d, n, rfl, hd, q⟩ := h
    refine ⟨_, pss_one (ps_ret (pe_and (pe_callB (cr_isOne "tuple") (by rfl) mi boot_isinstance (pa_cons (pv 0) (pa_cons (pe_bltn (v := .ty "tuple") (by rfl) mt (by decide +kernel) rfl) pa_nil)))
      (pe_one (pe_cmpR op_eq (pe_callB call_len_seq (by rfl) me PySem.boot_len (pa_cons (pv 0) pa_nil)) (pv 1) (nomark _))))), ?_⟩
    have hv := hd
    cases hd with
    | non => exact ⟨_, rfl, ⟨_, _, rfl, hv, false, (show kitB "NoneType" "tuple" = some false by decide +kernel), _, rfl, iteF q⟩⟩
    | bl c => exact ⟨_, rfl, ⟨_, _, rfl, hv, false, (show kitB "bool" "tuple" = some false by decide +kernel), _, rfl, iteF q⟩⟩
    | int c => exact ⟨_, rfl, ⟨_, _, rfl, hv, false, (show kitB "int" "tuple" = some false by decide +kernel), _, rfl, iteF q⟩⟩
    | str c => exact ⟨_, rfl, ⟨_, _, rfl, hv, false, (show kitB "str" "tuple" = some false by decide +kernel), _, rfl, iteF q⟩⟩
    | lst h1 h2 => exact ⟨_, rfl, ⟨_, _, rfl, hv, false, (show kitB "list" "tuple" = some false by decide +kernel), _, rfl, iteF q⟩⟩
    | tup h1 h2 =>
      rename_i a xs ds
      have hl := dps_len h2
      refine ⟨_, rfl, ⟨_, _, rfl, hv, true, (show kitB "tuple" "tuple" = some true by decide +kernel), _, rfl, iteT ⟨_, rfl, a, xs, rfl, .inr h1, _, rfl, rfl, ?_⟩⟩⟩
      have e : isRowD (.tuple ds) n = decide (V.int (xs.length : Int) = V.int (n : Int)) := by
        rw [hl, Bool.eq_iff_iff]
        show decide (ds.length = n) = true ↔ _
        rw [decide_eq_true_eq, decide_eq_true_eq]
        exact ⟨fun z => by rw [z], fun z => by injection z with z; omega⟩
      rw [e] at q
      exact q
theorem ok_num {f : Addr} {fd : FuncData} {k : Nat} (F : Fun K "is_number" "is_number" sNum f fd) (mi : mg "isinstance" = none) (mn : mg "int" = none) (mb : mg "bool" = none) : FnOk P w K mg base CX0 (k + 1) f fd ["thing", "least"] (spNum K) := by
  refine F.ok scNum (fun vs H Q E h => ?_) (fun cdv A outer s H vs Q E hr h => ?_)
  · obtain ⟨v, d, n, rfl, _⟩ := h
    rfl
  · obtain ⟨v, d, k, rfl, hd, q⟩ := h
    refine ⟨_, pss_one (ps_ret (pe_and (pe_callB (cr_isOne "int") (by rfl) mi boot_isinstance (pa_cons (pv 0) (pa_cons (pe_bltn (v := .ty "int") (by rfl) mn (by decide +kernel) rfl) pa_nil)))
      (pe_and (pe_not (pe_callB (cr_isOne "bool") (by rfl) mi boot_isinstance (pa_cons (pv 0) (pa_cons (pe_bltn (v := .ty "bool") (by rfl) mb (by decide +kernel) rfl) pa_nil)))) (pe_one (pe_cmpR op_ge (pv 0) (pv 1) (nomark _)))))), ?_⟩
    have hv := hd
    cases hd with
    | non => exact ⟨_, rfl, ⟨_, _, rfl, hv, false, (show kitB "NoneType" "int" = some false by decide +kernel), _, rfl, iteF q⟩⟩
    | bl c => exact ⟨_, rfl, ⟨_, _, rfl, hv, true, (show kitB "bool" "int" = some true by decide +kernel), _, rfl, iteT ⟨_, rfl, ⟨_, _, rfl, hv, true, (show kitB "bool" "bool" = some true by decide +kernel), _, rfl, _, rfl, iteF q⟩⟩⟩⟩
    | int c => exact ⟨_, rfl, ⟨_, _, rfl, hv, true, (show kitB "int" "int" = some true by decide +kernel), _, rfl, iteT ⟨_, rfl, ⟨_, _, rfl, hv, false, (show kitB "int" "bool" = some false by decide +kernel), _, rfl, _, rfl, iteT ⟨_, rfl, _, rfl, _, _, rfl, rfl, q⟩⟩⟩⟩⟩
    | str c => exact ⟨_, rfl, ⟨_, _, rfl, hv, false, (show kitB "str" "int" = some false by decide +kernel), _, rfl, iteF q⟩⟩
    | lst h1 h2 => exact ⟨_, rfl, ⟨_, _, rfl, hv, false, (show kitB "list" "int" = some false by decide +kernel), _, rfl, iteF q⟩⟩
    | tup h1 h2 => exact ⟨_, rfl, ⟨_, _, rfl, hv, false, (show kitB "tuple" "int" = some false by decide +kernel), _, rfl, iteF q⟩⟩
theorem ok_rowOf {f : Addr} {fd : FuncData} {k : Nat} (F : Fun K "_law_row_of" "_law_row_of" sRowOf f fd) (mi : mg "isinstance" = none) (me : mg "len" = none) (mt : mg "tuple" = none) : FnOk P w K mg base CX0 (k + 1) f fd ["_law_matter", "_law_size"] (spRow K) := by
  refine F.ok scRowOf (fun vs H Q E h => ?_) (fun cdv A outer s H vs Q E hr h => ?_)
  · obtain ⟨v, d, n, rfl, _⟩ := h
    rfl
  · obtain ⟨v, d, n, rfl, hd, q⟩ := h
    refine ⟨_, pss_one (ps_ret (pe_and (pe_callB (cr_isOne "tuple") (by rfl) mi boot_isinstance (pa_cons (pv 0) (pa_cons (pe_bltn (v := .ty "tuple") (by rfl) mt (by decide +kernel) rfl) pa_nil)))
      (pe_one (pe_cmpR op_eq (pe_callB call_len_seq (by rfl) me PySem.boot_len (pa_cons (pv 0) pa_nil)) (pv 1) (nomark _))))), ?_⟩
    have hv := hd
    cases hd with
    | non => exact ⟨_, rfl, ⟨_, _, rfl, hv, false, (show kitB "NoneType" "tuple" = some false by decide +kernel), _, rfl, iteF q⟩⟩
    | bl c => exact ⟨_, rfl, ⟨_, _, rfl, hv, false, (show kitB "bool" "tuple" = some false by decide +kernel), _, rfl, iteF q⟩⟩
    | int c => exact ⟨_, rfl, ⟨_, _, rfl, hv, false, (show kitB "int" "tuple" = some false by decide +kernel), _, rfl, iteF q⟩⟩
    | str c => exact ⟨_, rfl, ⟨_, _, rfl, hv, false, (show kitB "str" "tuple" = some false by decide +kernel), _, rfl, iteF q⟩⟩
    | lst h1 h2 => exact ⟨_, rfl, ⟨_, _, rfl, hv, false, (show kitB "list" "tuple" = some false by decide +kernel), _, rfl, iteF q⟩⟩
    | tup h1 h2 =>
      rename_i a xs ds
      have hl := dps_len h2
      refine ⟨_, rfl, ⟨_, _, rfl, hv, true, (show kitB "tuple" "tuple" = some true by decide +kernel), _, rfl, iteT ⟨_, rfl, a, xs, rfl, .inr h1, _, rfl, rfl, ?_⟩⟩⟩
      have e : isRowD (.tuple ds) n = decide (V.int (xs.length : Int) = V.int (n : Int)) := by
        rw [hl, Bool.eq_iff_iff]
        show decide (ds.length = n) = true ↔ _
        rw [decide_eq_true_eq, decide_eq_true_eq]
        exact ⟨fun z => by rw [z], fun z => by injection z with z; omega⟩
      rw [e] at q
      exact q
theorem ok_whole {f : Addr} {fd : FuncData} {k : Nat} (F : Fun K "_law_whole" "_law_whole" sWhole f fd) (mi : mg "isinstance" = none) (mn : mg "int" = none) (mb : mg "bool" = none) : FnOk P w K mg base CX0 (k + 1) f fd ["_law_matter", "_law_least_so"] (spNum K) := by
  refine F.ok scWhole (fun vs H Q E h => ?_) (fun cdv A outer s H vs Q E hr h => ?_)
  · obtain ⟨v, d, n, rfl, _⟩ := h
    rfl
  · obtain ⟨v, d, k, rfl, hd, q⟩ := h
    refine ⟨_, pss_one (ps_ret (pe_and (pe_callB (cr_isOne "int") (by rfl) mi boot_isinstance (pa_cons (pv 0) (pa_cons (pe_bltn (v := .ty "int") (by rfl) mn (by decide +kernel) rfl) pa_nil)))
      (pe_and (pe_not (pe_callB (cr_isOne "bool") (by rfl) mi boot_isinstance (pa_cons (pv 0) (pa_cons (pe_bltn (v := .ty "bool") (by rfl) mb (by decide +kernel) rfl) pa_nil)))) (pe_one (pe_cmpR op_ge (pv 0) (pv 1) (nomark _)))))), ?_⟩
    have hv := hd
    cases hd with
    | non => exact ⟨_, rfl, ⟨_, _, rfl, hv, false, (show kitB "NoneType" "int" = some false by decide +kernel), _, rfl, iteF q⟩⟩
    | bl c => exact ⟨_, rfl, ⟨_, _, rfl, hv, true, (show kitB "bool" "int" = some true by decide +kernel), _, rfl, iteT ⟨_, rfl, ⟨_, _, rfl, hv, true, (show kitB "bool" "bool" = some true by decide +kernel), _, rfl, _, rfl, iteF q⟩⟩⟩⟩
    | int c => exact ⟨_, rfl, ⟨_, _, rfl, hv, true, (show kitB "int" "int" = some true by decide +kernel), _, rfl, iteT ⟨_, rfl, ⟨_, _, rfl, hv, false, (show kitB "int" "bool" = some false by decide +kernel), _, rfl, _, rfl, iteT ⟨_, rfl, _, rfl, _, _, rfl, rfl, q⟩⟩⟩⟩⟩
    | str c => exact ⟨_, rfl, ⟨_, _, rfl, hv, false, (show kitB "str" "int" = some false by decide +kernel), _, rfl, iteF q⟩⟩
    | lst h1 h2 => exact ⟨_, rfl, ⟨_, _, rfl, hv, false, (show kitB "list" "int" = some false by decide +kernel), _, rfl, iteF q⟩⟩
    | tup h1 h2 => exact ⟨_, rfl, ⟨_, _, rfl, hv, false, (show kitB "tuple" "int" = some false by decide +kernel), _, rfl, iteF q⟩⟩
end
end KV

namespace KV
open PySem PySem.Spec PyProof.Rows L2 RZ
abbrev sLets : Stmt := topS 4
abbrev sIsName : Stmt := topS 5
abbrev sIsWord : Stmt := topS 45
def isLet (c : Nat) : Bool := decide (97 ≤ c) && decide (c ≤ 122)
theorem abcs_all : (List.range 123).all (fun c => decide (c ∈ abcs) == isLet c) = true := by decide +kernel
theorem abcs_top : abcs.all (fun c => decide (c < 123)) = true := by decide +kernel
theorem mem_abcs (c : Nat) : decide (c ∈ abcs) = isLet c := by
  by_cases h : c < 123
  · exact eq_of_beq (List.all_eq_true.mp abcs_all c (List.mem_range.mpr h))
  · have h1 : c ∉ abcs := fun z => h (of_decide_eq_true (List.all_eq_true.mp abcs_top c z))
    rw [decide_eq_false h1]
    unfold isLet
    rw [decide_eq_false (show ¬ c ≤ 122 by omega), Bool.and_false]
/-- a word of small letters, of 1 to m signs -/
def isWordD : PyData → Nat → Bool
  | .str x, m => decide (0 < x.length) && decide (x.length ≤ m) && x.cps.toList.all isLet
  | _, _ => false
/-- a text of small letters, of m signs or more -/
def isLetsD : PyData → Nat → Bool
  | .str x, m => decide (m ≤ x.length) && x.cps.toList.all isLet
  | _, _ => false
def sgS (c : Nat) : Str := ⟨#[c]⟩
theorem lay_sgs : ∀ is : List Nat, (is.all fun c => decide (c < 1114112)) = true → PyData.canLayAll0 ((is.map sgS).map PyData.str) = true
  | [], _ => by simp [PyData.canLayAll0]
  | i :: is, h => by
    rw [List.all_cons, Bool.and_eq_true, decide_eq_true_eq] at h
    have e : PyData.strOk (sgS i) = true := by
      unfold PyData.strOk sgS
      simp only [List.all_toArray, List.all_cons, List.all_nil, Bool.and_true, decide_eq_true_eq]
      omega
    simp only [List.map_cons, PyData.canLayAll0, PyData.canLay0, e, Bool.true_and]
    exact lay_sgs is h.2
theorem depth_strs : ∀ is : List Str, PyData.depthAll (is.map PyData.str) = 0
  | [] => by simp [PyData.depthAll]
  | i :: is => by simp [PyData.depthAll, PyData.depth, depth_strs is]
theorem shaped_sgs {is : List Nat} (h : (is.all fun c => decide (c < 1114112)) = true) : SeqAt.shaped (.list ((is.map sgS).map PyData.str)) = true := by
  show (PyData.canLay0 (.list _) && decide (PyData.depth (.list _) ≤ 64)) = true
  simp only [PyData.canLay0, PyData.depth, lay_sgs is h, depth_strs]
  decide
theorem op_inSK : True := trivial
theorem shaped_nilL : SeqAt.shaped (.list []) = true := by decide +kernel
theorem eqv_nil (is : List Str) : PyData.eqv (.list (is.map PyData.str)) (.list []) = is.isEmpty := by
  cases is <;> simp [PyData.eqv, PyData.eqvAll]
theorem op_notInSK {X : Cx} : OpR X (compareOp .NotIn) rNotInS := op_notInS
section
variable {P : Program} {w : World} {K : PySem.W.Frag} {mg : Str → Option Value} {base : Heap}
def spIsWord (K : PySem.W.Frag) : Sp := fun vs H Q _ => ∃ (v : V) (d : PyData) (m : Nat), vs = [v, .int m] ∧ m ≤ 1000 ∧ Dp K H v d ∧ (∀ x, d = .str x → x.length ≤ 1000 ∧ (x.cps.toList.all fun c => decide (c < 1114112)) = true) ∧ ∀ H', Same H H' → Q (.bl (isWordD d m)) H'
abbrev nIsWord : List Str := ["_law_matter", "_law_most_so", "_law_sign"]
theorem scIsWord : FnScope nIsWord ["_law_matter", "_law_most_so"] (defScope sIsWord) :=
  ⟨rfl, rfl, rfl, by decide +kernel, rfl, by decide +kernel, by decide +kernel⟩
theorem ok_isWord {f : Addr} {fd : FuncData} {k : Nat} (F : Fun K "_law_is_word" "_law_is_word" sIsWord f fd) (mi : mg "isinstance" = none) (me : mg "len" = none) (ms : mg "str" = none) : FnOk P w K mg base CX0 (k + 1) f fd ["_law_matter", "_law_most_so"] (spIsWord K) := by
  refine F.ok scIsWord (fun vs H Q E h => ?_) (fun cdv A outer s H vs Q E hr h => ?_)
  · obtain ⟨v, d, m, rfl, _⟩ := h
    rfl
  · obtain ⟨v, d, m, rfl, hm, hd, hx, q⟩ := h
    refine ⟨_, pss_cons (ps_if (PW.pt (pw_or (pt_not (pt_val (pe_callB (cr_isOne "str") (by rfl) mi boot_isinstance (pa_cons (pv 0) (pa_cons (pe_bltn (v := .ty "str") (by rfl) ms (by decide +kernel) rfl) pa_nil)))))
        (pw_or1 (pt_not (pt_chain op_lt op_le pe_int (pe_callB call_len_str (by rfl) me PySem.boot_len (pa_cons (pv 0) pa_nil)) (pv 1)))))) (pss_one (ps_ret pe_bl)) pss_nil)
      (pss_one (ps_ret (pe_cmpR (op_eqD hr.units) (pe_lc (own := [("_law_sign", 2)]) (g := gName 2) rfl scIsWord.nd (pi_str (pv 0)) (blkOk_by (N := nIsWord) (sc := defScope sIsWord) (by decide +kernel))
          (fun _ _ _ _ _ => pg_name (i := 2) scIsWord.nd rfl (Or.inl rfl)) (fun _ _ _ _ _ => pts_one (pt_cmpR op_notInS (pv 2) pe_str (by rfl))) (fun _ _ _ _ _ => pv 2)) (pe_lst pa_nil) (nomark _)))), ?_⟩
    have hv := hd
    have q0 : isWordD d m = false → Q (.bl false) H := fun e => by
      have := q H fun _ _ z => z
      rw [e] at this
      exact this
    cases hd with
    | non => exact ⟨_, rfl, ⟨_, _, rfl, hv, false, (show kitB "NoneType" "str" = some false by decide +kernel), _, rfl, iteT (iteT (q0 rfl))⟩⟩
    | bl c => exact ⟨_, rfl, ⟨_, _, rfl, hv, false, (show kitB "bool" "str" = some false by decide +kernel), _, rfl, iteT (iteT (q0 rfl))⟩⟩
    | int c => exact ⟨_, rfl, ⟨_, _, rfl, hv, false, (show kitB "int" "str" = some false by decide +kernel), _, rfl, iteT (iteT (q0 rfl))⟩⟩
    | lst h1 h2 => exact ⟨_, rfl, ⟨_, _, rfl, hv, false, (show kitB "list" "str" = some false by decide +kernel), _, rfl, iteT (iteT (q0 rfl))⟩⟩
    | tup h1 h2 => exact ⟨_, rfl, ⟨_, _, rfl, hv, false, (show kitB "tuple" "str" = some false by decide +kernel), _, rfl, iteT (iteT (q0 rfl))⟩⟩
    | str x =>
      obtain ⟨lx, cx⟩ := hx x rfl
      refine ⟨_, rfl, ⟨_, _, rfl, hv, true, (show kitB "str" "str" = some true by decide +kernel), _, rfl, iteF ?_⟩⟩
      refine ⟨_, rfl, x, rfl, Nat.le_of_lt (small1000 lx), _, _, rfl, rfl, _, rfl, ite2 (fun e1 => ?_) (fun e1 => ?_)⟩
      · refine ⟨_, rfl, _, _, rfl, rfl, _, rfl, ite2 (fun e2 => ?_) (fun e2 => ?_)⟩
        · refine q0 ?_
          have z : ¬ x.length ≤ m := fun z => by
            rw [decide_eq_true (show (x.length : Int) ≤ (m : Int) by omega)] at e2
            exact nomatch e2
          show (decide (0 < x.length) && decide (x.length ≤ m) && x.cps.toList.all isLet) = false
          rw [decide_eq_false z, Bool.and_false, Bool.false_and]
        · have z : x.length ≤ m := Classical.byContradiction fun z => e2 (by rw [decide_eq_false (show ¬ (x.length : Int) ≤ (m : Int) by omega)]; rfl)
          have z0 : 0 < x.length := by
            have := of_decide_eq_true e1
            omega
          have ed : isWordD (.str x) m = x.cps.toList.all isLet := by
            show (decide (0 < x.length) && decide (x.length ≤ m) && x.cps.toList.all isLet) = _
            rw [decide_eq_true z, decide_eq_true z0]
            rfl
          refine ⟨_, rfl, x, rfl, fun D nD => lc_it (walk_str (z := x)) (fun j H3 => SameX [D] H H3 ∧ H3 D = some (.lst ((((x.cps.toList.take j).filter fun c => !isLet c).map sgS).map V.str))) ⟨sameX_upd List.mem_cons_self, upd_same⟩ (fun _ _ _ _ => trivial) ?_ ?_⟩
          · rintro j v H3 H3' hj ⟨s3, hD⟩ ⟨rfl, c, hc, rfl⟩
            have hc2 : x.cps.toList[j]? = some c := by
              rw [← hc]
              exact Array.getElem?_toList
            refine ⟨rfl, _, rfl, c, _, rfl, rfl, _, rfl, ?_⟩
            rw [show decide (c ∈ (Str.ofString "abcdefghijklmnopqrstuvwxyz").cps.toList) = isLet c from mem_abcs c]
            have ef : (x.cps.toList.take (j + 1)).filter (fun c => !isLet c) = (x.cps.toList.take j).filter (fun c => !isLet c) ++ (if (!isLet c) = true then [c] else []) := by
              rw [take_snoc hc2, List.filter_append, List.filter_cons, List.filter_nil]
            cases hk : (!isLet c) with
            | true =>
              rw [hk] at ef
              refine iteT ⟨_, rfl, _, hD, small1000 ?_, s3.trans (sameX_upd List.mem_cons_self), ?_⟩
              · rw [List.length_map, List.length_map]
                have h1 := List.length_filter_le (fun c => !isLet c) (x.cps.toList.take j)
                rw [List.length_take, sgn_len] at h1
                omega
              · rw [upd_same, ef, List.map_append, List.map_append]
                rfl
            | false =>
              rw [hk] at ef
              refine iteF ⟨s3, ?_⟩
              rw [hD, ef]
              exact congrArg _ (congrArg _ (by simp))
          · rintro H3 ⟨s3, hD⟩
            have eT : x.cps.toList.take x.cps.size = x.cps.toList := List.take_of_length_le (by rw [Array.length_toList]; exact Nat.le_refl _)
            rw [eT] at hD
            have s0 : Same H H3 := fun c o e => s3 c o (fun y => ne_of_none e nD (List.mem_singleton.mp y)) e
            have call : ((x.cps.toList.filter fun c => !isLet c).all fun c => decide (c < 1114112)) = true := by
              rw [List.all_eq_true] at cx ⊢
              exact fun c hc => cx c (List.mem_filter.mp hc).1
            refine ⟨by show 0 ≤ sizeLine; decide, fun t nt => ⟨_, .list [], .lst (SqL.of (same_upd nt _ _ hD)) (dps_strs _), .lst (SqL.of upd_same) .nil, shaped_sgs call, shaped_nilL, ?_⟩⟩
            rw [eqv_nil]
            have ee : (((x.cps.toList.filter fun c => !isLet c).map sgS)).isEmpty = x.cps.toList.all isLet := by
              rw [Bool.eq_iff_iff, List.isEmpty_iff, List.map_eq_nil_iff, List.filter_eq_nil_iff, List.all_eq_true]
              exact ⟨fun h c hc => by simpa using h c hc, fun h c hc => by simpa using h c hc⟩
            rw [ee, ← ed]
            exact q _ (s0.trans (same_upd nt))
      · refine ⟨_, rfl, iteT (q0 ?_)⟩
        have z : ¬ 0 < x.length := fun z => e1 (decide_eq_true (by omega))
        show (decide (0 < x.length) && decide (x.length ≤ m) && x.cps.toList.all isLet) = false
        rw [decide_eq_false z, Bool.false_and, Bool.false_and]
/-! ### is_letters, is_name -/
def spLets (K : PySem.W.Frag) : Sp := fun vs H Q _ => ∃ (v : V) (d : PyData) (m : Nat), vs = [v, .int m] ∧ Dp K H v d ∧ (∀ x, d = .str x → x.length ≤ 1000) ∧ ∀ H', Same H H' → Q (.bl (isLetsD d m)) H'
abbrev nLets : List Str := ["thing", "least", "letter"]
theorem scLets : FnScope nLets ["thing", "least"] (defScope sLets) :=
  ⟨rfl, rfl, rfl, by decide +kernel, rfl, by decide +kernel, by decide +kernel⟩
theorem ok_lets {f : Addr} {fd : FuncData} {k : Nat} {tk : Tok} (F : Fun K "is_letters" "is_letters" sLets f fd) (mi : mg "isinstance" = none) (me : mg "len" = none) (ms : mg "str" = none) (ma : mg "all" = none) (mL : mg "LETTERS" = some (.str "abcdefghijklmnopqrstuvwxyz" tk)) : FnOk P w K mg base CX0 (k + 1) f fd ["thing", "least"] (spLets K) := by
  refine F.ok scLets (fun vs H Q E h => ?_) (fun cdv A outer s H vs Q E hr h => ?_)
  · obtain ⟨v, d, m, rfl, _⟩ := h
    rfl
  · obtain ⟨v, d, m, rfl, hd, hx, q⟩ := h
    refine ⟨_, pss_one (ps_ret (pe_and (pe_callB (cr_isOne "str") (by rfl) mi boot_isinstance (pa_cons (pv 0) (pa_cons (pe_bltn (v := .ty "str") (by rfl) ms (by decide +kernel) rfl) pa_nil)))
      (pe_and (pe_cmpR op_ge (pe_callB call_len_str (by rfl) me PySem.boot_len (pa_cons (pv 0) pa_nil)) (pv 1) (nomark _))
      (pe_one (pe_callB (cr_all rfl) (by rfl) ma boot_all (pa_cons
        (pe_lc (own := [("letter", 2)]) (g := gName 2) (tt := tYes) rfl scLets.nd (pi_str (pv 0)) (blkOk_by (N := nLets) (sc := defScope sLets) (by decide +kernel))
          (fun _ _ _ _ _ => pg_name (i := 2) scLets.nd rfl (Or.inl rfl)) (fun _ _ _ _ _ => pts_nil) (fun _ _ _ _ _ => pe_cmpR op_inS (pv 2) (pe_glob (v := .str "abcdefghijklmnopqrstuvwxyz") (by rfl) mL ⟨_, rfl⟩) (by rfl))) pa_nil)))))), ?_⟩
    have hv := hd
    have q0 : isLetsD d m = false → Q (.bl false) H := fun e => by
      have := q H fun _ _ z => z
      rw [e] at this
      exact this
    cases hd with
    | non => exact ⟨_, rfl, ⟨_, _, rfl, hv, false, (show kitB "NoneType" "str" = some false by decide +kernel), _, rfl, iteF (q0 rfl)⟩⟩
    | bl c => exact ⟨_, rfl, ⟨_, _, rfl, hv, false, (show kitB "bool" "str" = some false by decide +kernel), _, rfl, iteF (q0 rfl)⟩⟩
    | int c => exact ⟨_, rfl, ⟨_, _, rfl, hv, false, (show kitB "int" "str" = some false by decide +kernel), _, rfl, iteF (q0 rfl)⟩⟩
    | lst h1 h2 => exact ⟨_, rfl, ⟨_, _, rfl, hv, false, (show kitB "list" "str" = some false by decide +kernel), _, rfl, iteF (q0 rfl)⟩⟩
    | tup h1 h2 => exact ⟨_, rfl, ⟨_, _, rfl, hv, false, (show kitB "tuple" "str" = some false by decide +kernel), _, rfl, iteF (q0 rfl)⟩⟩
    | str x =>
      have lx := hx x rfl
      refine ⟨_, rfl, ⟨_, _, rfl, hv, true, (show kitB "str" "str" = some true by decide +kernel), _, rfl, iteT ?_⟩⟩
      refine ⟨_, rfl, x, rfl, Nat.le_of_lt (small1000 lx), _, rfl, _, _, rfl, rfl, _, rfl, ite2 (fun e1 => ?_) (fun e1 => ?_)⟩
      · have z : m ≤ x.length := by
          have := of_decide_eq_true e1
          omega
        have ed : isLetsD (.str x) m = x.cps.toList.all isLet := by
          show (decide (m ≤ x.length) && x.cps.toList.all isLet) = _
          rw [decide_eq_true z]
          rfl
        refine ⟨_, rfl, x, rfl, fun D nD => lc_it (walk_str (z := x)) (fun j H3 => SameX [D] H H3 ∧ H3 D = some (.lst (((x.cps.toList.take j).map isLet).map V.bl))) ⟨sameX_upd List.mem_cons_self, upd_same⟩ (fun _ _ _ _ => trivial) ?_ ?_⟩
        · rintro j v H3 H3' hj ⟨s3, hD⟩ ⟨rfl, c, hc, rfl⟩
          have hc2 : x.cps.toList[j]? = some c := by
            rw [← hc]
            exact Array.getElem?_toList
          refine ⟨rfl, tYes_ok ⟨_, rfl, c, _, rfl, rfl, _, hD, small1000 ?_, s3.trans (sameX_upd List.mem_cons_self), ?_⟩⟩
          · rw [List.length_map, List.length_map, List.length_take, sgn_len]
            omega
          · rw [upd_same, take_snoc hc2, List.map_append, List.map_append]
            show some (HO.lst (_ ++ [V.bl (decide (c ∈ (Str.ofString "abcdefghijklmnopqrstuvwxyz").cps.toList))])) = _
            rw [show decide (c ∈ (Str.ofString "abcdefghijklmnopqrstuvwxyz").cps.toList) = isLet c from mem_abcs c]
            rfl
        · rintro H3 ⟨s3, hD⟩
          have eT : x.cps.toList.take x.cps.size = x.cps.toList := List.take_of_length_le (by rw [Array.length_toList]; exact Nat.le_refl _)
          rw [eT] at hD
          refine ⟨D, _, rfl, SqL.of hD, ?_⟩
          have ea : (x.cps.toList.map isLet).all id = isLetsD (.str x) m := by
            rw [ed, List.all_map]
            rfl
          rw [ea]
          exact q _ fun c o e => s3 c o (fun y => ne_of_none e nD (List.mem_singleton.mp y)) e
      · refine q0 ?_
        have z : ¬ m ≤ x.length := fun z => e1 (decide_eq_true (by omega))
        show (decide (m ≤ x.length) && x.cps.toList.all isLet) = false
        rw [decide_eq_false z, Bool.false_and]
end
end KV

namespace KV
open PySem PySem.Spec PyProof.Rows L2 RZ
abbrev sAsc : Stmt := topS 8
abbrev sAreNames : Stmt := topS 9
/-- what ascends finds, pair by pair -/
def adjS : List Str → List Bool
  | [] => []
  | [_] => []
  | a :: b :: r => decide (ltS a b) :: adjS (b :: r)
theorem adj_asc : ∀ l : List Str, (adjS l).all id = ascS l
  | [] => rfl
  | [_] => rfl
  | a :: b :: r => by
    show (decide (ltS a b) && (adjS (b :: r)).all id) = (decide (ltS a b) && ascS (b :: r))
    rw [adj_asc (b :: r)]
theorem adj_len : ∀ l : List Str, (adjS l).length = l.length - 1
  | [] => rfl
  | [_] => rfl
  | a :: b :: r => by
    show (adjS (b :: r)).length + 1 = (r.length + 1 + 1) - 1
    rw [adj_len (b :: r)]
    rfl
theorem adj_get : ∀ (l : List Str) (j : Nat) (x y : Str), l[j]? = some x → l[j + 1]? = some y → (adjS l)[j]? = some (decide (ltS x y))
  | [], _, _, _, h, _ => by cases h
  | [_], 0, _, _, _, h => by cases h
  | [_], j + 1, _, _, h, _ => by cases h
  | a :: b :: r, 0, x, y, h1, h2 => by
    cases h1
    cases h2
    rfl
  | a :: b :: r, j + 1, x, y, h1, h2 => adj_get (b :: r) j x y h1 h2
theorem lc_asc {K : PySem.W.Frag} {J : It} {G : Hp → Prop} {ss : List Str} {n : Nat} (w : Walk J n G (YPair (fun i => (ss.map V.str)[i]?) (fun i => ((ss.drop 1).map V.str)[i]?))) (hn : n = ss.length - 1) (hz : ss.length ≤ 1000) {σ : L2.St} {vs : List Nat} {te : TE} {H1 : Hp} {D : Addr} {Qd : Hp → Prop}
    (nD : H1 D = none) (hG : ∀ H, Same H1 H → G H) (hw : ∀ x y : V, wipe (((wipe σ vs).set 1 (some x)).set 2 (some y)) vs = wipe σ vs)
    (step : ∀ (x y : Str) (H : Hp) (Q : VK), Q (.bl (decide (ltS x y))) H → te (((wipe σ vs).set 1 (some (.str x))).set 2 (some (.str y))) H Q)
    (hd : ∀ H, SameX [D] H1 H → H D = some (.lst ((adjS ss).map V.bl)) → Qd H) :
    ∃ W : Nat → Nat → Hp → Prop, (∃ m, W 0 m (upd H1 D (.lst []))) ∧ ∀ i' m H, W i' m H →
      (J.stop i' H ∧ Qd H) ∨ (J.go i' H ∧ ∃ Nx : Hp → Prop, (∀ H', Nx H' → ∃ m', m' < m ∧ W (i' + 1) m' H') ∧ ∀ x H', J.yld i' H x H' → gTup K 2 (gCons (gName 1) (gCons (gName 2) gNil)) x (wipe σ vs) H' fun σ2 H2 => wipe σ2 vs = wipe σ vs ∧ tYes σ2 H2 fun b H3 =>
        if b = true then te σ2 H3 fun y H4 => ∃ acc, H4 D = some (.lst acc) ∧ acc.length < sizeLine ∧ Nx (upd H4 D (.lst (acc ++ [y]))) else Nx H3) := by
  have base : ∀ {H : Hp}, SameX [D] H1 H → Same H1 H := fun {H} h c o e => h c o (fun z => ne_of_none e nD (List.mem_singleton.mp z)) e
  refine lc_it w (fun j H => SameX [D] H1 H ∧ H D = some (.lst (((adjS ss).take j).map V.bl))) ⟨sameX_upd List.mem_cons_self, upd_same⟩ (fun j H _ h => hG H (base h.1)) ?_ (fun H h => ?_)
  · rintro j v H H' hj ⟨hs, hD⟩ ⟨T, x, y, rfl, nT, rfl, ex, ey⟩
    have ex : (ss.map V.str)[j]? = some x := ex
    have ey : ((ss.drop 1).map V.str)[j]? = some y := ey
    rw [List.getElem?_map] at ex ey
    obtain ⟨x, ex2, rfl⟩ := Option.map_eq_some_iff.mp ex
    obtain ⟨y, ey2, rfl⟩ := Option.map_eq_some_iff.mp ey
    rw [List.getElem?_drop, Nat.add_comm] at ey2
    have ea := adj_get ss j x y ex2 ey2
    have hD2 : (upd H T (.tup [.str x, .str y])) D = some (.lst (((adjS ss).take j).map V.bl)) := same_upd nT _ _ hD
    refine ⟨T, [.str x, .str y], rfl, SqT.of upd_same, rfl, .str x, [.str y], rfl, .str y, [], rfl, rfl, hw _ _, tYes_ok (step x y _ _ ⟨_, hD2, ?_, ?_, ?_⟩)⟩
    · rw [List.length_map, List.length_take, adj_len]
      exact small1000 (by omega)
    · exact hs.trans ((SameX.of (same_upd nT)).trans (sameX_upd List.mem_cons_self))
    · rw [upd_same, take_snoc ea, List.map_append]
      rfl
  · refine hd H h.1 ?_
    rw [h.2, hn, ← adj_len, List.take_length]
section
variable {P : Program} {w : World} {K : PySem.W.Frag} {mg : Str → Option Value} {base : Heap}
/-! ### is_name -/
def spIsName (K : PySem.W.Frag) : Sp := fun vs H Q _ => ∃ (v : V) (d : PyData), vs = [v] ∧ Dp K H v d ∧ (∀ x, d = .str x → x.length ≤ 1000) ∧ ∀ H', Same H H' → Q (.bl (isWordD d 8)) H'
theorem scIsName : FnScope ["thing"] ["thing"] (defScope sIsName) :=
  ⟨rfl, rfl, rfl, by decide +kernel, rfl, by decide +kernel, by decide +kernel⟩
theorem ok_isName {f fL : Addr} {fd fdL : FuncData} {k : Nat} (F : Fun K "is_name" "is_name" sIsName f fd) (FL : Fun K "is_letters" "is_letters" sLets fL fdL) (bL : Binds K fdL ["thing", "least"] []) (mL : mg "is_letters" = some (.ref fL))
    (GL : FnOk P w K mg base CX0 (k + 1) fL fdL ["thing", "least"] (spLets K)) (me : mg "len" = none) : FnOk P w K mg base CX0 (k + 2) f fd ["thing"] (spIsName K) := by
  refine F.ok scIsName (fun vs H Q E h => ?_) (fun cdv A outer s H vs Q E hr h => ?_)
  · obtain ⟨v, d, rfl, _⟩ := h
    rfl
  · obtain ⟨v, d, rfl, hd, hx, q⟩ := h
    refine ⟨_, pss_one (ps_ret (pe_and (pe_call GL hr (by rfl) mL FL.kp bL .nil pass0 (pa_cons (pv 0) (pa_cons pe_int pa_nil)))
      (pe_one (pe_cmpR op_le (pe_callB call_len_str (by rfl) me PySem.boot_len (pa_cons (pv 0) pa_nil)) pe_int (nomark _))))), ?_⟩
    refine ⟨_, rfl, v, d, 1, rfl, hd, hx, fun H1 s1 => ⟨_, rfl, ?_⟩⟩
    cases he : isLetsD d 1 with
    | false =>
      refine iteF ?_
      have e : isWordD d 8 = false := by
        cases d with
        | str x =>
          have z : (decide (1 ≤ x.length) && x.cps.toList.all isLet) = false := he
          show (decide (0 < x.length) && decide (x.length ≤ 8) && x.cps.toList.all isLet) = false
          rw [Bool.and_assoc, Bool.and_comm (decide (x.length ≤ 8)), ← Bool.and_assoc]
          have e0 : decide (0 < x.length) = decide (1 ≤ x.length) := rfl
          rw [e0, z]
          rfl
        | _ => rfl
      rw [e] at q
      exact q _ s1
    | true =>
      refine iteT ?_
      cases d with
      | str x =>
        have hv := dp_same s1 hd
        cases hv
        have z : (decide (1 ≤ x.length) && x.cps.toList.all isLet) = true := he
        rw [Bool.and_eq_true] at z
        have lx := hx x rfl
        refine ⟨_, rfl, x, rfl, Nat.le_of_lt (small1000 lx), _, _, rfl, rfl, ?_⟩
        have e : isWordD (.str x) 8 = decide ((x.length : Int) ≤ 8) := by
          show (decide (0 < x.length) && decide (x.length ≤ 8) && x.cps.toList.all isLet) = _
          have e0 : decide (0 < x.length) = decide (1 ≤ x.length) := rfl
          rw [e0, z.1, z.2, Bool.true_and, Bool.and_true, Bool.eq_iff_iff, decide_eq_true_eq, decide_eq_true_eq]
          omega
        have q1 := q _ s1
        rw [e] at q1
        exact q1
      | none => exact nomatch he
      | bool b => exact nomatch he
      | int i => exact nomatch he
      | list xs => exact nomatch he
      | tuple xs => exact nomatch he
      | dict xs => exact nomatch he
/-! ### ascends, of texts -/
def spAsc (K : PySem.W.Frag) : Sp := fun vs H Q _ => ∃ (a : Addr) (xs : List Str), vs = [.ref a] ∧ SqT K H a (xs.map V.str) ∧ xs.length ≤ 1000 ∧ ∀ H', Same H H' → Q (.bl (ascS xs)) H'
abbrev nAsc : List Str := ["names", "one", "other"]
theorem scAsc : FnScope nAsc ["names"] (defScope sAsc) :=
  ⟨rfl, rfl, rfl, by decide +kernel, rfl, by decide +kernel, by decide +kernel⟩
theorem ok_asc {f : Addr} {fd : FuncData} {k : Nat} (F : Fun K "ascends" "ascends" sAsc f fd) (ma : mg "all" = none) (mz : mg "zip" = none) : FnOk P w K mg base CX0 (k + 1) f fd ["names"] (spAsc K) := by
  refine F.ok scAsc (fun vs H Q E h => ?_) (fun cdv A outer s H vs Q E hr h => ?_)
  · obtain ⟨a, xs, rfl, _⟩ := h
    rfl
  · obtain ⟨a, xs, rfl, hS, hz, q⟩ := h
    refine ⟨_, pss_one (ps_ret (pe_callB (cr_all rfl) (by rfl) ma boot_all (pa_cons
      (pe_lc (own := [("one", 1), ("other", 2)]) (g := gTup K 2 (gCons (gName 1) (gCons (gName 2) gNil))) (tt := tYes) rfl scAsc.nd (pi_zipA (by rfl) mz (pa_cons (pv 0) (pa_cons (pe_slice sl_tupA (pv 0) (po_some pe_int) po_none) pa_nil)))
        (blkOk_by (N := nAsc) (sc := defScope sAsc) (by decide +kernel))
        (fun _ _ _ _ _ => pg_tup rfl (pgs_cons (pg_name (i := 1) scAsc.nd rfl (.inl rfl)) (pgs_cons (pg_name (i := 2) scAsc.nd rfl (.inl rfl)) pgs_nil))) (fun _ _ _ _ _ => pts_nil)
        (fun _ _ _ _ _ => pe_cmpR op_lt_str (pv 1) (pv 2) (nomark _))) pa_nil))), ?_⟩
    have fin : ∀ H1, Same H H1 → ∀ H2 D, SameX [D] H1 H2 → H1 D = none → H2 D = some (.lst ((adjS xs).map V.bl)) → rAll K [.ref D] H2 Q := by
      intro H1 s1 H2 D s2 nD hD
      refine ⟨D, _, rfl, SqL.of hD, ?_⟩
      rw [adj_asc]
      exact q _ (s1.trans fun c o e => s2 c o (fun y => ne_of_none e nD (List.mem_singleton.mp y)) e)
    have ex : cutV (xs.map V.str) (some (1 : Int)) none = (xs.drop 1).map V.str := by
      unfold cutV
      have e1 : HT.sIx (xs.map V.str).length 0 (some (1 : Int)) = min 1 (xs.map V.str).length := HT.sIx_nat _ _ 1
      rw [e1, HT.sIx_none, List.length_map, List.map_drop]
      by_cases h : 1 ≤ xs.length
      · rw [Nat.min_eq_left h, List.take_of_length_le (by rw [List.length_drop, List.length_map]; exact Nat.le_refl _)]
      · have h0 : xs = [] := List.eq_nil_of_length_eq_zero (by omega)
        subst h0
        rfl
    refine ⟨_, rfl, _, rfl, _, rfl, a, _, rfl, hS, fun e0 => ?_, fun _ p np => ?_⟩
    · have h0 : xs = [] := by
        have e1 : HT.sIx (xs.map V.str).length 0 (some (1 : Int)) = min 1 (xs.map V.str).length := HT.sIx_nat _ _ 1
        rw [e1, List.length_map] at e0
        exact List.eq_nil_of_length_eq_zero (by omega)
      subst h0
      exact ⟨a, a, _, _, rfl, .inr ⟨hS, hS, fun D nD => lc_asc (K := K) (ss := []) (walk_zipT (n := 0) rfl) rfl (by decide) nD (fun H2 s2 => ⟨same_seqT s2 hS, same_seqT s2 hS⟩) (fun _ _ => rfl) (fun x y H2 Q2 k2 => ⟨_, rfl, _, rfl, x, y, rfl, rfl, k2⟩) fun H2 s2 hD2 => fin H (fun _ _ z => z) H2 D s2 nD hD2⟩⟩
    · rw [ex]
      have sp : Same H (upd H p (.tup ((xs.drop 1).map V.str))) := same_upd np
      exact ⟨a, p, _, _, rfl, .inr ⟨same_seqT sp hS, SqT.of upd_same, fun D nD => lc_asc (K := K) (ss := xs) (walk_zipT (n := xs.length - 1) (by rw [List.length_map, List.length_map, List.length_drop]; omega)) rfl hz nD (fun H2 s2 => ⟨same_seqT (sp.trans s2) hS, same_seqT s2 (SqT.of upd_same)⟩) (fun _ _ => rfl) (fun x y H2 Q2 k2 => ⟨_, rfl, _, rfl, x, y, rfl, rfl, k2⟩) fun H2 s2 hD2 => fin _ sp H2 D s2 nD hD2⟩⟩
end
end KV

namespace KV
open PySem PySem.Spec PyProof.Rows L2 RZ
/-- a comprehension of flags over a sequence of data -/
theorem lc_flags {K : PySem.W.Frag} {J : It} {G : Hp → Prop} {xs : List V} (w : Walk J xs.length G (YAt xs)) {ds : List PyData} {σ : L2.St} {i : Nat} {te : TE} {H1 : Hp} {D : Addr} {Qd : Hp → Prop}
    (hx : DpAll K H1 xs ds) (nD : H1 D = none) (hz : xs.length ≤ 1000) (hG : ∀ H, Same H1 H → G H) (Pf : PyData → Bool)
    (step : ∀ (j : Nat) (x : V) (d : PyData) (H : Hp) (Q : VK), ds[j]? = some d → Same H1 H → Dp K H x d → (∀ H', Same H H' → Q (.bl (Pf d)) H') → te ((wipe σ [i]).set i (some x)) H Q)
    (hd : ∀ H, Same H1 H → H D = some (.lst ((ds.map Pf).map V.bl)) → Qd H) :
    ∃ W : Nat → Nat → Hp → Prop, (∃ m, W 0 m (upd H1 D (.lst []))) ∧ ∀ i' m H, W i' m H →
      (J.stop i' H ∧ Qd H) ∨ (J.go i' H ∧ ∃ Nx : Hp → Prop, (∀ H', Nx H' → ∃ m', m' < m ∧ W (i' + 1) m' H') ∧ ∀ x H', J.yld i' H x H' → gName i x (wipe σ [i]) H' fun σ2 H2 => wipe σ2 [i] = wipe σ [i] ∧ tYes σ2 H2 fun b H3 =>
        if b = true then te σ2 H3 fun y H4 => ∃ acc, H4 D = some (.lst acc) ∧ acc.length < sizeLine ∧ Nx (upd H4 D (.lst (acc ++ [y]))) else Nx H3) := by
  have old : ∀ {H : Hp}, SameX [D] H1 H → Same H1 H := fun {H} h c o e => h c o (fun z => ne_of_none e nD (List.mem_singleton.mp z)) e
  have hl := dps_len hx
  refine lc_it w (fun j H => SameX [D] H1 H ∧ H D = some (.lst (((ds.take j).map Pf).map V.bl))) ⟨sameX_upd List.mem_cons_self, upd_same⟩ (fun j H _ h => hG H (old h.1)) ?_ (fun H h => ?_)
  · rintro j x H H' hj ⟨hs, hD⟩ ⟨rfl, hx1⟩
    obtain ⟨d, hd1, hdp⟩ := dps_get hx hx1
    refine ⟨?_, tYes_ok (step j x d _ _ hd1 (old hs) (dp_same (old hs) hdp) fun H4 s4 => ⟨_, s4 _ _ hD, ?_, ?_, ?_⟩)⟩
    · show ((((σ.set i none)).set i (some x)).set i none) = σ.set i none
      rw [List.set_set, List.set_set]
    · rw [List.length_map, List.length_map, List.length_take]
      exact small1000 (by omega)
    · exact hs.trans ((SameX.of s4).trans (sameX_upd List.mem_cons_self))
    · rw [upd_same, take_snoc hd1, List.map_append, List.map_append]
      rfl
  · refine hd H (old h.1) ?_
    rw [h.2, hl, List.take_length]
def strOfD : PyData → Str
  | .str x => x
  | _ => Str.empty
/-- a tuple of names, each below the next -/
def areNamesD : PyData → Bool
  | .tuple ds => ds.all (fun e => isWordD e 8) && ascS (ds.map strOfD)
  | _ => false
theorem words_back {ds : List PyData} (h : ds.all (fun e => isWordD e 8) = true) : ds = (ds.map strOfD).map PyData.str := by
  induction ds with
  | nil => rfl
  | cons d ds ih =>
    rw [List.all_cons, Bool.and_eq_true] at h
    rw [List.map_cons, List.map_cons, ← ih h.2]
    cases d with
    | str x => rfl
    | _ => exact nomatch h.1
theorem dps_strV {K : PySem.W.Frag} {H : Hp} : ∀ {xs : List V} {ss : List Str}, DpAll K H xs (ss.map PyData.str) → xs = ss.map V.str
  | _, [], h => by
    cases h
    rfl
  | _, s :: ss, h => by
    cases h with
    | cons h1 h2 =>
      cases h1
      rw [dps_strV h2]
      rfl
section
variable {P : Program} {w : World} {K : PySem.W.Frag} {mg : Str → Option Value} {base : Heap}
/-! ### are_names -/
def spAre (K : PySem.W.Frag) : Sp := fun vs H Q _ => ∃ (v : V) (d : PyData) (L n : Nat), vs = [v] ∧ Dp K H v d ∧ gD lf2 L d n = true ∧ L ≤ 100 ∧ ∀ H', Same H H' → Q (.bl (areNamesD d)) H'
abbrev nAre : List Str := ["thing", "name"]
theorem scAre : FnScope nAre ["thing"] (defScope sAreNames) :=
  ⟨rfl, rfl, rfl, by decide +kernel, rfl, by decide +kernel, by decide +kernel⟩
theorem str_fine {L n : Nat} {x : Str} (h : gD lf2 L (.str x) n = true) : x.length ≤ 1000 ∧ (x.cps.toList.all fun c => decide (c < 1114112)) = true := by
  have h1 : (decide (x.length ≤ 60) && x.cps.toList.all fun c => decide (c < 1114112)) = true := by simp only [gD] at h; exact h
  rw [Bool.and_eq_true, decide_eq_true_eq] at h1
  exact ⟨by omega, h1.2⟩
theorem ok_are {f fN fA : Addr} {fd fdN fdA : FuncData} {k : Nat} (F : Fun K "are_names" "are_names" sAreNames f fd)
    (FN : Fun K "is_name" "is_name" sIsName fN fdN) (bN : Binds K fdN ["thing"] []) (mN : mg "is_name" = some (.ref fN)) (GN : FnOk P w K mg base CX0 (k + 2) fN fdN ["thing"] (spIsName K))
    (FA : Fun K "ascends" "ascends" sAsc fA fdA) (bA : Binds K fdA ["names"] []) (mA : mg "ascends" = some (.ref fA)) (GA : FnOk P w K mg base CX0 (k + 2) fA fdA ["names"] (spAsc K))
    (mi : mg "isinstance" = none) (mt : mg "tuple" = none) (ma : mg "all" = none) : FnOk P w K mg base CX0 (k + 3) f fd ["thing"] (spAre K) := by
  refine F.ok scAre (fun vs H Q E h => ?_) (fun cdv A outer s H vs Q E hr h => ?_)
  · obtain ⟨v, d, L, n, rfl, _⟩ := h
    rfl
  · obtain ⟨v, d, L, n, rfl, hd, hg, hL, q⟩ := h
    refine ⟨_, pss_one (ps_ret (pe_and (pe_callB (cr_isOne "tuple") (by rfl) mi boot_isinstance (pa_cons (pv 0) (pa_cons (pe_bltn (v := .ty "tuple") (by rfl) mt (by decide +kernel) rfl) pa_nil)))
      (pe_and (pe_callB (cr_all rfl) (by rfl) ma boot_all (pa_cons
        (pe_lc (own := [("name", 1)]) (g := gName 1) (tt := tYes) rfl scAre.nd (pi_tup (pv 0)) (blkOk_by (N := nAre) (sc := defScope sAreNames) (by decide +kernel))
          (fun _ _ _ _ _ => pg_name (i := 1) scAre.nd rfl (Or.inl rfl)) (fun _ _ _ _ _ => pts_nil) (fun _ _ _ _ _ => pe_call GN hr (by rfl) mN FN.kp bN .nil pass0 (pa_cons (pv 1) pa_nil))) pa_nil))
        (pe_one (pe_call GA hr (by rfl) mA FA.kp bA .nil pass0 (pa_cons (pv 0) pa_nil)))))), ?_⟩
    have hv := hd
    have q0 : areNamesD d = false → Q (.bl false) H := fun e => by
      have := q H fun _ _ z => z
      rw [e] at this
      exact this
    cases hd with
    | non => exact ⟨_, rfl, ⟨_, _, rfl, hv, false, (show kitB "NoneType" "tuple" = some false by decide +kernel), _, rfl, iteF (q0 rfl)⟩⟩
    | bl c => exact ⟨_, rfl, ⟨_, _, rfl, hv, false, (show kitB "bool" "tuple" = some false by decide +kernel), _, rfl, iteF (q0 rfl)⟩⟩
    | int c => exact ⟨_, rfl, ⟨_, _, rfl, hv, false, (show kitB "int" "tuple" = some false by decide +kernel), _, rfl, iteF (q0 rfl)⟩⟩
    | str c => exact ⟨_, rfl, ⟨_, _, rfl, hv, false, (show kitB "str" "tuple" = some false by decide +kernel), _, rfl, iteF (q0 rfl)⟩⟩
    | lst h1 h2 => exact ⟨_, rfl, ⟨_, _, rfl, hv, false, (show kitB "list" "tuple" = some false by decide +kernel), _, rfl, iteF (q0 rfl)⟩⟩
    | tup h1 h2 =>
      rename_i a xs ds
      have hl := dps_len h2
      obtain ⟨n0, _, hlen, hgs⟩ := gD_seq (.inr rfl) hg
      refine ⟨_, rfl, ⟨_, _, rfl, hv, true, (show kitB "tuple" "tuple" = some true by decide +kernel), _, rfl, iteT ?_⟩⟩
      refine ⟨_, rfl, a, rfl, ⟨xs, h1⟩, fun D nD => lc_flags (K := K) (walk_tup (xs := xs)) h2 nD (by omega) (fun H2 s2 => same_seqT s2 h1) (fun e => isWordD e 8)
        (fun j x e H2 Q2 he s2 dx k2 => ⟨_, rfl, x, e, rfl, dx, fun z ez => (str_fine (n := n0) (L := L) (by rw [← ez]; exact okGet hgs (List.mem_of_getElem? he))).1, k2⟩) fun H2 s2 hD2 => ⟨D, _, rfl, SqL.of hD2, ?_⟩⟩
      rw [List.all_map]
      refine ⟨_, rfl, ?_⟩
      have eall : ds.all (id ∘ fun e => isWordD e 8) = ds.all fun e => isWordD e 8 := rfl
      rw [eall]
      cases he : ds.all fun e => isWordD e 8 with
      | false =>
        refine iteF ?_
        have e : areNamesD (.tuple ds) = false := by
          show (ds.all (fun e => isWordD e 8) && ascS (ds.map strOfD)) = false
          rw [he]
          rfl
        have q1 := q _ s2
        rw [e] at q1
        exact q1
      | true =>
        refine iteT ?_
        have eb := words_back he
        rw [eb] at h2
        have ev := dps_strV h2
        have e : areNamesD (.tuple ds) = ascS (ds.map strOfD) := by
          show (ds.all (fun e => isWordD e 8) && ascS (ds.map strOfD)) = _
          rw [he]
          rfl
        refine ⟨_, rfl, a, ds.map strOfD, rfl, by rw [← ev]; exact same_seqT s2 h1, by rw [List.length_map]; omega, fun H3 s3 => ?_⟩
        have q1 := q _ (s2.trans s3)
        rw [e] at q1
        exact q1
end
end KV

namespace KV
open PySem PySem.Spec PyProof.Rows L2 RZ
/-! ### match of a text, by texts -/
def PMC (X : Cx) (cases : List MatchCase) (t : Str → TS) : Prop := ∀ (pins : List (Addr × Obj)) (s : Shared) (σ : L2.St) (H : Hp) (D : Ends) (z : Str) (tk : Tok) (first : Bool), L2.Inv X pins σ H s → t z D σ H → wpAny (model X.prog X.w) X.A (matchCases cases X.env (.str z tk) first) (SP X pins D) X.xe s
def tPick (w : Str) (t : TS) (u : Str → TS) : Str → TS := fun z D σ H => if decide (z = w) = true then t D σ H else u z D σ H
section
variable {X : Cx}
theorem pat_val {w : Str} {k : Nat} {p pos : Pos} {pins : List (Addr × Obj)} {s : Shared} {σ : L2.St} {H : Hp} {z : Str} {tk : Tok} {Q : Option (List (Str × Value)) → Shared → Prop} (I : L2.Inv X pins σ H s)
    (h : ∀ s1, L2.Inv X pins σ H s1 → if decide (z = w) = true then Q (some []) s1 else Q none s1) : wpAny (model X.prog X.w) X.A (matchPattern (.MatchValue (.Constant (.str w) k p) pos) X.env (.str z tk)) Q X.xe s := by
  refine wpAny_matchPattern_Value ?_
  refine thn ((pe_str (X := X)).run pins s σ H (fun x H1 => x = .str w ∧ H1 = H) I ⟨rfl, rfl⟩) fun v s1 ⟨x, H1, I1, r1, ex, eH⟩ => ?_
  subst ex eH
  have hop := op_eq (X := X) pins s1 σ H1 (.str z) (.str w) (.str z tk) v (fun x H2 => x = .bl (decide (V.str z = V.str w)) ∧ H2 = H1) I1 ⟨tk, rfl⟩ r1 ⟨rfl, rfl, rfl⟩
  refine thn hop fun c s2 ⟨y, H2, I2, r2, ey, eH2⟩ => ?_
  subst ey eH2
  cases r2
  refine wpAny_truthy_bool ?_
  have ed : decide (V.str z = V.str w) = decide (z = w) := by
    by_cases hz : z = w
    · rw [hz, decide_eq_true rfl, decide_eq_true rfl]
    · rw [decide_eq_false hz, decide_eq_false (fun q => hz (V.str.inj q))]
  have := h s2 I2
  rw [ed]
  exact this
theorem pmc_last {body : List Stmt} {t : TS} {pos : Pos} (hb : PSs X body t) : PMC X [⟨.MatchAs none none pos, none, body⟩] (fun _ => t) := by
  intro pins s σ H D z tk first I h
  refine wpAny_matchCases_cons (wpAny_matchPattern_Capture ?_)
  exact wpAny_assignInOrder_none (hb.run pins s σ H D I h)
theorem pmc_val {w : Str} {k : Nat} {p pos : Pos} {body : List Stmt} {rest : List MatchCase} {t : TS} {u : Str → TS} (hb : PSs X body t) (hr : PMC X rest u) : PMC X (⟨.MatchValue (.Constant (.str w) k p) pos, none, body⟩ :: rest) (tPick w t u) := by
  intro pins s σ H D z tk first I h
  refine wpAny_matchCases_cons (pat_val I fun s1 I1 => ?_)
  unfold tPick at h
  by_cases hz : z = w
  · rw [decide_eq_true hz] at h ⊢
    exact wpAny_assignInOrder_none (hb.run pins s1 σ H D I1 h)
  · rw [decide_eq_false hz] at h ⊢
    exact hr pins s1 σ H D z tk false I1 h
theorem pmc_or {w1 w2 : Str} {k1 k2 : Nat} {p1 p2 q1 q2 pos : Pos} {body : List Stmt} {rest : List MatchCase} {t : TS} {u : Str → TS} (hb : PSs X body t) (hr : PMC X rest u) :
    PMC X (⟨.MatchOr [.MatchValue (.Constant (.str w1) k1 p1) q1, .MatchValue (.Constant (.str w2) k2 p2) q2] pos, none, body⟩ :: rest) (tPick w1 t (tPick w2 t u)) := by
  intro pins s σ H D z tk first I h
  refine wpAny_matchCases_cons (wpAny_matchPattern_Or (wpAny_matchFirst_cons (pat_val I fun s1 I1 => ?_)))
  unfold tPick at h
  by_cases hz : z = w1
  · rw [decide_eq_true hz] at h ⊢
    exact wpAny_assignInOrder_none (hb.run pins s1 σ H D I1 h)
  · rw [decide_eq_false hz] at h ⊢
    refine wpAny_matchFirst_cons (pat_val I1 fun s2 I2 => ?_)
    by_cases hz2 : z = w2
    · rw [decide_eq_true hz2] at h ⊢
      exact wpAny_assignInOrder_none (hb.run pins s2 σ H D I2 h)
    · rw [decide_eq_false hz2] at h ⊢
      refine wpAny_matchFirst_nil ?_
      exact hr pins s2 σ H D z tk false I2 h
def tMatch (te : TE) (t : Str → TS) : TS := fun D σ H => te σ H fun x H1 => ∃ z, x = .str z ∧ t z D σ H1
theorem ps_match {e : Expr} {cases : List MatchCase} {pos : Pos} {te : TE} {t : Str → TS} (he : PE X e te) (hm : PMC X cases t) : PS X (.Match e cases pos) (tMatch te t) := by
  refine ⟨fun pins s σ H D I h => ?_⟩
  refine wpAny_Match (thn (he.run pins s σ H _ I h) fun v s1 ⟨x, H1, I1, r1, z, ex, q⟩ => ?_)
  subst ex
  obtain ⟨tk, rfl⟩ := r1
  exact hm pins s1 σ H1 D z tk true I1 q
end
/-! ### x is True, of any data -/
def isBlD (b : Bool) : PyData → Bool
  | .bool c => c == b
  | _ => false
def rIsBlD (K : PySem.W.Frag) : R2 := fun x y H Q => ∃ d b, Dp K H x d ∧ y = .bl b ∧ Q (.bl (isBlD b d)) H
theorem op_isBlD {X : Cx} : OpR X (compareOp .Is) (rIsBlD X.K) := by
  intro pins s σ H x y v u Q I rx ry h
  obtain ⟨d, b, hd, rfl, q⟩ := h
  cases (show u = Value.bool b from ry)
  have other : (∀ c, d ≠ .bool c) → (∀ c, v ≠ Value.bool c) → plainIs v (.bool b) = true → wpAny (model X.prog X.w) X.A (compareOp .Is v (.bool b)) (EP X pins σ Q) X.xe s := fun h1 h2 hp => by
    have e : isBlD b d = false := by
      cases d with
      | bool c => exact absurd rfl (h1 c)
      | _ => rfl
    rw [e] at q
    exact wpAny_is_other hp (h2 b) ⟨.bl false, H, I, rfl, q⟩
  cases hd with
  | bl c =>
    cases (show v = Value.bool c from rx)
    by_cases e : c = b
    · subst e
      exact wpAny_is_self rfl ⟨.bl true, H, I, rfl, by simpa [isBlD] using q⟩
    · have e2 : (c == b) = false := beq_eq_false_iff_ne.mpr e
      exact wpAny_is_other rfl (fun z => e (Value.bool.inj z)) ⟨.bl false, H, I, rfl, by rw [← e2]; exact q⟩
  | non =>
    cases rx
    exact other (fun _ => nofun) (fun _ => nofun) rfl
  | int i =>
    obtain ⟨t, rfl⟩ := rx
    exact other (fun _ => nofun) (fun _ => nofun) rfl
  | str i =>
    obtain ⟨t, rfl⟩ := rx
    exact other (fun _ => nofun) (fun _ => nofun) rfl
  | lst _ _ =>
    cases rx
    exact other (fun _ => nofun) (fun _ => nofun) rfl
  | tup _ _ =>
    cases rx
    exact other (fun _ => nofun) (fun _ => nofun) rfl
end KV

namespace KV
open PySem PySem.Spec PyProof.Rows L2 RZ
abbrev sPlace : Stmt := topS 38
abbrev sLetters : Stmt := topS 39
theorem dp_four {K : PySem.W.Frag} {H : Hp} {v : V} {a b c e : PyData} (h : Dp K H v (.tuple [a, b, c, e])) : ∃ (p : Addr) (x y z u : V), v = .ref p ∧ SqT K H p [x, y, z, u] ∧ Dp K H x a ∧ Dp K H y b ∧ Dp K H z c ∧ Dp K H u e := by
  cases h with
  | tup h1 h2 =>
    cases h2 with
    | cons a1 a2 =>
      cases a2 with
      | cons b1 b2 =>
        cases b2 with
        | cons c1 c2 =>
          cases c2 with
          | cons d1 d2 =>
            cases d2
            exact ⟨_, _, _, _, _, rfl, h1, a1, b1, c1, d1⟩
theorem dp_tupR {K : PySem.W.Frag} {H : Hp} {v : V} {es : List PyData} (h : Dp K H v (.tuple es)) : ∃ a xs, v = .ref a ∧ SqT K H a xs ∧ DpAll K H xs es := by
  cases h with
  | tup h1 h2 => exact ⟨_, _, rfl, h1, h2⟩
theorem op_neDK {X : Cx} {K : PySem.W.Frag} (h : X.K = K) (hu : X.A.units + 64 < cLine) : OpR X (compareOp .NotEq) (rNeD K) := by
  subst h
  exact op_neD hu
theorem op_eqDK {X : Cx} {K : PySem.W.Frag} (h : X.K = K) (hu : X.A.units + 64 < cLine) : OpR X (compareOp .Eq) (rEqD K) := by
  subst h
  exact op_eqD hu
/-- a drawn place, of a setup with these pipes and so many slots -/
def WhereD (ps : List Str) (m : Nat) (d : PyData) : Prop := (∃ i : Nat, i < m ∧ d = .tuple [.str "slot", .int i]) ∨ (∃ x ∈ ps, d = .tuple [.str "pipe", .str x])
/-- the data of a drawn setup that has a pipe -/
def setD (sp rm : Int) (ps : List Str) (ss : List PyData) : PyData := .tuple [.int sp, .int rm, .tuple (ps.map PyData.str), .tuple ss]
def optD (ps : List Str) (e : PyData) : Prop := e = .none ∨ ∃ p ∈ ps, e = .str p
mutual
theorem gD_lay {L : Nat} : ∀ (d : PyData) (n : Nat), gD lf2 L d n = true → d.canLay0 = true
  | .list xs, n, h => by
    obtain ⟨m, rfl, _, h2⟩ := gD_seq (.inl rfl) h
    simpa only [PyData.canLay0] using gDs_lay xs m h2
  | .tuple xs, n, h => by
    obtain ⟨m, rfl, _, h2⟩ := gD_seq (.inr rfl) h
    simpa only [PyData.canLay0] using gDs_lay xs m h2
  | .none, n, _ => rfl
  | .bool _, n, _ => rfl
  | .int _, n, _ => rfl
  | .str x, n, h => by
    have h1 : (decide (x.length ≤ 60) && x.cps.toList.all fun c => decide (c < 1114112)) = true := by simp only [gD] at h; exact h
    rw [Bool.and_eq_true] at h1
    show PyData.strOk x = true
    unfold PyData.strOk
    rw [← Array.all_toList]
    exact h1.2
  | .dict _, n, h => by simp [gD] at h
theorem gDs_lay {L : Nat} : ∀ (ds : List PyData) (n : Nat), gDs lf2 L ds n = true → PyData.canLayAll0 ds = true
  | [], n, _ => rfl
  | d :: ds, n, h => by
    simp only [gDs, Bool.and_eq_true] at h
    simp only [PyData.canLayAll0, gD_lay d n h.1, gDs_lay ds n h.2, Bool.and_self]
end
theorem shaped_gD {L n : Nat} {d : PyData} (h : gD lf2 L d n = true) (hn : n ≤ 60) : SeqAt.shaped d = true := by
  unfold SeqAt.shaped
  rw [gD_lay d n h, Bool.true_and, decide_eq_true_eq]
  have := gD_dep d n h
  omega
/-- a drawn setup with a pipe, as it stands in the heap -/
structure SetH (K : PySem.W.Frag) (H : Hp) (v : V) (ps : List Str) (ss : List PyData) : Prop where
  nps : 0 < ps.length
  lps : ps.length ≤ 4
  lss : ss.length ≤ 5
  wps : ∀ p ∈ ps, wordS p = true
  oss : ∀ e ∈ ss, optD ps e
  at_ : ∃ sp rm : Int, Dp K H v (setD sp rm ps ss)
theorem SetH.same {K : PySem.W.Frag} {H H' : Hp} {v : V} {ps : List Str} {ss : List PyData} (h : SetH K H v ps ss) (s : Same H H') : SetH K H' v ps ss := by
  obtain ⟨h1, h2, h3, h4, h5, sp, rm, h6⟩ := h
  exact ⟨h1, h2, h3, h4, h5, sp, rm, dp_same s h6⟩
theorem SetH.of {K : PySem.W.Frag} {H : Hp} {v : V} {l : Nat} {d : PyData} (h : SetupD l d) (hl : 0 < l) (hd : Dp K H v d) : ∃ ps ss, SetH K H v ps ss := by
  obtain ⟨sp, rm, ps, ss, rfl, _, _, _, _, wp, _, l1, l2, l3, hs⟩ := h
  exact ⟨ps, ss, by omega, l2, l3, wp, hs, sp, rm, hd⟩
theorem SetH.shaped {K : PySem.W.Frag} {H : Hp} {v : V} {ps : List Str} {ss : List PyData} (h : SetH K H v ps ss) : SeqAt.shaped (.tuple ss) = true := by
  refine shaped_gD (L := 5) (n := 1) (gD_mk (m := 0) h.lss ?_).2 (by decide)
  rw [gDs_all, List.all_eq_true]
  intro e he
  rcases h.oss e he with rfl | ⟨p, hp, rfl⟩
  · simp only [gD]
  · have w := h.wps p hp
    have z : (decide (0 < p.length) && decide (p.length ≤ 8) && p.cps.toList.all fun c => decide (97 ≤ c) && decide (c ≤ 122)) = true := w
    rw [Bool.and_eq_true, Bool.and_eq_true, decide_eq_true_eq, decide_eq_true_eq] at z
    refine str_good (by omega) ?_
    have z3 := z.2
    rw [List.all_eq_true] at z3 ⊢
    intro c hc
    have z4 := z3 c hc
    rw [Bool.and_eq_true, decide_eq_true_eq, decide_eq_true_eq] at z4
    exact decide_eq_true (by omega)
theorem eqv_empty {ss : List PyData} : PyData.eqv (.tuple ss) (.tuple []) = decide (ss = []) := by
  cases ss with
  | nil => rfl
  | cons e ss => rfl
section
variable {P : Program} {w : World} {K : PySem.W.Frag} {mg : Str → Option Value} {base : Heap}
/-! ### _law_place -/
def spPlace (K : PySem.W.Frag) : Sp := fun vs H Q _ => ∃ (B : List Addr) (b : Addr) (n : Nat) (v : V) (ps : List Str) (ss : List PyData), vs = [.ref b, v] ∧ b ∈ B ∧ Live B H ∧ BoxAt H b n ∧ n + 10 ≤ 2 ^ 40 ∧ SetH K (hide B H) v ps ss ∧
  ∀ (v' : V) (d' : PyData) (H' : Hp), WhereD ps ss.length d' → SameX [b] H H' → BoxAt H' b (n + 2) → Dp K (hide B H') v' d' → Q v' H'
theorem scPlace : FnScope ["_law_box_here", "_law_setup_so", "_law_pipes_so", "_law_slots_so"] ["_law_box_here", "_law_setup_so"] (defScope sPlace) :=
  ⟨rfl, rfl, rfl, by decide +kernel, rfl, by decide +kernel, by decide +kernel⟩
theorem ok_place {f fT fO : Addr} {fd fdT fdO : FuncData} {k : Nat} (F : Fun K "_law_place" "_law_place" sPlace f fd)
    (FT : Fun K "_law_take" "_law_take" sTake fT fdT) (bT : Binds K fdT ["_law_box_here", "_law_below"] []) (mT : mg "_law_take" = some (.ref fT))
    (FO : Fun K "_law_of" "_law_of" sOf fO fdO) (bO : Binds K fdO ["_law_box_here", "_law_some"] []) (mO : mg "_law_of" = some (.ref fO))
    (mn : mg "int" = none) (ml : mg "len" = none) : FnOk P w K mg base CX0 (k + 3) f fd ["_law_box_here", "_law_setup_so"] (spPlace K) := by
  have GT : FnOk P w K mg base CX0 (k + 2) fT fdT ["_law_box_here", "_law_below"] spTake := ok_take FT mn
  have GO : FnOk P w K mg base CX0 (k + 2) fO fdO ["_law_box_here", "_law_some"] (spOf K) := ok_of FO FT bT mT mn ml
  refine F.ok scPlace (fun vs H Q E h => ?_) (fun cdv A outer s H vs Q E hr h => ?_)
  · obtain ⟨B, b, n, v, ps, ss, rfl, _⟩ := h
    rfl
  · obtain ⟨B, b, n, v, ps, ss, rfl, hb, lv, hB, hn, hS, q⟩ := h
    refine ⟨_, pss_cons (ps_asg (pe_slice sl_tupA (pv 1) (po_some pe_int) po_none) (pg_tup rfl (pgs_cons (pg_name (i := 2) scPlace.nd rfl (.inl rfl)) (pgs_cons (pg_name (i := 3) scPlace.nd rfl (.inl rfl)) pgs_nil))))
      (pss_cons (ps_if (PW.pt (pw_and (pt_cmpR (op_neDK (K := K) rfl hr.units) (pv 3) (pe_tup pa_nil) (by rfl)) (pw_and1 (pt_cmpR op_eq (pe_call GT hr (by rfl) mT FT.kp bT .nil pass0 (pa_cons (pv 0) (pa_cons pe_int pa_nil))) pe_int (nomark _)))))
          (pss_one (ps_ret (pe_tup (pa_cons pe_str (pa_cons (pe_call GT hr (by rfl) mT FT.kp bT .nil pass0 (pa_cons (pv 0) (pa_cons (pe_callB call_len_seq (by rfl) ml PySem.boot_len (pa_cons (pv 3) pa_nil)) pa_nil))) pa_nil))))) pss_nil)
        (pss_one (ps_ret (pe_tup (pa_cons pe_str (pa_cons (pe_call GO hr (by rfl) mO FO.kp bO .nil pass0 (pa_cons (pv 0) (pa_cons (pv 2) pa_nil))) pa_nil)))))), ?_⟩
    obtain ⟨sp, rm, hd⟩ := hS.at_
    obtain ⟨p, x, y, z, u, rfl, hp, e1, e2, e3, e4⟩ := dp_four hd
    cases e1
    cases e2
    obtain ⟨a3, xs3, rfl, S3, A3⟩ := dp_tupR e3
    obtain ⟨a4, xs4, rfl, S4, A4⟩ := dp_tupR e4
    have l3 := dps_len A3
    have l4 := dps_len A4
    rw [List.length_map] at l3
    refine ⟨_, rfl, _, rfl, p, _, rfl, same_seqT (hide_same B H) hp, fun e0 => absurd e0.1 (by show ¬ (min 2 4 = 0); decide), fun _ p1 n1 => ?_⟩
    refine ⟨p1, [.ref a3, .ref a4], rfl, SqT.of upd_same, rfl, .ref a3, _, rfl, .ref a4, _, rfl, rfl, ?_⟩
    have u1 : Same H (upd H p1 (.tup [.ref a3, .ref a4])) := same_upd n1
    refine ⟨_, rfl, by show 0 ≤ sizeLine; decide, fun p2 n2 => ?_⟩
    have u2 := u1.trans (same_upd (o := HO.tup []) n2)
    refine ⟨.tuple ss, .tuple [], dp_same u2 (dp_same (hide_same B H) e4), .tup (SqT.of upd_same) .nil, hS.shaped, by decide, ?_⟩
    rw [eqv_empty]
    replace u2 : Same H (upd (upd H p1 (HO.tup (cutV [V.int sp, V.int rm, V.ref a3, V.ref a4] (some 2) none))) p2 (HO.tup [])) := u2
    generalize upd (upd H p1 (HO.tup (cutV [V.int sp, V.int rm, V.ref a3, V.ref a4] (some 2) none))) p2 (HO.tup []) = H2 at u2
    have lv2 := lv.same u2
    have b2 := hB.same u2
    have hsub : ∀ c ∈ [b], c ∈ B := fun c hc => by rw [List.mem_singleton.mp hc]; exact hb
    have fin : ∀ (m : Nat) (H3 : Hp), SameX [b] H H3 → BoxAt H3 b m → m ≤ n + 1 → Live B H3 → spOf K [.ref b, .ref a3] H3 (fun x H4 => 2 ≤ sizeLine ∧ ∀ p, H4 p = none → Q (.ref p) (upd H4 p (.tup [.str "pipe", x]))) E0 := by
      intro m H3 s3 b3 hm lv3
      refine ⟨b, m, .ref a3, rfl, b3, by omega, .inr ⟨B, a3, xs3, rfl, hb, .inr (same_seqT (s3.hide hsub) S3), by have := hS.nps; omega, by have := hS.lps; omega, fun i x H4 hx s4 b4 => ⟨by decide, fun p4 n4 => ?_⟩⟩⟩
      obtain ⟨d, hd1, hd2⟩ := dps_get A3 hx
      rw [List.getElem?_map, Option.map_eq_some_iff] at hd1
      obtain ⟨pn, hpn, rfl⟩ := hd1
      cases hd2
      have lv4 : Live B H4 := s4.live lv3 fun c hc => by rw [List.mem_singleton.mp hc]; exact b4.live
      exact q _ (.tuple [.str "pipe", .str pn]) _ (.inr ⟨pn, List.mem_of_getElem? hpn, rfl⟩) ((s3.trans s4).trans (SameX.of (same_upd n4))) ((b4.same (same_upd n4)).le (by omega)) (dp_new lv4 n4 (.cons (.str _) (.cons (.str _) .nil)))
    by_cases he : ss = []
    · rw [decide_eq_true he]
      refine ⟨_, rfl, iteF (iteF ⟨_, rfl, _, rfl, fin n H2 (SameX.of u2) b2 (by omega) lv2⟩)⟩
    · rw [decide_eq_false he]
      refine ⟨_, rfl, iteT ⟨_, rfl, b, n, 2, rfl, by decide, by decide, b2, by omega, fun r H3 r0 r1 s3 b3 => ⟨rfl, _, rfl, ite2 (fun e => ?_) (fun e => ?_)⟩⟩⟩
      · have lv3 : Live B H3 := s3.live lv2 fun c hc => by rw [List.mem_singleton.mp hc]; exact b3.live
        have s13 := (SameX.of (B := [b]) u2).trans s3
        have S43 := same_seqT (hide_same B H3) (same_seqT (s13.hide hsub) S4)
        have lss := hS.lss
        have lp : 0 < ss.length := List.length_pos_iff.mpr he
        refine ⟨_, rfl, _, rfl, a4, xs4, rfl, .inr S43, b, n + 1, ss.length, ?_, by omega, by omega, b3, by omega, fun r2 H4 r20 r21 s4 b4 => ⟨by show 2 ≤ sizeLine; decide, fun p4 n4 => ?_⟩⟩
        · rw [l4]
          rfl
        · obtain ⟨j, rfl⟩ : ∃ j : Nat, r2 = j := ⟨r2.toNat, by omega⟩
          have lv4 : Live B H4 := s4.live lv3 fun c hc => by rw [List.mem_singleton.mp hc]; exact b4.live
          exact q _ (.tuple [.str "slot", .int j]) _ (.inl ⟨j, by omega, rfl⟩) ((s13.trans s4).trans (SameX.of (same_upd n4))) ((b4.same (same_upd n4)).le (by omega)) (dp_new lv4 n4 (.cons (.str _) (.cons (.int _) .nil)))
      · have lv3 : Live B H3 := s3.live lv2 fun c hc => by rw [List.mem_singleton.mp hc]; exact b3.live
        exact ⟨_, rfl, _, rfl, fin (n + 1) H3 ((SameX.of (B := [b]) u2).trans s3) b3 (by omega) lv3⟩
end
end KV

namespace KV
open PySem PySem.Spec PyProof.Rows L2 RZ
theorem abc_ok : ((Str.ofString "abc").cps.toList.all fun c => decide (97 ≤ c) && decide (c ≤ 122)) = true := by decide +kernel
theorem glued_len {cs : List Nat} : (Txt.join (Str.ofString "") (cs.map fun c => (⟨#[c]⟩ : Str))).length = cs.length := by
  have e : (Txt.join (Str.ofString "") (cs.map fun c => (⟨#[c]⟩ : Str))).cps.toList = cs := by
    show (Builtin.Str.glued (Str.ofString "") (cs.map fun c => (⟨#[c]⟩ : Str))).cps.toList = cs
    rw [StrLaws.glued_eq_join]
    exact glue_sing cs
  rw [← sgn_len, e]
section
variable {P : Program} {w : World} {K : PySem.W.Frag} {mg : Str → Option Value} {base : Heap}
/-! ### _law_letters -/
def spLetters (K : PySem.W.Frag) : Sp := fun vs H Q _ => ∃ (b : Addr) (n m : Nat), vs = [.ref b, .int m] ∧ 0 < m ∧ m ≤ 6 ∧ BoxAt H b n ∧ n + 20 ≤ 2 ^ 40 ∧
  ∀ (x : Str) (H' : Hp), wordS x = true → x.length ≤ m → SameX [b] H H' → BoxAt H' b (n + 8) → Q (.str x) H'
theorem scLetters : FnScope ["_law_box_here", "_law_most_so", "_law_turn"] ["_law_box_here", "_law_most_so"] (defScope sLetters) :=
  ⟨rfl, rfl, rfl, by decide +kernel, rfl, by decide +kernel, by decide +kernel⟩
theorem ok_letters {f fT fO : Addr} {fd fdT fdO : FuncData} {k : Nat} (F : Fun K "_law_letters" "_law_letters" sLetters f fd) (FT : Fun K "_law_take" "_law_take" sTake fT fdT) (bT : Binds K fdT ["_law_box_here", "_law_below"] []) (mT : mg "_law_take" = some (.ref fT))
    (FO : Fun K "_law_of" "_law_of" sOf fO fdO) (bO : Binds K fdO ["_law_box_here", "_law_some"] []) (mO : mg "_law_of" = some (.ref fO))
    (mn : mg "int" = none) (ml : mg "len" = none) (mr : mg "range" = none) : FnOk P w K mg base CX0 (k + 3) f fd ["_law_box_here", "_law_most_so"] (spLetters K) := by
  have GT : FnOk P w K mg base CX0 (k + 2) fT fdT ["_law_box_here", "_law_below"] spTake := ok_take FT mn
  have GO : FnOk P w K mg base CX0 (k + 2) fO fdO ["_law_box_here", "_law_some"] (spOf K) := ok_of FO FT bT mT mn ml
  refine F.ok scLetters (fun vs H Q E h => ?_) (fun cdv A outer s H vs Q E hr h => ?_)
  · obtain ⟨b, n, m, rfl, _⟩ := h
    rfl
  · obtain ⟨b, n, m, rfl, hm0, hm, hB, hn, q⟩ := h
    refine ⟨_, pss_one (ps_ret (pe_join pe_str (pe_lc (own := [("_law_turn", 2)]) (g := gName 2) (tt := tYes) rfl scLetters.nd
        (pi_range1 (by rfl) mr (pa_cons (pe_op op_add pe_int (pe_call GT hr (by rfl) mT FT.kp bT .nil pass0 (pa_cons (pv 0) (pa_cons (pv 1) pa_nil)))) pa_nil))
        (blkOk_by (N := ["_law_box_here", "_law_most_so", "_law_turn"]) (sc := defScope sLetters) (by decide +kernel))
        (fun _ _ _ _ _ => pg_name (i := 2) scLetters.nd rfl (Or.inl rfl)) (fun _ _ _ _ _ => pts_nil) (fun _ _ _ _ _ => pe_call GO hr (by rfl) mO FO.kp bO .nil pass0 (pa_cons (pv 0) (pa_cons pe_str pa_nil)))))), ?_⟩
    refine ⟨⟨_, rfl⟩, ?_⟩
    refine ⟨_, rfl, _, rfl, b, n, m, rfl, by omega, by omega, hB, by omega, fun r2 H2 r20 r21 s2 b2 => ?_⟩
    obtain ⟨j, rfl⟩ : ∃ j : Nat, r2 = j := ⟨r2.toNat, by omega⟩
    refine ⟨_, _, rfl, rfl, _, rfl, by omega, by omega, fun D nD => lc_it (walk_range (lo := 0) (n := ((1 : Int) + j).toNat)) (fun i H3 => SameX [D, b] H2 H3 ∧ BoxAt H3 b (n + 1 + i) ∧ ∃ cs : List Nat, H3 D = some (.lst ((cs.map fun c => (⟨#[c]⟩ : Str)).map V.str)) ∧ cs.length = i ∧ (cs.all fun c => decide (97 ≤ c) && decide (c ≤ 122)) = true)
      ⟨sameX_upd List.mem_cons_self, ?_, [], upd_same, rfl, rfl⟩ (fun _ _ _ _ => trivial) ?_ ?_⟩
    · have pD : b ≠ D := (b2.new nD).symm
      obtain ⟨x, y, c, z, z2⟩ := b2
      exact ⟨x, y, c, by rw [upd_ne pD]; exact z, z2⟩
    · rintro i x H3 H3' hi ⟨s3, b3, cs, hD, hl, ha⟩ ⟨rfl, rfl⟩
      have pD : D ≠ b := b2.new nD
      refine ⟨rfl, tYes_ok ⟨_, rfl, b, _, _, rfl, b3, by omega, .inl ⟨_, rfl, by decide +kernel, by decide +kernel, fun c H4 hc s4 b4 => ?_⟩⟩⟩
      have hD4 : H4 D = some (.lst ((cs.map fun c => (⟨#[c]⟩ : Str)).map V.str)) := s4 D _ (fun z => pD (List.mem_singleton.mp z)) hD
      refine ⟨_, hD4, small1000 (by rw [List.length_map, List.length_map]; omega), s3.trans ((s4.sub fun z hz => List.mem_cons_of_mem _ hz).trans (sameX_upd List.mem_cons_self)), ?_, cs ++ [c], ?_, ?_, ?_⟩
      · obtain ⟨u1, u2, u3, z, z2⟩ := b4
        exact ⟨u1, u2, u3, by rw [upd_ne pD.symm]; exact z, by omega⟩
      · rw [upd_same, List.map_append, List.map_append]
        rfl
      · rw [List.length_append, hl]
        rfl
      · rw [List.all_append, ha, Bool.true_and]
        have hc2 := List.all_eq_true.mp abc_ok c hc
        simpa using hc2
    · rintro H3 ⟨s3, b3, cs, hD, hl, ha⟩
      refine ⟨_, D, _, rfl, rfl, .inl (SqL.of hD), ?_, q _ _ (glued_word (by omega) (by omega) ha) (by rw [glued_len]; omega) ?_ (b3.le (by omega))⟩
      · rw [sing_len, List.length_map]
        show cs.length + cs.length * 0 ≤ _
        omega
      · refine s2.trans fun c o z e => s3 c o (fun y => ?_) e
        rcases List.mem_cons.mp y with y | y
        · exact ne_of_none e nD y
        · exact z y
end
end KV

namespace KV
open PySem PySem.Spec PyProof.Rows L2 RZ
abbrev sDeed : Stmt := topS 40
/-- a drawn deed, of a setup with these pipes and so many slots, behind these tags -/
inductive DeedD (ps : List Str) (m : Nat) (gs : List Str) : PyData → Prop
  | read {wh : PyData} {i : Int} (h : WhereD ps m wh) (h1 : 1 ≤ i) (h2 : i ≤ 3) : DeedD ps m gs (.tuple [.str "read", wh, .int i])
  | reads {wh : PyData} {i : Int} (h : WhereD ps m wh) (h1 : 1 ≤ i) (h2 : i ≤ 3) : DeedD ps m gs (.tuple [.str "reads", wh, .int i])
  | write {wh : PyData} {x : Str} (h : WhereD ps m wh) (h1 : wordS x = true) (h2 : x.length ≤ 3) : DeedD ps m gs (.tuple [.str "write", wh, .str x])
  | shut {wh : PyData} (h : WhereD ps m wh) : DeedD ps m gs (.tuple [.str "shut", wh])
  | timeout {i : Int} (h1 : 0 ≤ i) (h2 : i ≤ 8) : DeedD ps m gs (.tuple [.str "timeout", .int i])
  | work (g : Bool) : DeedD ps m gs (.tuple [.str "work", .bool g])
  | update {i : Nat} {e : PyData} (h : i < m) (h1 : optD ps e) : DeedD ps m gs (.tuple [.str "update", .int i, e])
  | cancel {t : Str} (h : t ∈ gs) : DeedD ps m gs (.tuple [.str "cancel", .str t])
  | cancelall : DeedD ps m gs (.tuple [.str "cancelall"])
  | nop : DeedD ps m gs (.tuple [.str "nop"])
theorem eqv_emptyL {ss : List PyData} : PyData.eqv (.list ss) (.list []) = decide (ss = []) := by
  cases ss with
  | nil => rfl
  | cons e ss => rfl
theorem word_good {L n : Nat} {x : Str} (h : wordS x = true) : gD lf2 L (.str x) n = true := by
  have z : (decide (0 < x.length) && decide (x.length ≤ 8) && x.cps.toList.all fun c => decide (97 ≤ c) && decide (c ≤ 122)) = true := h
  rw [Bool.and_eq_true, Bool.and_eq_true, decide_eq_true_eq, decide_eq_true_eq] at z
  refine str_good (by omega) ?_
  have z3 := z.2
  rw [List.all_eq_true] at z3 ⊢
  intro c hc
  have z4 := z3 c hc
  rw [Bool.and_eq_true, decide_eq_true_eq, decide_eq_true_eq] at z4
  exact decide_eq_true (by omega)
theorem words_good {L n : Nat} {gs : List Str} (h : ∀ g ∈ gs, wordS g = true) : gDs lf2 L (gs.map PyData.str) n = true := by
  rw [gDs_all, List.all_eq_true]
  intro e he
  obtain ⟨g, hg, rfl⟩ := List.mem_map.mp he
  exact word_good (h g hg)
/-- a list of names at an address -/
def NmAt (H : Hp) (a : Addr) (gs : List Str) : Prop := H a = some (.lst (gs.map V.str))
theorem NmAt.ne_box {H : Hp} {a b : Addr} {gs : List Str} {n : Nat} (h : NmAt H a gs) (hb : BoxAt H b n) : a ≠ b := fun e => by
  obtain ⟨x, y, c, z, _⟩ := hb
  have h' : H a = some (.lst (gs.map V.str)) := h
  rw [e, z] at h'
  have h2 := HO.lst.inj (Option.some.inj h')
  cases gs with
  | nil => cases h2
  | cons g gs => cases h2
theorem NmAt.up {H H' : Hp} {a b : Addr} {gs : List Str} {n : Nat} (h : NmAt H a gs) (hb : BoxAt H b n) (s : SameX [b] H H') : NmAt H' a gs := s _ _ (fun z => h.ne_box hb (List.mem_singleton.mp z)) h
theorem dps_mem {K : PySem.W.Frag} {H : Hp} {x : V} : ∀ {xs : List V} {ds : List PyData}, DpAll K H xs ds → x ∈ xs → ∃ d ∈ ds, Dp K H x d
  | [], _, _, h => absurd h List.not_mem_nil
  | _ :: _, _, .cons h1 h2, h => by
    rcases List.mem_cons.mp h with rfl | h
    · exact ⟨_, List.mem_cons_self, h1⟩
    · obtain ⟨d, hd, hx⟩ := dps_mem h2 h
      exact ⟨d, List.mem_cons_of_mem _ hd, hx⟩
theorem deed_last {D0 : Ends} {r : Int} {x0 x1 x2 x4 : Option V} {H : Hp} (q1 : ∀ p, H p = none → D0.rt (.ref p) (upd H p (.tup [.str "cancelall"]))) (q2 : ∀ p, H p = none → D0.rt (.ref p) (upd H p (.tup [.str "nop"]))) :
    tRet (tIf (tTest (tOp rEq (tVar 3) (tC (V.int 18)))) (tTup (tCons (tC (V.str (Str.ofString "cancelall"))) tNil)) (tTup (tCons (tC (V.str (Str.ofString "nop"))) tNil))) D0 [x0, x1, x2, some (.int r), x4] H := by
  refine ⟨_, rfl, rfl, _, rfl, ite2 (fun e => ?_) (fun e => ?_)⟩
  · exact ⟨by show 1 ≤ sizeLine; decide, q1⟩
  · exact ⟨by show 1 ≤ sizeLine; decide, q2⟩
theorem deed_rest {K : PySem.W.Frag} {D0 : Ends} {r : Int} {x1 x4 : Option V} {H : Hp} {b G : Addr} {n : Nat} {gs : List Str} (hB : BoxAt H b n) (hn : n + 10 ≤ 2 ^ 40) (hG : NmAt H G gs) (wg : ∀ g ∈ gs, wordS g = true) (lg : gs.length ≤ 100)
    (q1 : ∀ (c : Str) (H' : Hp) (p : Addr), c ∈ gs → SameX [b] H H' → BoxAt H' b (n + 1) → H' p = none → D0.rt (.ref p) (upd H' p (.tup [.str "cancel", .str c])))
    (q2 : ∀ (H' : Hp) (p : Addr), Same H H' → H' p = none → D0.rt (.ref p) (upd H' p (.tup [.str "cancelall"]))) (q3 : ∀ (H' : Hp) (p : Addr), Same H H' → H' p = none → D0.rt (.ref p) (upd H' p (.tup [.str "nop"]))) :
    tSeq (tIfS (tAnd (tTest (tOp (rI0 fun i j => V.bl (decide (i < j))) (tVar 3) (tC (V.int 18)))) (tTest (tOp (rNeD K) (tVar 2) (tLst tNil))))
        (tRet (tTup (tCons (tC (V.str (Str.ofString "cancel"))) (tCons (tCall (spOf K) [] E0 (tCons (tVar 0) (tCons (tVar 2) tNil))) tNil)))) tNext)
      (tRet (tIf (tTest (tOp rEq (tVar 3) (tC (V.int 18)))) (tTup (tCons (tC (V.str (Str.ofString "cancelall"))) tNil)) (tTup (tCons (tC (V.str (Str.ofString "nop"))) tNil)))) D0 [some (.ref b), x1, some (.ref G), some (.int r), x4] H := by
  have last : ∀ H', Same H H' → tRet (tIf (tTest (tOp rEq (tVar 3) (tC (V.int 18)))) (tTup (tCons (tC (V.str (Str.ofString "cancelall"))) tNil)) (tTup (tCons (tC (V.str (Str.ofString "nop"))) tNil))) D0 [some (.ref b), x1, some (.ref G), some (.int r), x4] H' :=
    fun H' s => deed_last (fun p np => q2 H' p s np) (fun p np => q3 H' p s np)
  refine ⟨_, rfl, _, _, rfl, rfl, _, rfl, ite2 (fun e => ?_) (fun e => iteF (last H (Same.refl _)))⟩
  refine ⟨_, rfl, by show 0 ≤ sizeLine; decide, fun p2 n2 => ?_⟩
  have u2 : Same H (upd H p2 (.lst [])) := same_upd n2
  refine ⟨.list (gs.map PyData.str), .list [], .lst (SqL.of (u2 _ _ hG)) (dps_strs gs), .lst (SqL.of upd_same) .nil, shaped_gD (L := 100) (n := 1) (gD_mk (m := 0) (by rw [List.length_map]; exact lg) (words_good wg)).1 (by decide), by decide, _, rfl, ?_⟩
  rw [eqv_emptyL]
  have hG2 : NmAt (upd H p2 (.lst [])) G gs := u2 _ _ hG
  have b2 := hB.same u2
  generalize upd H p2 (.lst []) = H2 at u2 hG2 b2
  by_cases he : gs.map PyData.str = []
  · rw [decide_eq_true he]
    exact iteF (last H2 u2)
  · rw [decide_eq_false he]
    have Gb := hG2.ne_box b2
    have l0 : 0 < gs.length := by
      rw [← List.length_map (f := PyData.str)]
      exact List.length_pos_iff.mpr he
    refine iteT ⟨_, rfl, _, rfl, b, n, .ref G, rfl, b2, by omega, .inr ⟨[b], G, _, rfl, List.mem_singleton.mpr rfl, .inl (SqL.of (by rw [hide_out (fun z => Gb (List.mem_singleton.mp z))]; exact hG2)), by rw [List.length_map]; exact l0, by rw [List.length_map]; omega, fun i x H3 hx s3 b3 => ?_⟩⟩
    rw [List.getElem?_map, Option.map_eq_some_iff] at hx
    obtain ⟨c, hc, rfl⟩ := hx
    exact ⟨by show 2 ≤ sizeLine; decide, fun p np => q1 c H3 p (List.mem_of_getElem? hc) ((SameX.of u2).trans s3) b3 np⟩
section
variable {P : Program} {w : World} {K : PySem.W.Frag} {mg : Str → Option Value} {base : Heap}
/-! ### _law_deed -/
def spDeed (K : PySem.W.Frag) : Sp := fun vs H Q _ => ∃ (B : List Addr) (b : Addr) (n : Nat) (v : V) (ps : List Str) (ss : List PyData) (G : Addr) (gs : List Str), vs = [.ref b, v, .ref G] ∧ b ∈ B ∧ Live B H ∧ BoxAt H b n ∧ n + 50 ≤ 2 ^ 40 ∧ SetH K (hide B H) v ps ss ∧
  NmAt H G gs ∧ (∀ g ∈ gs, wordS g = true) ∧ gs.length ≤ 100 ∧ ∀ (v' : V) (d' : PyData) (H' : Hp), DeedD ps ss.length gs d' → SameX [b] H H' → BoxAt H' b (n + 12) → Dp K (hide B H') v' d' → Q v' H'
abbrev nDeed : List Str := ["_law_box_here", "_law_setup_so", "_law_gone", "_law_way", "_law_place_so"]
theorem scDeed : FnScope nDeed ["_law_box_here", "_law_setup_so", "_law_gone"] (defScope sDeed) :=
  ⟨rfl, rfl, rfl, by decide +kernel, rfl, by decide +kernel, by decide +kernel⟩
theorem ok_deed {f fT fO fP fL : Addr} {fd fdT fdO fdP fdL : FuncData} {k : Nat} (F : Fun K "_law_deed" "_law_deed" sDeed f fd)
    (FT : Fun K "_law_take" "_law_take" sTake fT fdT) (bT : Binds K fdT ["_law_box_here", "_law_below"] []) (mT : mg "_law_take" = some (.ref fT))
    (FO : Fun K "_law_of" "_law_of" sOf fO fdO) (bO : Binds K fdO ["_law_box_here", "_law_some"] []) (mO : mg "_law_of" = some (.ref fO))
    (FP : Fun K "_law_place" "_law_place" sPlace fP fdP) (bP : Binds K fdP ["_law_box_here", "_law_setup_so"] []) (mP : mg "_law_place" = some (.ref fP))
    (FL : Fun K "_law_letters" "_law_letters" sLetters fL fdL) (bL : Binds K fdL ["_law_box_here", "_law_most_so"] []) (mL : mg "_law_letters" = some (.ref fL))
    (mn : mg "int" = none) (ml : mg "len" = none) (mr : mg "range" = none) : FnOk P w K mg base CX0 (k + 4) f fd ["_law_box_here", "_law_setup_so", "_law_gone"] (spDeed K) := by
  have GT : FnOk P w K mg base CX0 (k + 3) fT fdT ["_law_box_here", "_law_below"] spTake := ok_take (k := k + 2) FT mn
  have GO : FnOk P w K mg base CX0 (k + 3) fO fdO ["_law_box_here", "_law_some"] (spOf K) := ok_of (k := k + 1) FO FT bT mT mn ml
  have GP : FnOk P w K mg base CX0 (k + 3) fP fdP ["_law_box_here", "_law_setup_so"] (spPlace K) := ok_place FP FT bT mT FO bO mO mn ml
  have GL : FnOk P w K mg base CX0 (k + 3) fL fdL ["_law_box_here", "_law_most_so"] (spLetters K) := ok_letters FL FT bT mT FO bO mO mn ml mr
  refine F.ok scDeed (fun vs H Q E h => ?_) (fun cdv A outer s H vs Q E hr h => ?_)
  · obtain ⟨B, b, n, v, ps, ss, G, gs, rfl, _⟩ := h
    rfl
  · obtain ⟨B, b, n, v, ps, ss, G, gs, rfl, hb, lv, hB, hn, hS, hG, wg, lg, q⟩ := h
    refine ⟨_, pss_cons (ps_par (i := 3) (j := 4) rfl scDeed.nd rfl rfl (by decide) rfl rfl (pa_cons (pe_call GT hr (by rfl) mT FT.kp bT .nil pass0 (pa_cons (pv 0) (pa_cons pe_int pa_nil))) (pa_cons (pe_call GP hr (by rfl) mP FP.kp bP .nil pass0 (pa_cons (pv 0) (pa_cons (pv 1) pa_nil))) pa_nil)) (by rfl))
      (pss_cons (ps_if (pt_cmpR op_lt (pv 3) pe_int (nomark _)) (pss_one (ps_ret (pe_tup (pa_cons (pe_ifExp (pt_cmpR op_lt (pv 3) pe_int (nomark _)) pe_str pe_str) (pa_cons (pv 4) (pa_cons (pe_op op_add pe_int (pe_call GT hr (by rfl) mT FT.kp bT .nil pass0 (pa_cons (pv 0) (pa_cons pe_int pa_nil)))) pa_nil)))))) pss_nil)
      (pss_cons (ps_if (pt_cmpR op_lt (pv 3) pe_int (nomark _)) (pss_one (ps_ret (pe_tup (pa_cons pe_str (pa_cons (pv 4) (pa_cons (pe_call GL hr (by rfl) mL FL.kp bL .nil pass0 (pa_cons (pv 0) (pa_cons pe_int pa_nil))) pa_nil)))))) pss_nil)
      (pss_cons (ps_if (pt_cmpR op_eq (pv 3) pe_int (nomark _)) (pss_one (ps_ret (pe_tup (pa_cons pe_str (pa_cons (pv 4) pa_nil))))) pss_nil)
      (pss_cons (ps_if (pt_cmpR op_lt (pv 3) pe_int (nomark _)) (pss_one (ps_ret (pe_tup (pa_cons pe_str (pa_cons (pe_call GT hr (by rfl) mT FT.kp bT .nil pass0 (pa_cons (pv 0) (pa_cons pe_int pa_nil))) pa_nil))))) pss_nil)
      (pss_cons (ps_if (pt_cmpR op_lt (pv 3) pe_int (nomark _)) (pss_one (ps_ret (pe_tup (pa_cons pe_str (pa_cons (pe_cmpR op_gt (pe_call GT hr (by rfl) mT FT.kp bT .nil pass0 (pa_cons (pv 0) (pa_cons pe_int pa_nil))) pe_int (nomark _)) pa_nil))))) pss_nil)
      (pss_cons (ps_if (PW.pt (pw_and (pt_cmpR op_lt (pv 3) pe_int (nomark _)) (pw_and1 (pt_cmpR (op_neDK (K := K) rfl hr.units) (pe_ix ix_seq (pv 1) pe_int (fun _ _ => rfl)) (pe_tup pa_nil) (by rfl)))))
          (pss_one (ps_ret (pe_tup (pa_cons pe_str (pa_cons (pe_call GT hr (by rfl) mT FT.kp bT .nil pass0 (pa_cons (pv 0) (pa_cons (pe_callB call_len_seq (by rfl) ml PySem.boot_len (pa_cons (pe_ix ix_seq (pv 1) pe_int (fun _ _ => rfl)) pa_nil)) pa_nil)))
            (pa_cons (pe_call GO hr (by rfl) mO FO.kp bO .nil pass0 (pa_cons (pv 0) (pa_cons (pe_op op_catA (pe_ix ix_seq (pv 1) pe_int (fun _ _ => rfl)) (pe_tup (pa_cons pe_non pa_nil))) pa_nil))) pa_nil)))))) pss_nil)
      (pss_cons (ps_if (PW.pt (pw_and (pt_cmpR op_lt (pv 3) pe_int (nomark _)) (pw_and1 (pt_cmpR (op_neDK (K := K) rfl hr.units) (pv 2) (pe_lst pa_nil) (by rfl)))))
          (pss_one (ps_ret (pe_tup (pa_cons pe_str (pa_cons (pe_call GO hr (by rfl) mO FO.kp bO .nil pass0 (pa_cons (pv 0) (pa_cons (pv 2) pa_nil))) pa_nil))))) pss_nil)
      (pss_one (ps_ret (pe_ifExp (pt_cmpR op_eq (pv 3) pe_int (nomark _)) (pe_tup (pa_cons pe_str pa_nil)) (pe_tup (pa_cons pe_str pa_nil)))))))))))), ?_⟩
    refine ⟨_, rfl, b, n, 20, rfl, by decide, by decide, hB, by omega, fun r H1 r0 r1 s1 b1 => ?_⟩
    have hsub : ∀ c ∈ [b], c ∈ B := fun c hc => by rw [List.mem_singleton.mp hc]; exact hb
    have lv1 : Live B H1 := s1.live lv fun c hc => by rw [List.mem_singleton.mp hc]; exact b1.live
    refine ⟨_, rfl, _, rfl, B, b, n + 1, v, ps, ss, rfl, hb, lv1, b1, by omega, hS.same (s1.hide hsub), fun v4 d4 H2 w4 s2 b2 dp4 => ⟨_, _, rfl, ?_⟩⟩
    have lv2 : Live B H2 := s2.live lv1 fun c hc => by rw [List.mem_singleton.mp hc]; exact b2.live
    have s12 := s1.trans s2
    have fresh : ∀ {H3 : Hp} {m : Nat} {p : Addr} {vs : List V} {ds : List PyData}, SameX [b] H2 H3 → BoxAt H3 b m → m ≤ n + 12 → H3 p = none → DpAll K (hide B H3) vs ds → DeedD ps ss.length gs (.tuple ds) → Q (.ref p) (upd H3 p (.tup vs)) := by
      intro H3 m p vs ds s3 b3 hm np hds hdd
      have lv3 : Live B H3 := s3.live lv2 fun c hc => by rw [List.mem_singleton.mp hc]; exact b3.live
      exact q _ _ _ hdd ((s12.trans s3).trans (SameX.of (same_upd np))) ((b3.same (same_upd np)).le hm) (dp_new lv3 np hds)
    have at4 : ∀ {H3 : Hp}, SameX [b] H2 H3 → Dp K (hide B H3) v4 d4 := fun s3 => dp_same (s3.hide hsub) dp4
    refine ⟨_, rfl, _, _, rfl, rfl, _, rfl, ite2 (fun e => ?_) (fun e5 => ?_)⟩
    · refine ⟨_, rfl, _, _, rfl, rfl, _, rfl, ite2 (fun e => ?_) (fun e => ?_)⟩
      · refine ⟨_, rfl, _, rfl, b, _, 3, rfl, by decide, by decide, b2, by omega, fun r3 H3 r30 r31 s3 b3 => ⟨_, _, rfl, rfl, by show 3 ≤ sizeLine; decide, fun p np => ?_⟩⟩
        exact fresh s3 b3 (by omega) np (.cons (.str _) (.cons (at4 s3) (.cons (.int _) .nil))) (.read w4 (by omega) (by omega))
      · refine ⟨_, rfl, _, rfl, b, _, 3, rfl, by decide, by decide, b2, by omega, fun r3 H3 r30 r31 s3 b3 => ⟨_, _, rfl, rfl, by show 3 ≤ sizeLine; decide, fun p np => ?_⟩⟩
        exact fresh s3 b3 (by omega) np (.cons (.str _) (.cons (at4 s3) (.cons (.int _) .nil))) (.reads w4 (by omega) (by omega))
    refine ⟨_, rfl, _, _, rfl, rfl, _, rfl, ite2 (fun e => ?_) (fun e8 => ?_)⟩
    · refine ⟨_, rfl, _, rfl, b, _, 3, rfl, by decide, by decide, b2, by omega, fun x H3 wx lx s3 b3 => ⟨by show 3 ≤ sizeLine; decide, fun p np => ?_⟩⟩
      exact fresh s3 b3 (by omega) np (.cons (.str _) (.cons (at4 s3) (.cons (.str _) .nil))) (.write w4 wx lx)
    refine ⟨_, rfl, rfl, _, rfl, ite2 (fun e => ?_) (fun e9 => ?_)⟩
    · refine ⟨_, rfl, by show 2 ≤ sizeLine; decide, fun p np => ?_⟩
      exact fresh (SameX.refl _ _) b2 (by omega) np (.cons (.str _) (.cons dp4 .nil)) (.shut w4)
    refine ⟨_, rfl, _, _, rfl, rfl, _, rfl, ite2 (fun e => ?_) (fun e11 => ?_)⟩
    · refine ⟨_, rfl, b, _, 9, rfl, by decide, by decide, b2, by omega, fun r3 H3 r30 r31 s3 b3 => ⟨by show 2 ≤ sizeLine; decide, fun p np => ?_⟩⟩
      exact fresh s3 b3 (by omega) np (.cons (.str _) (.cons (.int _) .nil)) (.timeout r30 (by omega))
    refine ⟨_, rfl, _, _, rfl, rfl, _, rfl, ite2 (fun e => ?_) (fun e13 => ?_)⟩
    · refine ⟨_, rfl, b, _, 3, rfl, by decide, by decide, b2, by omega, fun r3 H3 r30 r31 s3 b3 => ⟨_, _, rfl, rfl, by show 2 ≤ sizeLine; decide, fun p np => ?_⟩⟩
      exact fresh s3 b3 (by omega) np (.cons (.str _) (.cons (.bl _) .nil)) (.work _)
    have rest : ∀ {H3 : Hp}, Same H2 H3 → tSeq (tIfS (tAnd (tTest (tOp (rI0 fun i j => V.bl (decide (i < j))) (tVar 3) (tC (V.int 18)))) (tTest (tOp (rNeD K) (tVar 2) (tLst tNil))))
        (tRet (tTup (tCons (tC (V.str (Str.ofString "cancel"))) (tCons (tCall (spOf K) [] E0 (tCons (tVar 0) (tCons (tVar 2) tNil))) tNil)))) tNext)
      (tRet (tIf (tTest (tOp rEq (tVar 3) (tC (V.int 18)))) (tTup (tCons (tC (V.str (Str.ofString "cancelall"))) tNil)) (tTup (tCons (tC (V.str (Str.ofString "nop"))) tNil)))) { nx := fun _ H' => Q .non H', rt := Q } [some (.ref b), some v, some (.ref G), some (.int r), some v4] H3 := by
      intro H3 s3
      refine deed_rest (b2.same s3) (by omega) (s3 _ _ (hG.up hB s12)) wg lg (fun c H4 p hc s4 b4 np => ?_) (fun H4 p s4 np => ?_) (fun H4 p s4 np => ?_)
      · exact fresh ((SameX.of s3).trans s4) b4 (by omega) np (.cons (.str _) (.cons (.str _) .nil)) (.cancel hc)
      · exact fresh (SameX.of (s3.trans s4)) (b2.same (s3.trans s4)) (by omega) np (.cons (.str _) .nil) .cancelall
      · exact fresh (SameX.of (s3.trans s4)) (b2.same (s3.trans s4)) (by omega) np (.cons (.str _) .nil) .nop
    refine ⟨_, rfl, _, _, rfl, rfl, _, rfl, ite2 (fun e => ?_) (fun e15 => iteF (rest (Same.refl _)))⟩
    obtain ⟨sp, rm, hd⟩ := hS.at_
    obtain ⟨p, x, y, z, u, rfl, hp, e1, e2, e3, e4⟩ := dp_four (dp_same (s12.hide hsub) hd)
    obtain ⟨a3, xs3, rfl, S3, A3⟩ := dp_tupR e3
    obtain ⟨a4, xs4, rfl, S4, A4⟩ := dp_tupR e4
    have hp2 := same_seqT (hide_same B H2) hp
    refine ⟨_, rfl, .inr (.inl ⟨p, _, 3, .ref a4, rfl, rfl, hp2, atI_nat (j := 3) rfl, by show 0 ≤ sizeLine; decide, fun p2 n2 => ?_⟩)⟩
    have l3 := dps_len A3
    have l4 := dps_len A4
    rw [List.length_map] at l3
    have lss := hS.lss
    have nps := hS.nps
    have lps := hS.lps
    refine ⟨.tuple ss, .tuple [], dp_same (same_upd n2) (dp_same (hide_same B H2) e4), .tup (SqT.of upd_same) .nil, hS.shaped, by decide, _, rfl, ?_⟩
    rw [eqv_empty]
    by_cases he : ss = []
    · rw [decide_eq_true he]
      exact iteF (rest (same_upd n2))
    rw [decide_eq_false he]
    have l0 : 0 < ss.length := List.length_pos_iff.mpr he
    have u2 : Same H2 (upd H2 p2 (.tup [])) := same_upd n2
    have b2' := b2.same u2
    refine iteT ⟨_, rfl, _, rfl, .inr (.inl ⟨p, _, 3, .ref a4, rfl, rfl, same_seqT u2 hp2, atI_nat (j := 3) rfl, a4, xs4, rfl, .inr (same_seqT u2 (same_seqT (hide_same B H2) S4)), b, _, ss.length, by rw [l4]; rfl, by omega, by omega, b2', by omega, fun r3 H3 r30 r31 s3 b3 => ?_⟩)⟩
    have s23 := (SameX.of (B := [b]) u2).trans s3
    have hp3 := same_seqT (hide_same B H3) (same_seqT (s23.hide hsub) hp)
    have S33 := same_seqT (hide_same B H3) (same_seqT (s23.hide hsub) S3)
    have A33 := dps_same (s23.hide hsub) A3
    refine ⟨_, rfl, _, rfl, .inr (.inl ⟨p, _, 2, .ref a3, rfl, rfl, hp3, atI_nat (j := 2) rfl, by show 1 ≤ sizeLine; decide, fun p4 n4 => ?_⟩)⟩
    have u4 : Same H3 (upd H3 p4 (.tup [.non])) := same_upd n4
    refine ⟨a3, p4, xs3, [.non], rfl, rfl, same_seqT u4 S33, SqT.of upd_same, Nat.le_of_lt (small1000 (by show xs3.length + 1 ≤ 1000; omega)), fun z => absurd z (fun z => by rw [z] at l3; simp at l3; omega), (fun _ z => by cases z), fun _ _ p5 n5 => ?_⟩
    have u5 := u4.trans (same_upd (o := HO.tup (xs3 ++ [.non])) n5)
    have b5 := b3.same u5
    have p5b : p5 ≠ b := (b3.same u4).new n5
    refine ⟨b, _, .ref p5, rfl, b5, by omega, .inr ⟨[b], p5, _, rfl, List.mem_singleton.mpr rfl, .inr (SqT.of (by rw [hide_out (fun z => p5b (List.mem_singleton.mp z))]; exact upd_same)), by rw [List.length_append]; exact Nat.succ_pos _, by rw [List.length_append]; show xs3.length + 1 ≤ 1000; omega, fun i x H6 hx s6 b6 => ⟨by show 3 ≤ sizeLine; decide, fun p7 n7 => ?_⟩⟩⟩
    obtain ⟨j, rfl⟩ : ∃ j : Nat, r3 = j := ⟨r3.toNat, by omega⟩
    have s26 := s23.trans ((SameX.of u5).trans s6)
    rcases List.mem_append.mp (List.mem_of_getElem? hx) with m | m
    · obtain ⟨d, hd1, hd2⟩ := dps_mem A3 m
      obtain ⟨pn, hpn, rfl⟩ := List.mem_map.mp hd1
      exact fresh s26 b6 (by omega) n7 (.cons (.str _) (.cons (.int _) (.cons (dp_same (s26.hide hsub) hd2) .nil))) (.update (by omega) (.inr ⟨pn, hpn, rfl⟩))
    · rw [List.mem_singleton.mp m]
      exact fresh s26 b6 (by omega) n7 (.cons (.str _) (.cons (.int _) (.cons .non .nil))) (.update (by omega) (.inl rfl))
end
end KV

namespace KV
open PySem PySem.Spec PyProof.Rows L2 RZ
abbrev sEnded : Stmt := topS 41
theorem iteBF {b : Bool} {A B : Prop} (h : b = false) (x : B) : if b = true then A else B := by
  subst h
  exact iteF x
theorem iteBT {b : Bool} {A B : Prop} (h : b = true) (x : A) : if b = true then A else B := by
  subst h
  exact iteT x
/-- a drawn request that is no linktimeout, with its linktimeout; ln: some true is hard, some false link -/
structure It where
  tag : Str
  deed : PyData
  dr : Bool
  pk : Bool
  si : Bool
  ln : Option Bool
  timer : Option (Str × Int)
def lnWords : Option Bool → List Str
  | some true => ["hard"]
  | some false => ["link"]
  | none => []
def flagW (b : Bool) (x : Str) : List Str := if b then [x] else []
def wordsF (dr pk si : Bool) (ln : Option Bool) : List Str := flagW dr "drain" ++ (lnWords ln ++ (flagW pk "pick" ++ flagW si "silent"))
def itWords (it : It) : List Str := wordsF it.dr it.pk it.si it.ln
theorem offF (dr pk si : Bool) (ln : Option Bool) : (wordsF dr pk si ln).filter (fun x => !decide (x ∈ [Str.ofString "link", Str.ofString "hard"])) = wordsF dr pk si none := by
  rcases ln with _ | _ | _ <;> cases dr <;> cases pk <;> cases si <;> decide +kernel
theorem lenF (dr pk si : Bool) (ln : Option Bool) : (wordsF dr pk si ln).length ≤ 4 := by
  rcases ln with _ | _ | _ <;> cases dr <;> cases pk <;> cases si <;> decide +kernel
def itD (it : It) : PyData := .tuple [.str it.tag, it.deed, .tuple ((itWords it).map PyData.str)]
def tmD (t : Str × Int) : PyData := .tuple [.str t.1, .tuple [.str "linktimeout", .int t.2], .tuple []]
def tmDs : Option (Str × Int) → List PyData
  | none => []
  | some t => [tmD t]
def itDs (it : It) : List PyData := itD it :: tmDs it.timer
def lotDs (its : List It) : List PyData := its.flatMap itDs
def tmTags : Option (Str × Int) → List Str
  | none => []
  | some t => [t.1]
def itTags (it : It) : List Str := it.tag :: tmTags it.timer
def lotTags (its : List It) : List Str := its.flatMap itTags
def endIt (it : It) : It := if it.timer.isSome then it else { it with ln := none }
def wordD (w : Str) (d : PyData) : Prop := ∃ rest, d = .tuple (.str w :: rest)
theorem DeedD.word {ps : List Str} {m : Nat} {gs : List Str} {d : PyData} (h : DeedD ps m gs d) : ∃ w, wordD w d ∧ w ≠ Str.ofString "linktimeout" := by
  cases h <;> exact ⟨_, ⟨_, rfl⟩, by decide⟩
theorem off_words (it : It) : (itWords it).filter (fun x => !decide (x ∈ [Str.ofString "link", Str.ofString "hard"])) = itWords { it with ln := none } := offF _ _ _ _
theorem words_len (it : It) : (itWords it).length ≤ 4 := lenF _ _ _ _
theorem dps_strI {K : PySem.W.Frag} {H : Hp} : ∀ {xs : List V} {ss : List Str}, DpAll K H xs (ss.map PyData.str) → xs = ss.map V.str
  | [], [], _ => rfl
  | [], _ :: _, h => nomatch h
  | _ :: _, [], h => nomatch h
  | x :: xs, s :: ss, .cons h1 h2 => by
    cases h1
    rw [dps_strI h2]
    rfl
theorem dps_split {K : PySem.W.Frag} {H : Hp} : ∀ {ds es : List PyData} {xs : List V}, DpAll K H xs (ds ++ es) → ∃ ys zs, xs = ys ++ zs ∧ DpAll K H ys ds ∧ DpAll K H zs es
  | [], es, xs, h => ⟨[], xs, rfl, .nil, h⟩
  | d :: ds, es, xs, h => by
    cases h with
    | cons h1 h2 =>
      obtain ⟨ys, zs, rfl, h3, h4⟩ := dps_split h2
      exact ⟨_ :: ys, zs, rfl, .cons h1 h3, h4⟩
theorem dp_three {K : PySem.W.Frag} {H : Hp} {v : V} {a b c : PyData} (h : Dp K H v (.tuple [a, b, c])) : ∃ (p : Addr) (x y z : V), v = .ref p ∧ SqT K H p [x, y, z] ∧ Dp K H x a ∧ Dp K H y b ∧ Dp K H z c := by
  cases h with
  | tup h1 h2 =>
    cases h2 with
    | cons a1 a2 =>
      cases a2 with
      | cons b1 b2 =>
        cases b2 with
        | cons c1 c2 =>
          cases c2
          exact ⟨_, _, _, _, rfl, h1, a1, b1, c1⟩
theorem lotDs_snoc (its : List It) (it : It) : lotDs (its ++ [it]) = lotDs its ++ itDs it := by
  unfold lotDs
  rw [List.flatMap_append]
  show _ ++ (itDs it ++ []) = _
  rw [List.append_nil]
theorem lotTags_snoc (its : List It) (it : It) : lotTags (its ++ [it]) = lotTags its ++ itTags it := by
  unfold lotTags
  rw [List.flatMap_append]
  show _ ++ (itTags it ++ []) = _
  rw [List.append_nil]
section
variable {P : Program} {w : World} {K : PySem.W.Frag} {mg : Str → Option Value} {base : Heap}
/-! ### _law_ended -/
def spEnded (K : PySem.W.Frag) : Sp := fun vs H Q _ => ∃ (B : List Addr) (D : Addr) (xs : List V) (its : List It) (it : It) (wd : Str), vs = [.ref D] ∧ D ∈ B ∧ Live B H ∧ H D = some (.lst xs) ∧ DpAll K (hide B H) xs (lotDs (its ++ [it])) ∧ xs.length ≤ 500 ∧
  wordD wd it.deed ∧ wd ≠ Str.ofString "linktimeout" ∧ ∀ (v' : V) (H' : Hp), SameX [D] H H' → Dp K (hide B H') v' (.tuple (lotDs (its ++ [endIt it]))) → Q v' H'
abbrev nEnded : List Str := ["_law_batch", "_law_tag", "_law_deed_here", "_law_words", "_law_word"]
theorem scEnded : FnScope nEnded ["_law_batch"] (defScope sEnded) :=
  ⟨rfl, rfl, rfl, by decide +kernel, rfl, by decide +kernel, by decide +kernel⟩
theorem ok_ended {f : Addr} {fd : FuncData} {k : Nat} (F : Fun K "_law_ended" "_law_ended" sEnded f fd) (mt : mg "tuple" = none) : FnOk P w K mg base CX0 (k + 1) f fd ["_law_batch"] (spEnded K) := by
  refine F.ok scEnded (fun vs H Q E h => ?_) (fun cdv A outer s H vs Q E hr h => ?_)
  · obtain ⟨B, D, xs, its, it, wd, rfl, _⟩ := h
    rfl
  · obtain ⟨B, D, xs, its, it, wd, rfl, hD, lv, hx, hall, hl, hw, hwn, q⟩ := h
    refine ⟨_, pss_cons (ps_asg (pe_ix ix_seq (pv 0) (pe_un un_neg pe_int) (fun _ _ => rfl)) (pg_tup rfl (pgs_cons (pg_name (i := 1) scEnded.nd rfl (.inl rfl)) (pgs_cons (pg_name (i := 2) scEnded.nd rfl (.inl rfl)) (pgs_cons (pg_name (i := 3) scEnded.nd rfl (.inl rfl)) pgs_nil)))))
      (pss_cons (ps_if (pt_cmpR op_ne (pe_ix ix_seq (pv 2) pe_int (fun _ _ => rfl)) pe_str (nomark _))
        (pss_one (ps_asg (pe_tup (pa_cons (pv 1) (pa_cons (pv 2) (pa_cons (pe_callTy call_tuple_of (by rfl) mt PyProof.Rows.boot_tuple (pa_cons
            (pe_lc (own := [("_law_word", 4)]) (g := gName 4) rfl scEnded.nd (pi_tup (pv 3)) (blkOk_by (N := nEnded) (sc := defScope sEnded) (by decide +kernel))
              (fun _ _ _ _ _ => pg_name (i := 4) scEnded.nd rfl (Or.inl rfl)) (fun _ _ _ _ _ => pts_one (pt_cmpR (op_notInK (K := K) rfl) (pv 4) (pe_tup (pa_cons pe_str (pa_cons pe_str pa_nil))) (by rfl))) (fun _ _ _ _ _ => pv 4)) pa_nil)) pa_nil)))) (pg_sub (pv 0) (pe_un un_neg pe_int) set_list))) pss_nil)
      (pss_one (ps_ret (pe_callTy call_tuple_of (by rfl) mt PyProof.Rows.boot_tuple (pa_cons (pv 0) pa_nil))))), ?_⟩
    rw [lotDs_snoc] at hall
    obtain ⟨ys, zs, rfl, hy, hz⟩ := dps_split hall
    obtain ⟨rest, hwd⟩ := hw
    cases ht : it.timer with
    | some t =>
      unfold itDs at hz
      rw [ht] at hz
      have ee : endIt it = it := by
        unfold endIt
        rw [ht]
        rfl
      rw [ee, lotDs_snoc] at q
      have hall0 := hall
      cases hz with
      | cons z1 hz2 =>
        cases hz2 with
        | cons z2 z3 =>
          cases z3
          obtain ⟨p, x1, x2, x3, rfl, hp, e1, e2, e3⟩ := dp_three z2
          obtain ⟨a2, xs2, rfl, S2, A2⟩ := dp_tupR e2
          cases e1
          cases A2 with
          | cons f1 f2 =>
            cases f1
            rename_i x01 xs02
            have ea : ys ++ [x01, V.ref p] = (ys ++ [x01]) ++ [V.ref p] := by rw [List.append_assoc]; rfl
            refine ⟨_, rfl, _, rfl, .inl ⟨D, _, -1, .ref p, rfl, rfl, SqL.of hx, by rw [ea]; exact atI_last _ _, ?_⟩⟩
            refine ⟨p, _, rfl, same_seqT (hide_same B H) hp, rfl, _, _, rfl, _, _, rfl, _, _, rfl, rfl, ?_⟩
            refine ⟨_, rfl, .inr (.inl ⟨a2, _, 0, _, rfl, rfl, same_seqT (hide_same B H) S2, atI_nat (j := 0) rfl, rfl, _, rfl, iteNS rfl ?_⟩)⟩
            refine ⟨_, rfl, D, _, rfl, .inl ⟨SqL.of hx, fun p2 n2 => ?_⟩⟩
            exact q _ _ (SameX.of (same_upd n2)) (dp_new lv n2 hall0)
    | none =>
      unfold itDs at hz
      rw [ht] at hz
      replace hz : DpAll K (hide B H) zs [itD it] := hz
      have ee : endIt it = { it with ln := none } := by
        unfold endIt
        rw [ht]
        rfl
      have ei : itDs (endIt it) = [.tuple [.str it.tag, it.deed, .tuple (((itWords it).filter (fun x => !decide (x ∈ [Str.ofString "link", Str.ofString "hard"]))).map PyData.str)]] := by
        unfold itDs
        rw [ee, off_words]
        show _ :: tmDs it.timer = _
        rw [ht]
        rfl
      rw [lotDs_snoc, ei] at q
      have wl := words_len it
      cases hz with
      | cons z1 hz2 =>
        cases hz2
        obtain ⟨p, x1, x2, x3, rfl, hp, e1, e2, e3⟩ := dp_three z1
        have e20 := e2
        rw [hwd] at e2
        obtain ⟨a2, xs2, rfl, S2, A2⟩ := dp_tupR e2
        obtain ⟨a3, xs3, rfl, S3, A3⟩ := dp_tupR e3
        have e3' := dps_strI A3
        subst e3'
        generalize itWords it = ws at *
        cases e1
        cases A2 with
        | cons f1 f2 =>
          cases f1
          refine ⟨_, rfl, _, rfl, .inl ⟨D, _, -1, .ref p, rfl, rfl, SqL.of hx, atI_last _ _, ?_⟩⟩
          refine ⟨p, _, rfl, same_seqT (hide_same B H) hp, rfl, _, _, rfl, _, _, rfl, _, _, rfl, rfl, ?_⟩
          refine ⟨_, rfl, .inr (.inl ⟨a2, _, 0, _, rfl, rfl, same_seqT (hide_same B H) S2, atI_nat (j := 0) rfl, rfl, _, rfl, ?_⟩)⟩
          have ne : (!decide (V.str wd = V.str (Str.ofString "linktimeout"))) = true := by
            rw [decide_eq_false (fun z => hwn (V.str.inj z))]
            rfl
          have S3' := same_seqT (hide_same B H) S3
          refine iteBT ne ⟨_, rfl, _, rfl, _, rfl, a3, rfl, ⟨_, S3'⟩, fun D3 nD3 => lc_it (walk_tup (xs := ws.map V.str)) (fun j H5 => SameX [D3] H H5 ∧ H5 D3 = some (.lst (((ws.take j).filter fun x => !decide (x ∈ [Str.ofString "link", Str.ofString "hard"])).map V.str)))
            ⟨sameX_upd List.mem_cons_self, upd_same⟩ (fun j H5 _ z => ?_) ?_ ?_⟩
          · have s5 : Same H H5 := fun c o e => z.1 c o (fun y => ne_of_none e nD3 (List.mem_singleton.mp y)) e
            exact same_seqT s5 S3'
          · rintro j x H5 H5' hj ⟨s5, hD5⟩ ⟨rfl, hx'⟩
            rw [List.getElem?_map] at hx'
            obtain ⟨y, hy', rfl⟩ := Option.map_eq_some_iff.mp hx'
            refine ⟨rfl, _, rfl, by show 2 ≤ sizeLine; decide, fun t nt => ⟨t, _, rfl, .inr (SqT.of upd_same), rfl, flat_strs [Str.ofString "link", Str.ofString "hard"], _, rfl, ?_⟩⟩
            have hin : inV (.str y) [V.str (Str.ofString "link"), V.str (Str.ofString "hard")] = decide (y ∈ [Str.ofString "link", Str.ofString "hard"]) := in_strs y [Str.ofString "link", Str.ofString "hard"]
            rw [hin, if_pos rfl]
            have ef : (ws.take (j + 1)).filter (fun x => !decide (x ∈ [Str.ofString "link", Str.ofString "hard"])) = (ws.take j).filter (fun x => !decide (x ∈ [Str.ofString "link", Str.ofString "hard"])) ++ (if (!decide (y ∈ [Str.ofString "link", Str.ofString "hard"])) = true then [y] else []) := by
              rw [take_snoc hy', List.filter_append, List.filter_cons, List.filter_nil]
            have st : Same H5' (upd H5' t (.tup [V.str (Str.ofString "link"), V.str (Str.ofString "hard")])) := same_upd nt
            have hDt := st _ _ hD5
            cases hk : (!decide (y ∈ [Str.ofString "link", Str.ofString "hard"])) with
            | true =>
              rw [hk] at ef
              refine iteT ⟨_, rfl, _, hDt, small1000 ?_, (s5.trans (SameX.of st)).trans (sameX_upd List.mem_cons_self), ?_⟩
              · rw [List.length_map]
                have h1 := List.length_filter_le (fun x => !decide (x ∈ [Str.ofString "link", Str.ofString "hard"])) (ws.take j)
                rw [List.length_take] at h1
                omega
              · rw [upd_same, ef, List.map_append]
                rfl
            | false =>
              rw [hk] at ef
              refine iteF ⟨s5.trans (SameX.of st), ?_⟩
              rw [hDt, ef]
              exact congrArg _ (congrArg _ (by simp))
          · rintro H5 ⟨s5, hD5⟩
            rw [List.length_map, List.take_length] at hD5
            have s05 : Same H H5 := fun c o e => s5 c o (fun y => ne_of_none e nD3 (List.mem_singleton.mp y)) e
            generalize ws.filter (fun x => !decide (x ∈ [Str.ofString "link", Str.ofString "hard"])) = wz at *
            refine ⟨D3, _, rfl, .inl ⟨SqL.of hD5, fun p4 n4 => ⟨by show 3 ≤ sizeLine; decide, fun p5 n5 => ?_⟩⟩⟩
            have u4 : Same H5 (upd H5 p4 (.tup (wz.map V.str))) := same_upd n4
            have u5 : Same (upd H5 p4 (.tup (wz.map V.str))) (upd (upd H5 p4 (.tup (wz.map V.str))) p5 (.tup [.str it.tag, .ref a2, .ref p4])) := same_upd n5
            have s04 := s05.trans u4
            have k4 : Dp K (hide B (upd H5 p4 (.tup (wz.map V.str)))) (.ref p4) (.tuple (wz.map PyData.str)) := dp_new (lv.same s05) n4 (dps_strs wz)
            have k5 : Dp K (hide B (upd (upd H5 p4 (.tup (wz.map V.str))) p5 (.tup [.str it.tag, .ref a2, .ref p4]))) (.ref p5) (.tuple [.str it.tag, it.deed, .tuple (wz.map PyData.str)]) :=
              dp_new (lv.same s04) n5 (.cons (.str _) (.cons (dp_same (hide_of_same s04) e20) (.cons k4 .nil)))
            have s06 := s04.trans u5
            generalize upd (upd H5 p4 (.tup (wz.map V.str))) p5 (.tup [.str it.tag, .ref a2, .ref p4]) = H6 at *
            have hx6 := s06 _ _ hx
            refine ⟨_, rfl, _, rfl, D, _, -1, ys.length, rfl, rfl, hx6, ?_, ?_⟩
            · have hl : (ys ++ [V.ref p]).length = ys.length + 1 := by simp
              unfold ixN
              rw [hl]
              rw [if_neg (by decide), if_pos (by omega)]
              exact congrArg some (by omega)
            · have es : (ys ++ [V.ref p]).set ys.length (.ref p5) = ys ++ [.ref p5] := by simp
              rw [es]
              refine ⟨_, rfl, D, _, rfl, .inl ⟨SqL.of upd_same, fun p7 n7 => ?_⟩⟩
              have lv6 := lv.same s06
              refine q _ _ ((SameX.of s06).trans ((sameX_upd List.mem_cons_self).trans (SameX.of (same_upd n7)))) (dp_new lv6.upd n7 ?_)
              rw [hide_upd_in hD]
              exact dps_app (dps_same (hide_of_same s06) hy) (.cons k5 .nil)
end
end KV

namespace KV
open PySem PySem.Spec PyProof.Rows L2 RZ
theorem seq_named {A u : TS} {D : Ends} {σ : L2.St} {H : Hp} (P : L2.St → Hp → Prop) (h1 : (∀ σ' H', P σ' H' → u D σ' H') → A { D with nx := u D } σ H) (h2 : ∀ σ' H', P σ' H' → u D σ' H') : tSeq A u D σ H := h1 h2
theorem op_inK {X : Cx} {K : PySem.W.Frag} (h : X.K = K) : OpR X (compareOp .In) (rIn K false) := by
  subst h
  exact op_in_seq
def rInT2 (K : PySem.W.Frag) : R2 := fun x y H Q => ∃ d ds, Dp K H x d ∧ Dp K H y (.tuple ds) ∧ PyData.canLayAll0 ds = true ∧ d.canLay0 = true ∧ PyData.depthAll ds ≤ 60 ∧ Q (.bl (ds.any fun z => PyData.eqv z d)) H
theorem op_inT2 {X : Cx} {K : PySem.W.Frag} (hK : X.K = K) (hu : X.A.units + 64 < cLine) : OpR X (compareOp .In) (rInT2 K) := by
  subst hK
  intro pins s σ H x y v u Q I rx ry h
  obtain ⟨d, ds, hd, he, c1, c2, d0, q⟩ := h
  obtain ⟨as, r1⟩ := Dp.reads I d x v hd rx
  obtain ⟨bs, r2⟩ := Dp.reads I (.tuple ds) y u he ry
  refine SeqAt.in_tuple_reads r2 r1 c1 c2 ?_ ⟨.bl _, H, I, rfl, q⟩
  have := Nat.min_le_left (PyData.depthAll ds) d.depth
  omega
theorem silent_of {ps : List Str} {m : Nat} {gs : List Str} {d : PyData} (h : DeedD ps m gs d) (e : ([PyData.tuple [.str "nop"], PyData.tuple [.str "work", .bool true]].any fun z => PyData.eqv z d) = true) : d = .tuple [.str "nop"] ∨ d = .tuple [.str "work", .bool true] := by
  cases h with
  | nop => exact .inl rfl
  | work g =>
    cases g with
    | true => exact .inr rfl
    | false => exact absurd e (by decide)
  | read h1 h2 h3 => exact absurd (show false = true from e) (by decide)
  | reads h1 h2 h3 => exact absurd (show false = true from e) (by decide)
  | write h1 h2 h3 => exact absurd (show false = true from e) (by decide)
  | shut h1 => exact absurd (show false = true from e) (by decide)
  | timeout h1 h2 => exact absurd (show false = true from e) (by decide)
  | update h1 h2 => exact absurd (show false = true from e) (by decide)
  | cancel h1 => exact absurd (show false = true from e) (by decide)
  | cancelall => exact absurd e (by decide)
end KV

namespace KV
open PySem PySem.Spec PyProof.Rows L2 RZ
abbrev sLot : Stmt := topS 42
theorem box_upd {H : Hp} {b a : Addr} {n : Nat} {o : HO} (h : BoxAt H b n) (ne : b ≠ a) : BoxAt (upd H a o) b n := by
  obtain ⟨x, y, c, z, z2⟩ := h
  exact ⟨x, y, c, by rw [upd_ne ne]; exact z, z2⟩
theorem nm_upd {H : Hp} {b a : Addr} {gs : List Str} {o : HO} (h : NmAt H b gs) (ne : b ≠ a) : NmAt (upd H a o) b gs := by
  show upd H a o b = _
  rw [upd_ne ne]
  exact h
theorem lst_upd {H : Hp} {b a : Addr} {xs : List V} {o : HO} (h : H b = some (.lst xs)) (ne : b ≠ a) : (upd H a o) b = some (.lst xs) := by
  rw [upd_ne ne]
  exact h
/-- the places of a lot that is being drawn -/
structure LOk (L : List Addr) (b T G D : Addr) (H0 : Hp) : Prop where
  hb : b ∈ L
  hT : T ∈ L
  hG : G ∈ L
  hD : D ∈ L
  TG : T ≠ G
  Tb : T ≠ b
  Gb : G ≠ b
  Db : D ≠ b
  DT : D ≠ T
  DG : D ≠ G
  nD : H0 D = none
/-- what stands there -/
structure LF (K : PySem.W.Frag) (L : List Addr) (b T G D : Addr) (v : V) (ps : List Str) (ss : List PyData) (H0 H : Hp) (n : Nat) (ws gs : List Str) (xs : List V) (ds : List PyData) : Prop where
  sx : SameX [b, T, G] H0 H
  bx : BoxAt H b n
  tn : NmAt H T ws
  gn : NmAt H G gs
  bt : H D = some (.lst xs)
  dx : DpAll K (hide L H) xs ds
  se : SetH K (hide L H) v ps ss
  lv : Live L H
section
variable {K : PySem.W.Frag} {L : List Addr} {b T G D : Addr} {v : V} {ps : List Str} {ss : List PyData} {H0 H H' : Hp} {n : Nat} {ws gs : List Str} {xs : List V} {ds : List PyData}
theorem live_upd {B : List Addr} {H : Hp} {p : Addr} {o : HO} (h : Live B H) : Live B (upd H p o) := h.upd
theorem LF.box (o : LOk L b T G D H0) (h : LF K L b T G D v ps ss H0 H n ws gs xs ds) {m : Nat} (s : SameX [b] H H') (bx : BoxAt H' b m) : LF K L b T G D v ps ss H0 H' m ws gs xs ds := by
  have hs : ∀ c ∈ [b], c ∈ L := fun c hc => by rw [List.mem_singleton.mp hc]; exact o.hb
  refine ⟨h.sx.trans (s.sub fun c hc => by rw [List.mem_singleton.mp hc]; exact List.mem_cons_self), bx, h.tn.up h.bx s, h.gn.up h.bx s, s _ _ (fun z => o.Db (List.mem_singleton.mp z)) h.bt, dps_same (s.hide hs) h.dx, h.se.same (s.hide hs), ?_⟩
  exact s.live h.lv fun c hc => by rw [List.mem_singleton.mp hc]; exact bx.live
theorem LF.alloc (h : LF K L b T G D v ps ss H0 H n ws gs xs ds) (s : Same H H') : LF K L b T G D v ps ss H0 H' n ws gs xs ds :=
  ⟨h.sx.trans (SameX.of s), h.bx.same s, s _ _ h.tn, s _ _ h.gn, s _ _ h.bt, dps_same (hide_of_same s) h.dx, h.se.same (hide_of_same s), h.lv.same s⟩
theorem LF.other (o : LOk L b T G D H0) (h : LF K L b T G D v ps ss H0 H n ws gs xs ds) {W : Addr} {ho : HO} (hW : W ∈ L) (nW : H0 W = none) (Wb : b ≠ W) (WT : T ≠ W) (WG : G ≠ W) (WD : D ≠ W) : LF K L b T G D v ps ss H0 (upd H W ho) n ws gs xs ds :=
  ⟨sameX_old (D := W) (B := [b, T, G]) ((h.sx.sub fun c hc => List.mem_cons_of_mem _ hc).trans (sameX_upd List.mem_cons_self)) nW, box_upd h.bx Wb, nm_upd h.tn WT, nm_upd h.gn WG, lst_upd h.bt WD, by rw [hide_upd_in hW]; exact h.dx, by rw [hide_upd_in hW]; exact h.se, h.lv.upd⟩
theorem LF.pop (o : LOk L b T G D H0) {t : Str} (h : LF K L b T G D v ps ss H0 H n (t :: ws) gs xs ds) : LF K L b T G D v ps ss H0 (upd H T (.lst (ws.map V.str))) n ws gs xs ds :=
  ⟨h.sx.trans (sameX_upd (List.mem_cons_of_mem _ List.mem_cons_self)), box_upd h.bx o.Tb.symm, upd_same, nm_upd h.gn o.TG.symm, lst_upd h.bt o.DT, by rw [hide_upd_in o.hT]; exact h.dx, by rw [hide_upd_in o.hT]; exact h.se, h.lv.upd⟩
theorem LF.gone (o : LOk L b T G D H0) (h : LF K L b T G D v ps ss H0 H n ws gs xs ds) (t : Str) : LF K L b T G D v ps ss H0 (upd H G (.lst (gs.map V.str ++ [.str t]))) n ws (gs ++ [t]) xs ds :=
  ⟨h.sx.trans (sameX_upd (List.mem_cons_of_mem _ (List.mem_cons_of_mem _ List.mem_cons_self))), box_upd h.bx o.Gb.symm, nm_upd h.tn o.TG, by show upd _ _ _ _ = _; rw [upd_same, List.map_append]; rfl, lst_upd h.bt o.DG, by rw [hide_upd_in o.hG]; exact h.dx, by rw [hide_upd_in o.hG]; exact h.se, h.lv.upd⟩
theorem LF.batch (o : LOk L b T G D H0) (h : LF K L b T G D v ps ss H0 H n ws gs xs ds) {x : V} {d : PyData} (hx : Dp K (hide L H) x d) : LF K L b T G D v ps ss H0 (upd H D (.lst (xs ++ [x]))) n ws gs (xs ++ [x]) (ds ++ [d]) :=
  ⟨sameX_old (D := D) (B := [b, T, G]) ((h.sx.sub fun c hc => List.mem_cons_of_mem _ hc).trans (sameX_upd List.mem_cons_self)) o.nD, box_upd h.bx o.Db.symm, nm_upd h.tn o.DT.symm, nm_upd h.gn o.DG.symm, upd_same, by rw [hide_upd_in o.hD]; exact dps_snoc h.dx hx, by rw [hide_upd_in o.hD]; exact h.se, h.lv.upd⟩
/-- a further hidden object -/
theorem LF.enter (h : LF K L b T G D v ps ss H0 H n ws gs xs ds) {W : Addr} {ho : HO} (nW : H W = none) : LF K (W :: L) b T G D v ps ss H0 (upd H W ho) n ws gs xs ds := by
  have s : Same H (upd H W ho) := same_upd nW
  have e : Same (hide L H) (hide (W :: L) (upd H W ho)) := SameX.enter (C := []) (sameX_upd List.mem_cons_self) (fun _ z => absurd z List.not_mem_nil) nW
  exact ⟨h.sx.trans (SameX.of s), h.bx.same s, s _ _ h.tn, s _ _ h.gn, s _ _ h.bt, dps_same e h.dx, h.se.same e, (h.lv.same s).cons (o := ho) upd_same⟩
theorem LF.leave {W : Addr} (h : LF K (W :: L) b T G D v ps ss H0 H n ws gs xs ds) : LF K L b T G D v ps ss H0 H n ws gs xs ds :=
  ⟨h.sx, h.bx, h.tn, h.gn, h.bt, dps_same hide_leave h.dx, h.se.same hide_leave, h.lv.tail⟩
theorem LOk.more (o : LOk L b T G D H0) (W : Addr) : LOk (W :: L) b T G D H0 :=
  ⟨List.mem_cons_of_mem _ o.hb, List.mem_cons_of_mem _ o.hT, List.mem_cons_of_mem _ o.hG, List.mem_cons_of_mem _ o.hD, o.TG, o.Tb, o.Gb, o.Db, o.DT, o.DG, o.nD⟩
/-- what is new now was new at the start -/
theorem LF.new (h : LF K L b T G D v ps ss H0 H n ws gs xs ds) {W : Addr} (nW : H W = none) : H0 W = none ∧ b ≠ W ∧ T ≠ W ∧ G ≠ W ∧ D ≠ W := by
  have hb : b ≠ W := fun e => h.bx.live (e ▸ nW)
  have hT : T ≠ W := fun e => by have := h.tn; unfold NmAt at this; rw [e, nW] at this; cases this
  have hG : G ≠ W := fun e => by have := h.gn; unfold NmAt at this; rw [e, nW] at this; cases this
  have hD : D ≠ W := fun e => by have := h.bt; rw [e, nW] at this; cases this
  refine ⟨?_, hb, hT, hG, hD⟩
  cases e : H0 W with
  | none => rfl
  | some o =>
    have := h.sx W o (fun z => ?_) e
    · rw [nW] at this; cases this
    · rcases List.mem_cons.mp z with z | z
      · exact hb z.symm
      rcases List.mem_cons.mp z with z | z
      · exact hT z.symm
      · exact hG (List.mem_singleton.mp z).symm
end
/-! ### what a drawn lot is -/
structure ItOk (ps : List Str) (m : Nat) (gs : List Str) (it : It) : Prop where
  deed : DeedD ps m gs it.deed
  tag : wordS it.tag = true
  pk : it.pk = true → ∃ w rest, it.deed = .tuple (.str w :: rest) ∧ w ∈ [Str.ofString "read", Str.ofString "reads"]
  si : it.si = true → it.deed = .tuple [.str "nop"] ∨ it.deed = .tuple [.str "work", .bool true]
  tm : ∀ t, it.timer = some t → it.ln.isSome = true ∧ wordS t.1 = true ∧ 0 ≤ t.2 ∧ t.2 ≤ 8
def openLast (its : List It) : Prop := its = [] ∨ ∃ p, its.getLast? = some p ∧ p.ln = none
structure LotOk (ps : List Str) (m : Nat) (gs : List Str) (its : List It) : Prop where
  ok : ∀ i it, its[i]? = some it → ItOk ps m (gs ++ lotTags (its.take i)) it
  fst : ∀ i it, its[i]? = some it → it.dr = true → openLast (its.take i)
theorem LotOk.nil {ps : List Str} {m : Nat} {gs : List Str} : LotOk ps m gs [] := ⟨fun i it h => (by simp at h), fun i it h => (by simp at h)⟩
theorem LotOk.snoc {ps : List Str} {m : Nat} {gs : List Str} {its : List It} {it : It} (h : LotOk ps m gs its) (h1 : ItOk ps m (gs ++ lotTags its) it) (h2 : it.dr = true → openLast its) : LotOk ps m gs (its ++ [it]) := by
  have key : ∀ i x, (its ++ [it])[i]? = some x → (its[i]? = some x ∧ (its ++ [it]).take i = its.take i) ∨ (x = it ∧ (its ++ [it]).take i = its) := by
    intro i x e
    by_cases hi : i < its.length
    · rw [List.getElem?_append_left hi] at e
      exact .inl ⟨e, by rw [List.take_append_of_le_length (by omega)]⟩
    · have hle := (List.getElem?_eq_some_iff.mp e).1
      rw [List.length_append] at hle
      have hi2 : i = its.length := by
        have : [it].length = 1 := rfl
        omega
      subst hi2
      simp at e
      exact .inr ⟨e.symm, by simp⟩
  refine ⟨fun i x e => ?_, fun i x e hd => ?_⟩
  · rcases key i x e with ⟨e1, e2⟩ | ⟨e1, e2⟩
    · rw [e2]; exact h.ok i x e1
    · rw [e2, e1]; exact h1
  · rcases key i x e with ⟨e1, e2⟩ | ⟨e1, e2⟩
    · rw [e2]; exact h.fst i x e1 hd
    · rw [e2]; rw [e1] at hd; exact h2 hd
/-- with its last member without link and hard, unless a linktimeout stands behind it -/
structure LotFin (ps : List Str) (m : Nat) (gs : List Str) (its : List It) : Prop where
  lot : LotOk ps m gs its
  ne : its ≠ []
  last : ∀ p, its.getLast? = some p → p.ln.isSome = true → p.timer.isSome = true
theorem LotOk.init {ps : List Str} {m : Nat} {gs : List Str} {its : List It} {it : It} (h : LotOk ps m gs (its ++ [it])) : LotOk ps m gs its ∧ ItOk ps m (gs ++ lotTags its) it ∧ (it.dr = true → openLast its) := by
  have e1 : ∀ i x, its[i]? = some x → (its ++ [it])[i]? = some x ∧ (its ++ [it]).take i = its.take i := by
    intro i x e
    have hi := (List.getElem?_eq_some_iff.mp e).1
    exact ⟨by rw [List.getElem?_append_left hi]; exact e, by rw [List.take_append_of_le_length (by omega)]⟩
  have e2 : (its ++ [it])[its.length]? = some it ∧ (its ++ [it]).take its.length = its := by simp
  refine ⟨⟨fun i x e => ?_, fun i x e hd => ?_⟩, ?_, fun hd => ?_⟩
  · have := h.ok i x (e1 i x e).1
    rw [(e1 i x e).2] at this
    exact this
  · have := h.fst i x (e1 i x e).1 hd
    rw [(e1 i x e).2] at this
    exact this
  · have := h.ok _ it e2.1
    rw [e2.2] at this
    exact this
  · have := h.fst _ it e2.1 hd
    rw [e2.2] at this
    exact this
theorem LotOk.fin {ps : List Str} {m : Nat} {gs : List Str} {its : List It} {it : It} (h : LotOk ps m gs (its ++ [it])) : LotFin ps m gs (its ++ [endIt it]) := by
  obtain ⟨h1, h2, h3⟩ := h.init
  cases ht : it.timer with
  | some t =>
    have ee : endIt it = it := by unfold endIt; rw [ht]; rfl
    rw [ee]
    refine ⟨h, by simp, fun p hp _ => ?_⟩
    simp at hp
    rw [← hp, ht]
    rfl
  | none =>
    have ee : endIt it = { it with ln := none } := by unfold endIt; rw [ht]; rfl
    rw [ee]
    refine ⟨h1.snoc ⟨h2.deed, h2.tag, h2.pk, h2.si, fun t e => ?_⟩ h3, by simp, fun p hp hl => ?_⟩
    · rw [ht] at e
      cases e
    · simp at hp
      rw [← hp] at hl
      cases hl
theorem endTags (it : It) : itTags (endIt it) = itTags it := by
  unfold endIt
  split <;> rfl
end KV

namespace KV
open PySem PySem.Spec PyProof.Rows L2 RZ
/-- small numbers, short texts -/
def lf4 : PyData → Bool
  | .int i => decide (i.natAbs < 10 ^ 8)
  | .str x => decide (x.length ≤ 60) && x.cps.toList.all fun c => decide (c < 1114112)
  | _ => false
theorem lf42 : ∀ d, lf4 d = true → lf2 d = true
  | .int i, h => by
    have h1 : i.natAbs < 10 ^ 8 := of_decide_eq_true h
    show decide (i.natAbs < 10 ^ 31) = true
    rw [decide_eq_true_eq]
    omega
  | .str x, h => h
mutual
theorem gD_fact4 {L : Nat} : ∀ (d : PyData) (n : Nat), gD lf4 L d n = true → d.leavesShort 10 = true
  | .list xs, n, h => by
    obtain ⟨m, rfl, _, h2⟩ := gD_seq (.inl rfl) h
    simpa only [PyData.leavesShort] using gDs_fact4 xs m h2
  | .tuple xs, n, h => by
    obtain ⟨m, rfl, _, h2⟩ := gD_seq (.inr rfl) h
    simpa only [PyData.leavesShort] using gDs_fact4 xs m h2
  | .none, n, _ => rfl
  | .bool _, n, _ => rfl
  | .int i, n, h => by
    have h1 : i.natAbs < 10 ^ 8 := of_decide_eq_true (show decide (i.natAbs < 10 ^ 8) = true by simp only [gD] at h; exact h)
    show decide ((PyData.shown (.int i)).length ≤ 10) = true
    rw [decide_eq_true_eq]
    have e := int_text_length_le10 (k := 8) (by decide) h1
    show (Str.ofString (toString i)).length ≤ 10
    rw [ofs_len]
    omega
  | .str x, n, h => by
    have h1 : (decide (x.length ≤ 60) && x.cps.toList.all fun c => decide (c < 1114112)) = true := by simp only [gD] at h; exact h
    rw [Bool.and_eq_true] at h1
    show (x.cps.toList.all fun c => decide (c < 16 ^ 8)) = true
    have h2 := h1.2
    rw [List.all_eq_true] at h2 ⊢
    intro c hc
    have h3 := of_decide_eq_true (h2 c hc)
    exact decide_eq_true (by omega)
  | .dict _, n, h => by simp [gD] at h
theorem gDs_fact4 {L : Nat} : ∀ (ds : List PyData) (n : Nat), gDs lf4 L ds n = true → PyData.leavesShortAll 10 ds = true
  | [], n, _ => rfl
  | d :: ds, n, h => by
    simp only [gDs, Bool.and_eq_true] at h
    simp only [PyData.leavesShortAll, gD_fact4 d n h.1, gDs_fact4 ds n h.2, Bool.and_self]
end
theorem word_good4 {L n : Nat} {x : Str} (h : wordS x = true) : gD lf4 L (.str x) n = true := word_good (L := L) (n := n) h
theorem words_good4 {L n : Nat} {gs : List Str} (h : ∀ g ∈ gs, wordS g = true) : gDs lf4 L (gs.map PyData.str) n = true := by
  rw [gDs_all, List.all_eq_true]
  intro e he
  obtain ⟨g, hg, rfl⟩ := List.mem_map.mp he
  exact word_good4 (h g hg)
theorem small_good {L n : Nat} {i : Int} (h0 : 0 ≤ i) (h : i ≤ 1000) : gD lf4 L (.int i) n = true := by
  simp only [gD]
  exact decide_eq_true (by omega)
theorem tup_good {L m : Nat} {xs : List PyData} (h1 : xs.length ≤ L) (h2 : ∀ e ∈ xs, gD lf4 L e m = true) : gD lf4 L (.tuple xs) (m + 1) = true := (gD_mk h1 (by rw [gDs_all, List.all_eq_true]; exact h2)).2
theorem mem2 {P : PyData → Prop} {a b : PyData} (h1 : P a) (h2 : P b) : ∀ e ∈ [a, b], P e := by
  intro e he
  rcases List.mem_cons.mp he with rfl | he
  · exact h1
  · rw [List.mem_singleton.mp he]; exact h2
theorem mem3 {P : PyData → Prop} {a b c : PyData} (h1 : P a) (h2 : P b) (h3 : P c) : ∀ e ∈ [a, b, c], P e := by
  intro e he
  rcases List.mem_cons.mp he with rfl | he
  · exact h1
  · exact mem2 h2 h3 e he
theorem mem1 {P : PyData → Prop} {a : PyData} (h1 : P a) : ∀ e ∈ [a], P e := fun e he => by rw [List.mem_singleton.mp he]; exact h1
theorem where_good4 {ps : List Str} {m : Nat} {d : PyData} (h : WhereD ps m d) (hm : m ≤ 5) (wp : ∀ p ∈ ps, wordS p = true) : gD lf4 5 d 2 = true := by
  rcases h with ⟨i, hi, rfl⟩ | ⟨x, hx, rfl⟩
  · exact tup_good (by show 2 ≤ 5; decide) (mem2 (by decide) (small_good (by omega) (by omega)))
  · exact tup_good (by show 2 ≤ 5; decide) (mem2 (by decide) (word_good4 (wp x hx)))
theorem deed_good4 {ps : List Str} {m : Nat} {gs : List Str} {d : PyData} (h : DeedD ps m gs d) (hm : m ≤ 5) (wp : ∀ p ∈ ps, wordS p = true) (wg : ∀ g ∈ gs, wordS g = true) : gD lf4 5 d 3 = true := by
  cases h with
  | read h1 h2 h3 => exact tup_good (by show 3 ≤ 5; decide) (mem3 (by decide) (where_good4 h1 hm wp) (small_good (by omega) (by omega)))
  | reads h1 h2 h3 => exact tup_good (by show 3 ≤ 5; decide) (mem3 (by decide) (where_good4 h1 hm wp) (small_good (by omega) (by omega)))
  | write h1 h2 h3 => exact tup_good (by show 3 ≤ 5; decide) (mem3 (by decide) (where_good4 h1 hm wp) (word_good4 h2))
  | shut h1 => exact tup_good (by show 2 ≤ 5; decide) (mem2 (by decide) (where_good4 h1 hm wp))
  | timeout h1 h2 => exact tup_good (by show 2 ≤ 5; decide) (mem2 (by decide) (small_good (by omega) (by omega)))
  | work g => exact tup_good (by show 2 ≤ 5; decide) (mem2 (by decide) (by simp only [gD]))
  | update h1 h2 =>
    rcases h2 with rfl | ⟨p, hp, rfl⟩
    · exact tup_good (by show 3 ≤ 5; decide) (mem3 (by decide) (small_good (by omega) (by omega)) (by simp only [gD]))
    · exact tup_good (by show 3 ≤ 5; decide) (mem3 (by decide) (small_good (by omega) (by omega)) (word_good4 (wp p hp)))
  | cancel h1 => exact tup_good (by show 2 ≤ 5; decide) (mem2 (by decide) (word_good4 (wg _ h1)))
  | cancelall => decide +kernel
  | nop => decide +kernel
theorem deed_good {ps : List Str} {m : Nat} {gs : List Str} {d : PyData} (h : DeedD ps m gs d) (hm : m ≤ 5) (wp : ∀ p ∈ ps, wordS p = true) (wg : ∀ g ∈ gs, wordS g = true) : gD lf2 5 d 3 = true := gD_mono lf42 (Nat.le_refl 5) d 3 3 (Nat.le_refl 3) (deed_good4 h hm wp wg)
theorem flagWord {b : Bool} {x : Str} (h : wordS x = true) : ∀ y ∈ flagW b x, wordS y = true := by
  intro y hy
  cases b with
  | true => rw [List.mem_singleton.mp hy]; exact h
  | false => exact absurd hy List.not_mem_nil
theorem itWords_word (it : It) : ∀ y ∈ itWords it, wordS y = true := by
  intro y hy
  unfold itWords wordsF at hy
  simp only [List.mem_append] at hy
  rcases hy with h | h | h | h
  · exact flagWord (by decide +kernel) y h
  · cases hl : it.ln with
    | none => rw [hl] at h; exact absurd h List.not_mem_nil
    | some c =>
      rw [hl] at h
      cases c with
      | true => rw [List.mem_singleton.mp h]; decide +kernel
      | false => rw [List.mem_singleton.mp h]; decide +kernel
  · exact flagWord (by decide +kernel) y h
  · exact flagWord (by decide +kernel) y h
theorem itD_good4 {it : It} {ps : List Str} {m : Nat} {gs : List Str} (h : ItOk ps m gs it) (hm : m ≤ 5) (wp : ∀ p ∈ ps, wordS p = true) (wg : ∀ g ∈ gs, wordS g = true) : gDs lf4 5 (itDs it) 4 = true := by
  have h1 : gD lf4 5 (itD it) 4 = true := tup_good (by show 3 ≤ 5; decide) (mem3 (word_good4 h.tag) (deed_good4 h.deed hm wp wg) (gD_mk (m := 2) (by rw [List.length_map]; have := words_len it; omega) (words_good4 (itWords_word it))).2)
  unfold itDs
  cases ht : it.timer with
  | none =>
    show gDs lf4 5 [itD it] 4 = true
    simp only [gDs, h1, Bool.and_self]
  | some t =>
    obtain ⟨_, t1, t2, t3⟩ := h.tm t ht
    have h2 : gD lf4 5 (tmD t) 4 = true := tup_good (by show 3 ≤ 5; decide) (mem3 (word_good4 t1) (tup_good (by show 2 ≤ 5; decide) (mem2 (by decide) (small_good t2 (by omega)))) (by decide))
    show gDs lf4 5 [itD it, tmD t] 4 = true
    simp only [gDs, h1, h2, Bool.and_self]
theorem lotDs_len (its : List It) : (lotDs its).length ≤ 2 * its.length := by
  induction its with
  | nil => exact Nat.le_refl _
  | cons it its ih =>
    show (itDs it ++ lotDs its).length ≤ _
    have : (itDs it).length ≤ 2 := by
      unfold itDs tmDs
      cases it.timer <;> simp
    rw [List.length_append, List.length_cons]
    omega
theorem itTags_word {it : It} {ps : List Str} {m : Nat} {gs : List Str} (h : ItOk ps m gs it) : ∀ y ∈ itTags it, wordS y = true := by
  intro y hy
  unfold itTags at hy
  rcases List.mem_cons.mp hy with rfl | hy
  · exact h.tag
  · cases ht : it.timer with
    | none => rw [ht] at hy; exact absurd hy List.not_mem_nil
    | some t => rw [ht] at hy; rw [List.mem_singleton.mp hy]; exact (h.tm t ht).2.1
end KV

namespace KV
open PySem PySem.Spec PyProof.Rows L2 RZ
theorem sortedF {dr pk si : Bool} {ln : Option Bool} {ys : List Str} (pm : ys.Perm (flagW dr "drain" ++ flagW pk "pick" ++ flagW si "silent" ++ lnWords ln)) (hs : sortedS ys = true) : ys = wordsF dr pk si ln := by
  have e : (flagW dr "drain" ++ flagW pk "pick" ++ flagW si "silent" ++ lnWords ln).Nodup ∧ ascS (wordsF dr pk si ln) = true ∧ ∀ x, x ∈ flagW dr "drain" ++ flagW pk "pick" ++ flagW si "silent" ++ lnWords ln ↔ x ∈ wordsF dr pk si ln := by
    refine ⟨?_, ?_, fun x => ?_⟩
    · rcases ln with _ | _ | _ <;> cases dr <;> cases pk <;> cases si <;> decide +kernel
    · rcases ln with _ | _ | _ <;> cases dr <;> cases pk <;> cases si <;> decide +kernel
    · unfold wordsF
      simp only [List.mem_append]
      constructor
      · rintro (((h | h) | h) | h) <;> simp only [h, true_or, or_true]
      · rintro (h | h | h | h) <;> simp only [h, true_or, or_true]
  exact strict_eq _ _ (strict_of (sorted_pw hs) (pm.nodup_iff.mpr e.1)) (ascS_pw _ e.2.1) fun x => (pm.mem_iff).trans (e.2.2 x)
theorem tagsLen (its : List It) : (lotTags its).length ≤ 2 * its.length := by
  induction its with
  | nil => exact Nat.le_refl _
  | cons it its ih =>
    show (itTags it ++ lotTags its).length ≤ _
    have : (itTags it).length ≤ 2 := by
      unfold itTags tmTags
      cases it.timer <;> simp
    rw [List.length_append, List.length_cons]
    omega
theorem LF.le {K : PySem.W.Frag} {L : List Addr} {b T G D : Addr} {v : V} {ps : List Str} {ss : List PyData} {H0 H : Hp} {n m : Nat} {ws gs : List Str} {xs : List V} {ds : List PyData} (h : LF K L b T G D v ps ss H0 H n ws gs xs ds) (k : n ≤ m) : LF K L b T G D v ps ss H0 H m ws gs xs ds :=
  ⟨h.sx, h.bx.le k, h.tn, h.gn, h.bt, h.dx, h.se, h.lv⟩
theorem nm_app {H : Hp} {W : Addr} {wl : List Str} {x : Str} : NmAt (upd H W (.lst (wl.map V.str ++ [.str x]))) W (wl ++ [x]) := by
  show upd _ _ _ _ = _
  rw [upd_same, List.map_append]
  rfl
theorem seqIx0 {n : Nat} (h : 0 < n) : seqIndex? 0 n = some 0 := seqIndex_of (k := (0 : Int)) (by omega) (by omega)
section
variable {P : Program} {w : World} {K : PySem.W.Frag} {mg : Str → Option Value} {base : Heap}
/-! ### _law_lot -/
def spLot (K : PySem.W.Frag) : Sp := fun vs H Q _ => ∃ (B : List Addr) (b : Addr) (n : Nat) (v : V) (ps : List Str) (ss : List PyData) (T G : Addr) (ws gs : List Str) (m : Nat), vs = [.ref b, v, .ref T, .ref G, .int m] ∧ b ∈ B ∧ T ∈ B ∧ G ∈ B ∧ T ≠ G ∧ Live B H ∧ BoxAt H b n ∧
  0 < m ∧ m ≤ 10 ∧ n + 1000 ≤ 2 ^ 40 ∧ SetH K (hide B H) v ps ss ∧ NmAt H T ws ∧ NmAt H G gs ∧ (∀ g ∈ ws, wordS g = true) ∧ (∀ g ∈ gs, wordS g = true) ∧ 2 * m ≤ ws.length ∧ gs.length ≤ 50 ∧
  ∀ (v' : V) (its : List It) (ws' : List Str) (H' : Hp), LotFin ps ss.length gs its → its.length ≤ m → ws = lotTags its ++ ws' → SameX [b, T, G] H H' → BoxAt H' b (n + 1 + 24 * m) → NmAt H' T ws' → NmAt H' G (gs ++ lotTags its) → Dp K (hide B H') v' (.tuple (lotDs its)) → Q v' H'
abbrev nLot : List Str := ["_law_box_here", "_law_setup_so", "_law_tags_so", "_law_gone", "_law_many_so", "_law_batch", "_law_is_first", "_law_turn", "_law_tag", "_law_words", "_law_deed_here", "_law_way", "_law_timer"]
theorem scLot : FnScope nLot ["_law_box_here", "_law_setup_so", "_law_tags_so", "_law_gone", "_law_many_so"] (defScope sLot) :=
  ⟨rfl, rfl, rfl, by decide +kernel, rfl, by decide +kernel, by decide +kernel⟩
theorem ok_lot {f fT fD fE : Addr} {fd fdT fdD fdE : FuncData} {k : Nat} (F : Fun K "_law_lot" "_law_lot" sLot f fd)
    (FT : Fun K "_law_take" "_law_take" sTake fT fdT) (bT : Binds K fdT ["_law_box_here", "_law_below"] []) (mT : mg "_law_take" = some (.ref fT)) (GT : FnOk P w K mg base CX0 (k + 4) fT fdT ["_law_box_here", "_law_below"] spTake)
    (FD : Fun K "_law_deed" "_law_deed" sDeed fD fdD) (bD : Binds K fdD ["_law_box_here", "_law_setup_so", "_law_gone"] []) (mD : mg "_law_deed" = some (.ref fD)) (GD : FnOk P w K mg base CX0 (k + 4) fD fdD ["_law_box_here", "_law_setup_so", "_law_gone"] (spDeed K))
    (FE : Fun K "_law_ended" "_law_ended" sEnded fE fdE) (bE : Binds K fdE ["_law_batch"] []) (mE : mg "_law_ended" = some (.ref fE)) (GE : FnOk P w K mg base CX0 (k + 4) fE fdE ["_law_batch"] (spEnded K))
    (mr : mg "range" = none) (mt : mg "tuple" = none) (ms : mg "sorted" = none) : FnOk P w K mg base CX0 (k + 5) f fd ["_law_box_here", "_law_setup_so", "_law_tags_so", "_law_gone", "_law_many_so"] (spLot K) := by
  refine F.ok scLot (fun vs H Q E h => ?_) (fun cdv A outer s H vs Q E hr h => ?_)
  · obtain ⟨B, b, n, v, ps, ss, T, G, ws, gs, m, rfl, _⟩ := h
    rfl
  · obtain ⟨B, b, n, v, ps, ss, T, G, ws, gs, m, rfl, hb, hT, hG, TG, lv, hB, hm0, hm, hn, hS, tn, gn, wws, wgs, lws, lgs, q⟩ := h
    refine ⟨_, pss_cons (ps_par (i := 5) (j := 6) rfl scLot.nd rfl rfl (by decide) rfl rfl (pa_cons (pe_lst pa_nil) (pa_cons pe_bl pa_nil)) (by rfl))
      (pss_cons (ps_for PassesOwn.never rfl (pi_range1 (by rfl) mr (pa_cons (pe_op op_add pe_int (pe_call GT hr (by rfl) mT FT.kp bT .nil pass0 (pa_cons (pv 0) (pa_cons (pv 4) pa_nil)))) pa_nil)) (pg_name (i := 7) scLot.nd rfl (.inl rfl))
        (pss_cons (ps_par (i := 8) (j := 9) rfl scLot.nd rfl rfl (by decide) rfl rfl (pa_cons (pe_bm PySem.F.plainAttrs_list PySem.F.slot_list_pop PySem.F.type_list_pop mt_popAt (pv 2) (pa_cons pe_int pa_nil)) (pa_cons (pe_lst pa_nil) pa_nil)) (by rfl))
        (pss_cons (ps_set (i := 10) scLot.nd rfl (.inl rfl) (pe_call GD hr (by rfl) mD FD.kp bD .nil pass0 (pa_cons (pv 0) (pa_cons (pv 1) (pa_cons (pv 3) pa_nil)))))
        (pss_cons (ps_expr (pe_bm PySem.F.plainAttrs_list PySem.F.slot_list_append PySem.F.type_list_append mt_append (pv 3) (pa_cons (pv 8) pa_nil)))
        (pss_cons (ps_if (PW.pt (pw_and (pt_val (pv 6)) (pw_and1 (pt_cmpR op_eq (pe_call GT hr (by rfl) mT FT.kp bT .nil pass0 (pa_cons (pv 0) (pa_cons pe_int pa_nil))) pe_int (nomark _)))))
          (pss_one (ps_expr (pe_bm PySem.F.plainAttrs_list PySem.F.slot_list_append PySem.F.type_list_append mt_append (pv 9) (pa_cons pe_str pa_nil)))) pss_nil)
        (pss_cons (ps_if (PW.pt (pw_and (pt_cmpR (op_inK (K := K) rfl) (pe_ix ix_seq (pv 10) pe_int (fun _ _ => rfl)) (pe_tup (pa_cons pe_str (pa_cons pe_str pa_nil))) (by rfl)) (pw_and1 (pt_cmpR op_eq (pe_call GT hr (by rfl) mT FT.kp bT .nil pass0 (pa_cons (pv 0) (pa_cons pe_int pa_nil))) pe_int (nomark _)))))
          (pss_one (ps_expr (pe_bm PySem.F.plainAttrs_list PySem.F.slot_list_append PySem.F.type_list_append mt_append (pv 9) (pa_cons pe_str pa_nil)))) pss_nil)
        (pss_cons (ps_if (PW.pt (pw_and (pt_cmpR (op_inT2 (K := K) rfl hr.units) (pv 10) (pe_tup (pa_cons (pe_tup (pa_cons pe_str pa_nil)) (pa_cons (pe_tup (pa_cons pe_str (pa_cons pe_bl pa_nil))) pa_nil))) (by rfl)) (pw_and1 (pt_cmpR op_eq (pe_call GT hr (by rfl) mT FT.kp bT .nil pass0 (pa_cons (pv 0) (pa_cons pe_int pa_nil))) pe_int (nomark _)))))
          (pss_one (ps_expr (pe_bm PySem.F.plainAttrs_list PySem.F.slot_list_append PySem.F.type_list_append mt_append (pv 9) (pa_cons pe_str pa_nil)))) pss_nil)
        (pss_cons (ps_set (i := 11) scLot.nd rfl (.inl rfl) (pe_call GT hr (by rfl) mT FT.kp bT .nil pass0 (pa_cons (pv 0) (pa_cons pe_int pa_nil))))
        (pss_cons (ps_if (pt_cmpR op_lt (pv 11) pe_int (nomark _))
          (pss_one (ps_expr (pe_bm PySem.F.plainAttrs_list PySem.F.slot_list_append PySem.F.type_list_append mt_append (pv 9) (pa_cons (pe_ifExp (pt_cmpR op_eq (pv 11) pe_int (nomark _)) pe_str pe_str) pa_nil)))) pss_nil)
        (pss_cons (ps_expr (pe_bm PySem.F.plainAttrs_list PySem.F.slot_list_append PySem.F.type_list_append mt_append (pv 5) (pa_cons (pe_tup (pa_cons (pv 8) (pa_cons (pv 10) (pa_cons (pe_callTy call_tuple_of (by rfl) mt PyProof.Rows.boot_tuple (pa_cons (pe_callB cr_sortedS (by rfl) ms boot_sorted (pa_cons (pv 9) pa_nil)) pa_nil)) pa_nil)))) pa_nil)))
        (pss_cons (ps_set (i := 6) scLot.nd rfl (.inl rfl) (pe_cmpR op_gt (pv 11) pe_int (nomark _)))
        (pss_one (ps_if (PW.pt (pw_and (pt_cmpR op_lt (pv 11) pe_int (nomark _)) (pw_and1 (pt_cmpR op_eq (pe_call GT hr (by rfl) mT FT.kp bT .nil pass0 (pa_cons (pv 0) (pa_cons pe_int pa_nil))) pe_int (nomark _)))))
          (pss_cons (ps_set (i := 12) scLot.nd rfl (.inl rfl) (pe_bm PySem.F.plainAttrs_list PySem.F.slot_list_pop PySem.F.type_list_pop mt_popAt (pv 2) (pa_cons pe_int pa_nil)))
          (pss_cons (ps_expr (pe_bm PySem.F.plainAttrs_list PySem.F.slot_list_append PySem.F.type_list_append mt_append (pv 3) (pa_cons (pv 12) pa_nil)))
          (pss_one (ps_expr (pe_bm PySem.F.plainAttrs_list PySem.F.slot_list_append PySem.F.type_list_append mt_append (pv 5) (pa_cons (pe_tup (pa_cons (pv 12) (pa_cons (pe_tup (pa_cons pe_str (pa_cons (pe_call GT hr (by rfl) mT FT.kp bT .nil pass0 (pa_cons (pv 0) (pa_cons pe_int pa_nil))) pa_nil))) (pa_cons (pe_tup pa_nil) pa_nil)))) pa_nil)))))) pss_nil)))))))))))))
      (pss_one (ps_ret (pe_call GE hr (by rfl) mE FE.kp bE .nil pass0 (pa_cons (pv 5) pa_nil))))), ?_⟩
    refine ⟨by show 0 ≤ sizeLine; decide, fun D nD => ⟨_, _, rfl, ?_⟩⟩
    have nDB : D ∉ B := lv.new nD
    have neD : ∀ {c : Addr}, c ∈ B → D ≠ c := fun hc e => nDB (e ▸ hc)
    have oD : LOk (D :: B) b T G D H := ⟨List.mem_cons_of_mem _ hb, List.mem_cons_of_mem _ hT, List.mem_cons_of_mem _ hG, List.mem_cons_self, TG, tn.ne_box hB, gn.ne_box hB, neD hb, neD hT, neD hG, nD⟩
    have sD : Same H (upd H D (.lst [])) := same_upd nD
    have eD : Same (hide B H) (hide (D :: B) (upd H D (.lst []))) := SameX.enter (C := []) (sameX_upd List.mem_cons_self) (fun _ z => absurd z List.not_mem_nil) nD
    have lf0 : LF K (D :: B) b T G D v ps ss H (upd H D (.lst [])) n ws gs [] [] := ⟨SameX.of sD, hB.same sD, sD _ _ tn, sD _ _ gn, upd_same, .nil, hS.same eD, (lv.same sD).cons (o := .lst []) upd_same⟩
    generalize upd H D (.lst []) = H1 at lf0
    refine ⟨_, rfl, _, rfl, b, n, m, rfl, by omega, by omega, lf0.bx, by omega, fun r H2 r0 r1 s2 b2 => ?_⟩
    obtain ⟨j, rfl⟩ : ∃ j : Nat, r = j := ⟨r.toNat, by omega⟩
    have lf1 := lf0.box oD s2 b2
    refine ⟨_, _, rfl, rfl, _, rfl, by omega, by omega, for_range (lo := 0) (n := ((1 : Int) + j).toNat) (fun i σ H' => ∃ (first : Bool) (y7 y8 y9 y10 y11 y12 : Option V) (its : List It) (ws' : List Str) (xs : List V),
        σ = [some (.ref b), some v, some (.ref T), some (.ref G), some (.int m), some (.ref D), some (.bl first), y7, y8, y9, y10, y11, y12] ∧ LF K (D :: B) b T G D v ps ss H H' (n + 1 + 24 * i) ws' (gs ++ lotTags its) xs (lotDs its) ∧
        LotOk ps ss.length gs its ∧ its.length = i ∧ ws = lotTags its ++ ws' ∧ (first = true → openLast its))
      ⟨true, none, none, none, none, none, none, [], ws, [], rfl, by rw [show gs ++ lotTags [] = gs from List.append_nil gs]; exact lf1, LotOk.nil, rfl, rfl, fun _ => .inl rfl⟩ ?_ ?_⟩
    · rintro i σ H' hi ⟨first, y7, y8, y9, y10, y11, y12, its, ws', xs, rfl, lf, lo, li, hw, hfst⟩
      have tl := tagsLen its
      have lw : ws.length = (lotTags its).length + ws'.length := by rw [hw, List.length_append]
      have hw2 : 2 ≤ ws'.length := by omega
      cases ws' with
      | nil => simp at hw2
      | cons t ws1 =>
      refine ⟨_, rfl, .inl ⟨rfl, _, .inl (.inl lf.tn)⟩, T, _, 0, 0, .str t, rfl, rfl, lf.tn, by decide, by decide, seqIx0 (Nat.succ_pos _), rfl, by show 0 ≤ sizeLine; decide, fun W nW => ⟨_, _, rfl, ?_⟩⟩
      have lfp := lf.pop oD
      replace nW : (upd H' T (.lst (ws1.map V.str))) W = none := nW
      obtain ⟨nW0, hbW, hTW, hGW, hDW⟩ := lfp.new nW
      have oW := oD.more W
      have lfW := lfp.enter nW (ho := .lst [])
      have wn : NmAt (upd (upd H' T (.lst (ws1.map V.str))) W (.lst [])) W [] := upd_same
      show Ends.nx _ _ (upd (upd H' T (.lst (ws1.map V.str))) W (.lst []))
      generalize upd (upd H' T (.lst (ws1.map V.str))) W (.lst []) = H3 at lfW wn
      have wt : wordS t = true := wws t (by rw [hw]; exact List.mem_append_right _ List.mem_cons_self)
      have wg1 : ∀ g ∈ gs ++ lotTags its, wordS g = true := fun g hg => by
        rcases List.mem_append.mp hg with hg | hg
        · exact wgs g hg
        · exact wws g (by rw [hw]; exact List.mem_append_left _ hg)
      have hi10 : i ≤ 10 := by omega
      refine ⟨_, rfl, _, rfl, _, rfl, W :: D :: B, b, _, v, ps, ss, G, _, rfl, oW.hb, lfW.lv, lfW.bx, by omega, lfW.se, lfW.gn, wg1, by rw [List.length_append]; omega, fun vd dd H4 hdd s4 b4 dd4 => ?_⟩
      have lf4 := lfW.box oW s4 b4
      have wn4 := wn.up lfW.bx s4
      refine ⟨_, rfl, .inl ⟨rfl, _, .inl (.inl lf4.gn)⟩, _, rfl, G, _, .str t, rfl, rfl, lf4.gn, small1000 (by rw [List.length_map, List.length_append]; omega), ?_⟩
      have lf5 := lf4.gone oW t
      have wn5 : NmAt (upd H4 G (.lst ((gs ++ lotTags its).map V.str ++ [.str t]))) W [] := nm_upd wn4 hGW.symm
      have dd5 : Dp K (hide (W :: D :: B) (upd H4 G (.lst ((gs ++ lotTags its).map V.str ++ [.str t])))) vd dd := by rw [hide_upd_in oW.hG]; exact dd4
      show Ends.nx _ _ (upd H4 G (.lst ((gs ++ lotTags its).map V.str ++ [.str t])))
      generalize upd H4 G (.lst ((gs ++ lotTags its).map V.str ++ [.str t])) = H5 at lf5 wn5 dd5
      have mW : W ∈ W :: D :: B := List.mem_cons_self
      have word : ∀ {H6 : Hp} {n' : Nat} {wl : List Str} (x : Str), LF K (W :: D :: B) b T G D v ps ss H H6 n' ws1 (gs ++ lotTags its ++ [t]) xs (lotDs its) → Dp K (hide (W :: D :: B) H6) vd dd →
          LF K (W :: D :: B) b T G D v ps ss H (upd H6 W (.lst (wl.map V.str ++ [.str x]))) n' ws1 (gs ++ lotTags its ++ [t]) xs (lotDs its) ∧ NmAt (upd H6 W (.lst (wl.map V.str ++ [.str x]))) W (wl ++ [x]) ∧ Dp K (hide (W :: D :: B) (upd H6 W (.lst (wl.map V.str ++ [.str x])))) vd dd :=
        fun x l6 d6 => ⟨l6.other oW mW nW0 hbW hTW hGW hDW, nm_app, by rw [hide_upd_in mW]; exact d6⟩
      dsimp only
      refine seq_named (P := fun σ' H6 => ∃ (n' : Nat) (dr : Bool), σ' = [some (.ref b), some v, some (.ref T), some (.ref G), some (.int m), some (.ref D), some (.bl first), some (.int (0 + (i : Int))), some (.str t), some (.ref W), some vd, y11, y12] ∧
        LF K (W :: D :: B) b T G D v ps ss H H6 n' ws1 (gs ++ lotTags its ++ [t]) xs (lotDs its) ∧ NmAt H6 W (flagW dr "drain") ∧ Dp K (hide (W :: D :: B) H6) vd dd ∧ n' ≤ n + 24 * i + 14 ∧ (dr = true → first = true)) (fun hR => ?_) ?_
      · cases first with
        | false => exact ⟨_, rfl, false, rfl, iteF (iteF (hR _ _ ⟨_, false, rfl, lf5, wn5, dd5, by omega, fun z => by cases z⟩))⟩
        | true =>
          refine ⟨_, rfl, true, rfl, iteT ⟨_, rfl, b, _, 5, rfl, by decide, by decide, lf5.bx, by omega, fun r6 H6 r60 r61 s6 b6 => ⟨rfl, _, rfl, ite2 (fun e => ?_) (fun e => ?_)⟩⟩⟩
          · have l6 := lf5.box oW s6 b6
            have wn6 := wn5.up lf5.bx s6
            have d6 := dp_same (s6.hide fun c hc => by rw [List.mem_singleton.mp hc]; exact oW.hb) dd5
            obtain ⟨q1, q2, q3⟩ := word (wl := []) "drain" l6 d6
            exact ⟨_, rfl, .inl ⟨rfl, _, .inl (.inl wn6)⟩, W, _, .str "drain", rfl, rfl, wn6, by decide, hR _ _ ⟨_, true, rfl, q1, q2, q3, by omega, fun _ => rfl⟩⟩
          · exact hR _ _ ⟨_, false, rfl, lf5.box oW s6 b6, wn5.up lf5.bx s6, dp_same (s6.hide fun c hc => by rw [List.mem_singleton.mp hc]; exact oW.hb) dd5, by omega, fun z => by cases z⟩
      rintro σ6 H6 ⟨n6, dr, rfl, lf6, wn6, dd6, hn6, hdr⟩
      have hsb : ∀ c ∈ [b], c ∈ W :: D :: B := fun c hc => by rw [List.mem_singleton.mp hc]; exact oW.hb
      have lss := hS.lss
      have dgood := deed_good hdd lss hS.wps wg1
      obtain ⟨wd, ⟨rest, erest⟩, hwd⟩ := hdd.word
      refine seq_named (P := fun σ' H7 => ∃ (n' : Nat) (pk : Bool), σ' = [some (.ref b), some v, some (.ref T), some (.ref G), some (.int m), some (.ref D), some (.bl first), some (.int (0 + (i : Int))), some (.str t), some (.ref W), some vd, y11, y12] ∧
        LF K (W :: D :: B) b T G D v ps ss H H7 n' ws1 (gs ++ lotTags its ++ [t]) xs (lotDs its) ∧ NmAt H7 W (flagW dr "drain" ++ flagW pk "pick") ∧ Dp K (hide (W :: D :: B) H7) vd dd ∧ n' ≤ n + 24 * i + 15 ∧ (pk = true → wd ∈ [Str.ofString "read", Str.ofString "reads"])) (fun hR => ?_) ?_
      · have dd6' := dd6
        rw [erest] at dd6'
        obtain ⟨a2, xs2, ea, S2, A2⟩ := dp_tupR dd6'
        cases A2 with
        | cons f1 f2 =>
          cases f1
          have wn6' : NmAt H6 W (flagW dr "drain" ++ flagW false "pick") := by
            show NmAt H6 W (flagW dr "drain" ++ [])
            rw [List.append_nil]
            exact wn6
          refine ⟨_, rfl, .inr (.inl ⟨a2, _, 0, _, ea, rfl, same_seqT (hide_same _ H6) S2, atI_nat (j := 0) rfl, by show 2 ≤ sizeLine; decide, fun p np => ⟨p, _, rfl, .inr (SqT.of upd_same), rfl, flat_strs [Str.ofString "read", Str.ofString "reads"], _, rfl, ?_⟩⟩)⟩
          have hin : inV (.str wd) [V.str (Str.ofString "read"), V.str (Str.ofString "reads")] = decide (wd ∈ [Str.ofString "read", Str.ofString "reads"]) := in_strs wd [Str.ofString "read", Str.ofString "reads"]
          have sp := same_upd (o := HO.tup [V.str (Str.ofString "read"), V.str (Str.ofString "reads")]) np
          have lf7 := lf6.alloc sp
          have wn7 : NmAt (upd H6 p (HO.tup [V.str (Str.ofString "read"), V.str (Str.ofString "reads")])) W (flagW dr "drain" ++ flagW false "pick") := sp _ _ wn6'
          have dd7 := dp_same (hide_of_same (B := W :: D :: B) sp) dd6
          rw [hin, if_neg (by decide)]
          by_cases hm' : wd ∈ [Str.ofString "read", Str.ofString "reads"]
          · rw [decide_eq_true hm']
            refine iteT ⟨_, rfl, b, _, 4, rfl, by decide, by decide, lf7.bx, by omega, fun r8 H8 r80 r81 s8 b8 => ⟨rfl, _, rfl, ite2 (fun e => ?_) (fun e => ?_)⟩⟩
            · have l8 := lf7.box oW s8 b8
              have wn8 := wn7.up lf7.bx s8
              have d8 := dp_same (s8.hide hsb) dd7
              obtain ⟨q1, q2, q3⟩ := word (wl := flagW dr "drain" ++ flagW false "pick") "pick" l8 d8
              have q2' : NmAt (upd H8 W (.lst ((flagW dr "drain" ++ flagW false "pick").map V.str ++ [.str "pick"]))) W (flagW dr "drain" ++ flagW true "pick") := by
                rw [List.append_assoc] at q2
                exact q2
              exact ⟨_, rfl, .inl ⟨rfl, _, .inl (.inl wn8)⟩, W, _, .str "pick", rfl, rfl, wn8, by cases dr <;> decide, hR _ _ ⟨_, true, rfl, q1, q2', q3, by omega, fun _ => hm'⟩⟩
            · exact hR _ _ ⟨_, false, rfl, lf7.box oW s8 b8, wn7.up lf7.bx s8, dp_same (s8.hide hsb) dd7, by omega, fun z => by cases z⟩
          · rw [decide_eq_false hm']
            exact iteF (iteF (hR _ _ ⟨_, false, rfl, lf7, wn7, dd7, by omega, fun z => by cases z⟩))
      rintro σ7 H7 ⟨n7, pk, rfl, lf7, wn7, dd7, hn7, hpk⟩
      refine seq_named (P := fun σ' H8 => ∃ (n' : Nat) (si : Bool), σ' = [some (.ref b), some v, some (.ref T), some (.ref G), some (.int m), some (.ref D), some (.bl first), some (.int (0 + (i : Int))), some (.str t), some (.ref W), some vd, y11, y12] ∧
        LF K (W :: D :: B) b T G D v ps ss H H8 n' ws1 (gs ++ lotTags its ++ [t]) xs (lotDs its) ∧ NmAt H8 W (flagW dr "drain" ++ flagW pk "pick" ++ flagW si "silent") ∧ Dp K (hide (W :: D :: B) H8) vd dd ∧ n' ≤ n + 24 * i + 16 ∧ (si = true → dd = .tuple [.str "nop"] ∨ dd = .tuple [.str "work", .bool true])) (fun hR => ?_) ?_
      · have wn7' : NmAt H7 W (flagW dr "drain" ++ flagW pk "pick" ++ flagW false "silent") := by
          show NmAt H7 W (flagW dr "drain" ++ flagW pk "pick" ++ [])
          rw [List.append_nil]
          exact wn7
        refine ⟨_, rfl, by show 1 ≤ sizeLine; decide, fun p1 n1 => ⟨by show 2 ≤ sizeLine; decide, fun p2 n2 => ⟨by show 2 ≤ sizeLine; decide, fun p3 n3 => ?_⟩⟩⟩
        have u1 := same_upd (o := HO.tup [V.str (Str.ofString "nop")]) n1
        have u2 := same_upd (o := HO.tup [V.str (Str.ofString "work"), V.bl true]) n2
        have u3 := same_upd (o := HO.tup [V.ref p1, V.ref p2]) n3
        have k1 : Dp K _ (.ref p1) (.tuple [.str "nop"]) := .tup (SqT.of (same_upd (o := HO.tup [V.ref p1, V.ref p2]) n3 _ _ (same_upd (o := HO.tup [V.str (Str.ofString "work"), V.bl true]) n2 _ _ (upd_same (H := H7) (a := p1) (o := HO.tup [V.str (Str.ofString "nop")]))))) (.cons (.str _) .nil)
        have k2 : Dp K _ (.ref p2) (.tuple [.str "work", .bool true]) := .tup (SqT.of (same_upd (o := HO.tup [V.ref p1, V.ref p2]) n3 _ _ upd_same)) (.cons (.str _) (.cons (.bl true) .nil))
        have u := (u1.trans u2).trans u3
        refine ⟨dd, [.tuple [.str "nop"], .tuple [.str "work", .bool true]], dp_same u (dp_same (hide_same _ H7) dd7), .tup (SqT.of upd_same) (.cons k1 (.cons k2 .nil)), by decide +kernel, gD_lay _ _ dgood, by decide +kernel, _, rfl, ?_⟩
        have lf8 := lf7.alloc u
        have wn8 : NmAt _ W (flagW dr "drain" ++ flagW pk "pick" ++ flagW false "silent") := u _ _ wn7'
        have dd8 := dp_same (hide_of_same (B := W :: D :: B) u) dd7
        cases hs : ([PyData.tuple [.str "nop"], PyData.tuple [.str "work", .bool true]].any fun z => PyData.eqv z dd) with
        | true =>
          have hsi := silent_of hdd hs
          refine iteT ⟨_, rfl, b, _, 4, rfl, by decide, by decide, lf8.bx, by omega, fun r9 H9 r90 r91 s9 b9 => ⟨rfl, _, rfl, ite2 (fun e => ?_) (fun e => ?_)⟩⟩
          · have l9 := lf8.box oW s9 b9
            have wn9 := wn8.up lf8.bx s9
            have d9 := dp_same (s9.hide hsb) dd8
            obtain ⟨q1, q2, q3⟩ := word (wl := flagW dr "drain" ++ flagW pk "pick" ++ flagW false "silent") "silent" l9 d9
            have q2' : NmAt (upd H9 W (.lst ((flagW dr "drain" ++ flagW pk "pick" ++ flagW false "silent").map V.str ++ [.str "silent"]))) W (flagW dr "drain" ++ flagW pk "pick" ++ flagW true "silent") := by
              rw [List.append_assoc (flagW dr "drain" ++ flagW pk "pick")] at q2
              exact q2
            exact ⟨_, rfl, .inl ⟨rfl, _, .inl (.inl wn9)⟩, W, _, .str "silent", rfl, rfl, wn9, by cases dr <;> cases pk <;> decide, hR _ _ ⟨_, true, rfl, q1, q2', q3, by omega, fun _ => hsi⟩⟩
          · exact hR _ _ ⟨_, false, rfl, lf8.box oW s9 b9, wn8.up lf8.bx s9, dp_same (s9.hide hsb) dd8, by omega, fun z => by cases z⟩
        | false => exact iteF (iteF (hR _ _ ⟨_, false, rfl, lf8, wn8, dd8, by omega, fun z => by cases z⟩))
      rintro σ8 H8 ⟨n8, si, rfl, lf8, wn8, dd8, hn8, hsi⟩
      refine ⟨_, rfl, b, _, 6, rfl, by decide, by decide, lf8.bx, by omega, fun r9 H9 r90 r91 s9 b9 => ?_⟩
      have lf9 := lf8.box oW s9 b9
      have wn9 := wn8.up lf8.bx s9
      have dd9 := dp_same (s9.hide hsb) dd8
      show Ends.nx _ _ H9
      dsimp only
      refine seq_named (P := fun σ' H10 => ∃ (ln : Option Bool), σ' = [some (.ref b), some v, some (.ref T), some (.ref G), some (.int m), some (.ref D), some (.bl first), some (.int (0 + (i : Int))), some (.str t), some (.ref W), some vd, some (.int r9), y12] ∧
        LF K (W :: D :: B) b T G D v ps ss H H10 (n8 + 1) ws1 (gs ++ lotTags its ++ [t]) xs (lotDs its) ∧ NmAt H10 W (flagW dr "drain" ++ flagW pk "pick" ++ flagW si "silent" ++ lnWords ln) ∧ Dp K (hide (W :: D :: B) H10) vd dd ∧ (ln.isSome = decide (r9 < 3))) (fun hR => ?_) ?_
      · refine ⟨_, rfl, _, _, rfl, rfl, _, rfl, ite2 (fun e => ?_) (fun e => ?_)⟩
        · have e3 := of_decide_eq_true e
          refine ⟨_, rfl, .inl ⟨rfl, _, .inl (.inl wn9)⟩, _, rfl, rfl, _, rfl, ite2 (fun e0 => ?_) (fun e0 => ?_)⟩
          · obtain ⟨q1, q2, q3⟩ := word (wl := flagW dr "drain" ++ flagW pk "pick" ++ flagW si "silent") "hard" lf9 dd9
            exact ⟨W, _, .str "hard", rfl, rfl, wn9, by cases dr <;> cases pk <;> cases si <;> decide, hR _ _ ⟨some true, rfl, q1, q2, q3, e.symm⟩⟩
          · obtain ⟨q1, q2, q3⟩ := word (wl := flagW dr "drain" ++ flagW pk "pick" ++ flagW si "silent") "link" lf9 dd9
            exact ⟨W, _, .str "link", rfl, rfl, wn9, by cases dr <;> cases pk <;> cases si <;> decide, hR _ _ ⟨some false, rfl, q1, q2, q3, e.symm⟩⟩
        · have ef : decide (r9 < 3) = false := Bool.eq_false_iff.mpr e
          refine hR _ _ ⟨none, rfl, lf9, ?_, dd9, ef.symm⟩
          show NmAt H9 W (flagW dr "drain" ++ flagW pk "pick" ++ flagW si "silent" ++ [])
          rw [List.append_nil]
          exact wn9
      rintro σ10 H10 ⟨ln, rfl, lf10, wn10, dd10, hln⟩
      have lx := dps_len lf10.dx
      have ld := lotDs_len its
      refine ⟨_, rfl, .inl ⟨rfl, _, .inl (.inl lf10.bt)⟩, _, rfl, _, rfl, _, rfl, W, _, rfl, SqL.of wn10, by cases dr <;> cases pk <;> cases si <;> rcases ln with _ | _ | _ <;> decide, fun ys p2 pm hs np2 => ⟨p2, _, rfl, .inl ⟨SqL.of upd_same, fun p3 np3 => ⟨by show 3 ≤ sizeLine; decide, fun p4 n4 => ?_⟩⟩⟩⟩
      have eys := sortedF pm hs
      subst eys
      generalize hW : wordsF dr pk si ln = ys at *
      have u2 := same_upd (o := HO.lst (ys.map V.str)) np2
      have u3 := same_upd (o := HO.tup (ys.map V.str)) np3
      have u4 := same_upd (o := HO.tup [.str t, vd, .ref p3]) n4
      have lfb := lf10.alloc (u2.trans u3)
      have k3 : Dp K (hide (W :: D :: B) _) (.ref p3) (.tuple (ys.map PyData.str)) := dp_new (lf10.alloc u2).lv np3 (dps_strs ys)
      have k4 := dp_new lfb.lv n4 (DpAll.cons (.str t) (.cons (dp_same (hide_of_same (u2.trans u3)) dd10) (.cons k3 .nil)))
      have lfc := lfb.alloc u4
      have lfd := lfc.batch oW k4
      refine ⟨D, _, _, rfl, rfl, lfc.bt, small1000 (by omega), ?_⟩
      have lit : ∀ (t' : Option (Str × Int)), (∀ t2, t' = some t2 → ln.isSome = true ∧ wordS t2.1 = true ∧ 0 ≤ t2.2 ∧ t2.2 ≤ 8) → LotOk ps ss.length gs (its ++ [{ tag := t, deed := dd, dr := dr, pk := pk, si := si, ln := ln, timer := t' }]) := fun t' ht' =>
        lo.snoc ⟨hdd, wt, fun hp => ⟨wd, rest, erest, hpk hp⟩, hsi, ht'⟩ fun h => hfst (hdr h)
      show Ends.nx _ _ (upd (upd (upd (upd H10 p2 (.lst (ys.map V.str))) p3 (.tup (ys.map V.str))) p4 (.tup [.str t, vd, .ref p3])) D (.lst (xs ++ [.ref p4])))
      generalize upd (upd (upd (upd H10 p2 (.lst (ys.map V.str))) p3 (.tup (ys.map V.str))) p4 (.tup [.str t, vd, .ref p3])) D (.lst (xs ++ [.ref p4])) = H11 at lfd
      have lfe : LF K (W :: D :: B) b T G D v ps ss H H11 (n8 + 1) ws1 (gs ++ lotTags its ++ [t]) (xs ++ [.ref p4]) (lotDs its ++ [itD { tag := t, deed := dd, dr := dr, pk := pk, si := si, ln := ln, timer := none }]) := by
        unfold itD itWords
        rw [hW]
        exact lfd
      dsimp only
      have fin : ∀ {H12 : Hp} {n' : Nat} (y12' : Option V), LF K (W :: D :: B) b T G D v ps ss H H12 n' ws1 (gs ++ lotTags its ++ [t]) (xs ++ [.ref p4]) (lotDs its ++ [itD { tag := t, deed := dd, dr := dr, pk := pk, si := si, ln := ln, timer := none }]) → n' ≤ n + 24 * i + 19 →
          ∃ (first : Bool) (y7 y8 y9 y10 y11 y12 : Option V) (its : List It) (ws' : List Str) (xs : List V),
        [some (.ref b), some v, some (.ref T), some (.ref G), some (.int m), some (.ref D), some (.bl (decide (2 < r9))), some (.int (0 + (i : Int))), some (.str t), some (.ref W), some vd, some (.int r9), y12'] = [some (.ref b), some v, some (.ref T), some (.ref G), some (.int m), some (.ref D), some (.bl first), y7, y8, y9, y10, y11, y12] ∧ LF K (D :: B) b T G D v ps ss H H12 (n + 1 + 24 * (i + 1)) ws' (gs ++ lotTags its) xs (lotDs its) ∧
        LotOk ps ss.length gs its ∧ its.length = i + 1 ∧ ws = lotTags its ++ ws' ∧ (first = true → openLast its) := by
        intro H12 n' y12' l12 hn'
        refine ⟨_, _, _, _, _, _, _, its ++ [{ tag := t, deed := dd, dr := dr, pk := pk, si := si, ln := ln, timer := none }], ws1, xs ++ [.ref p4], rfl, ?_, lit none (fun t2 z => by cases z), by rw [List.length_append, li]; rfl, ?_, fun hf => .inr ⟨_, List.getLast?_concat, ?_⟩⟩
        · rw [lotTags_snoc, lotDs_snoc, ← List.append_assoc]
          exact (l12.leave).le (by omega)
        · rw [lotTags_snoc, hw, List.append_assoc]
          rfl
        · have h2 := of_decide_eq_true hf
          cases hl : ln with
          | none => rfl
          | some c =>
            rw [hl] at hln
            have h3 : true = decide (r9 < 3) := hln
            have h4 := of_decide_eq_true h3.symm
            omega
      refine ⟨_, rfl, _, _, rfl, rfl, _, rfl, _, _, rfl, rfl, _, rfl, ite2 (fun e => ?_) (fun e => ?_)⟩
      · refine ⟨_, rfl, b, _, 3, rfl, by decide, by decide, lfe.bx, by omega, fun r12 H12 r120 r121 s12 b12 => ⟨rfl, _, rfl, ite2 (fun e2 => ?_) (fun e2 => ?_)⟩⟩
        · have lf12 := lfe.box oW s12 b12
          cases ws1 with
          | nil => simp at hw2
          | cons t2 ws2 =>
          refine ⟨_, rfl, .inl ⟨rfl, _, .inl (.inl lf12.tn)⟩, T, _, 0, 0, .str t2, rfl, rfl, lf12.tn, by decide, by decide, seqIx0 (Nat.succ_pos _), rfl, ?_⟩
          have lf13 := lf12.pop oW
          show Ends.nx _ _ (upd H12 T (.lst (ws2.map V.str)))
          generalize upd H12 T (.lst (ws2.map V.str)) = H13 at lf13
          refine ⟨_, rfl, .inl ⟨rfl, _, .inl (.inl lf13.gn)⟩, _, rfl, G, _, .str t2, rfl, rfl, lf13.gn, small1000 (by simp only [List.length_map, List.length_append, List.length_cons, List.length_nil]; omega), ?_⟩
          have lf14 := lf13.gone oW t2
          show Ends.nx _ _ (upd H13 G (.lst ((gs ++ lotTags its ++ [t]).map V.str ++ [.str t2])))
          generalize upd H13 G (.lst ((gs ++ lotTags its ++ [t]).map V.str ++ [.str t2])) = H14 at lf14
          refine ⟨_, rfl, .inl ⟨rfl, _, .inl (.inl lf14.bt)⟩, _, rfl, _, rfl, b, _, 9, rfl, by decide, by decide, lf14.bx, by omega, fun r15 H15 r150 r151 s15 b15 => ⟨by show 2 ≤ sizeLine; decide, fun p6 n6 => ⟨by show 0 ≤ sizeLine; decide, fun p7 n7 => ⟨by show 3 ≤ sizeLine; decide, fun p8 n8 => ?_⟩⟩⟩⟩
          have lf15 := lf14.box oW s15 b15
          have v6 := same_upd (o := HO.tup [V.str (Str.ofString "linktimeout"), V.int r15]) n6
          have v7 := same_upd (o := HO.tup []) n7
          have v8 := same_upd (o := HO.tup [V.str t2, V.ref p6, V.ref p7]) n8
          have j6 := dp_new (K := K) lf15.lv n6 (DpAll.cons (.str (Str.ofString "linktimeout")) (.cons (.int r15) .nil))
          have j7 := dp_new (K := K) (lf15.alloc v6).lv n7 .nil
          have j8 := dp_new (lf15.alloc (v6.trans v7)).lv n8 (DpAll.cons (.str t2) (.cons (dp_same (hide_of_same v7) j6) (.cons j7 .nil)))
          have lf16 := lf15.alloc ((v6.trans v7).trans v8)
          have lf17 := lf16.batch oW j8
          refine ⟨D, _, _, rfl, rfl, lf16.bt, small1000 (by rw [List.length_append]; show xs.length + 1 ≤ 1000; omega), ?_⟩
          refine ⟨_, _, _, _, _, _, _, its ++ [{ tag := t, deed := dd, dr := dr, pk := pk, si := si, ln := ln, timer := some (t2, r15) }], ws2, xs ++ [.ref p4] ++ [.ref p8], rfl, ?_, lit (some (t2, r15)) (fun t3 z => ?_), by rw [List.length_append, li]; rfl, ?_, fun hf => ?_⟩
          · rw [lotTags_snoc, lotDs_snoc]
            have l18 := (lf17.leave).le (m := n + 1 + 24 * (i + 1)) (by omega)
            have e1 : gs ++ (lotTags its ++ itTags { tag := t, deed := dd, dr := dr, pk := pk, si := si, ln := ln, timer := some (t2, r15) }) = gs ++ lotTags its ++ [t] ++ [t2] := by
              show gs ++ (lotTags its ++ ([t] ++ [t2])) = _
              simp only [List.append_assoc]
            have e2 : lotDs its ++ itDs { tag := t, deed := dd, dr := dr, pk := pk, si := si, ln := ln, timer := some (t2, r15) } = lotDs its ++ [itD { tag := t, deed := dd, dr := dr, pk := pk, si := si, ln := ln, timer := none }] ++ [.tuple [.str t2, .tuple [.str (Str.ofString "linktimeout"), .int r15], .tuple []]] := by
              rw [List.append_assoc]
              rfl
            rw [e1, e2]
            exact l18
          · cases z
            refine ⟨by rw [hln]; exact e, wws t2 (by rw [hw]; exact List.mem_append_right _ (List.mem_cons_of_mem _ List.mem_cons_self)), r150, by omega⟩
          · rw [lotTags_snoc, hw, List.append_assoc]
            rfl
          · have h2 := of_decide_eq_true hf
            have h3 := of_decide_eq_true e
            omega
        · exact fin _ (lfe.box oW s12 b12) (by omega)
      · exact iteF (fin _ lfe (by omega))
    · rintro σ H' ⟨first, y7, y8, y9, y10, y11, y12, its, ws', xs, rfl, lf, lo, li, hw, hfst⟩
      have lx := dps_len lf.dx
      have ld := lotDs_len its
      have hpos : 0 < its.length := by omega
      rcases List.eq_nil_or_concat its with h0 | ⟨ini, it, h0⟩
      · rw [h0] at hpos
        exact absurd hpos (by decide)
      · rw [List.concat_eq_append] at h0
        subst h0
        obtain ⟨wd, hw1, hw2⟩ := lo.init.2.1.deed.word
        have et : lotTags (ini ++ [endIt it]) = lotTags (ini ++ [it]) := by rw [lotTags_snoc, lotTags_snoc, endTags]
        refine ⟨_, rfl, D :: B, D, xs, ini, it, wd, rfl, List.mem_cons_self, lf.lv, lf.bt, lf.dx, by omega, hw1, hw2, fun v' H'' sD' dv' => ?_⟩
        have old : ∀ {c : Addr}, c ≠ D → c ∉ [D] := fun h z => h (List.mem_singleton.mp z)
        refine q v' (ini ++ [endIt it]) ws' H'' lo.fin (by rw [List.length_append] at *; show ini.length + 1 ≤ m; have : [it].length = 1 := rfl; omega) (by rw [et]; exact hw) ?_ ?_ (sD' _ _ (old oD.DT.symm) lf.tn) (by rw [et]; exact sD' _ _ (old oD.DG.symm) lf.gn) (dp_same hide_leave dv')
        · exact sameX_old (D := D) (B := [b, T, G]) ((lf.sx.sub fun c hc => List.mem_cons_of_mem _ hc).trans (sD'.sub fun c hc => by rw [List.mem_singleton.mp hc]; exact List.mem_cons_self)) nD
        · exact (lf.bx.up sD' (old oD.Db.symm)).le (by omega)
end
end KV

namespace KV
open PySem PySem.Spec PyProof.Rows L2 RZ
abbrev sTruth : Stmt := topS 3
abbrev sIsText : Stmt := topS 6
abbrev sWordOf : Stmt := topS 12
abbrev sIsPipe : Stmt := topS 13
abbrev sIsSlot : Stmt := topS 14
/-! ### x in a list or a tuple -/
def seqD (d : PyData) (ds : List PyData) : Prop := d = .tuple ds ∨ d = .list ds
def rInSq (K : PySem.W.Frag) : R2 := fun x y H Q => ∃ d e ds, Dp K H x d ∧ Dp K H y e ∧ seqD e ds ∧ PyData.canLayAll0 ds = true ∧ d.canLay0 = true ∧ PyData.depthAll ds = 0 ∧ Q (.bl (ds.any fun z => PyData.eqv z d)) H
theorem op_inSq {X : Cx} {K : PySem.W.Frag} (hK : X.K = K) (hu : X.A.units + 64 < cLine) : OpR X (compareOp .In) (rInSq K) := by
  subst hK
  intro pins s σ H x y v u Q I rx ry h
  obtain ⟨d, e, ds, hd, he, hs, c1, c2, d0, q⟩ := h
  obtain ⟨as, r1⟩ := Dp.reads I d x v hd rx
  have hm := Nat.min_le_left (PyData.depthAll ds) d.depth
  rcases hs with rfl | rfl
  · obtain ⟨bs, r2⟩ := Dp.reads I (.tuple ds) y u he ry
    refine SeqAt.in_tuple_reads r2 r1 c1 c2 ?_ ⟨.bl _, H, I, rfl, q⟩
    omega
  · obtain ⟨bs, r2⟩ := Dp.reads I (.list ds) y u he ry
    refine SeqAt.in_list_reads r2 r1 c1 c2 ?_ ⟨.bl _, H, I, rfl, q⟩
    omega
/-- a SETUP, as lists or tuples: its pipes, and how many slots it has -/
structure SetA (K : PySem.W.Frag) (H : Hp) (v : V) (ps : List Str) (m : Nat) : Prop where
  lps : ps.length ≤ 4
  lay : PyData.canLayAll0 (ps.map PyData.str) = true
  lm : m ≤ 5
  at_ : ∃ d a b c e es, seqD d [a, b, c, e] ∧ seqD c (ps.map PyData.str) ∧ seqD e es ∧ es.length = m ∧ Dp K H v d
theorem SetA.same {K : PySem.W.Frag} {H H' : Hp} {v : V} {ps : List Str} {m : Nat} (h : SetA K H v ps m) (s : Same H H') : SetA K H' v ps m := by
  obtain ⟨h1, h2, h3, d, a, b, c, e, es, h4, h5, h6, h7, h8⟩ := h
  exact ⟨h1, h2, h3, d, a, b, c, e, es, h4, h5, h6, h7, dp_same s h8⟩
/-- s[2] and s[3] -/
theorem SetA.ix {K : PySem.W.Frag} {H : Hp} {v : V} {ps : List Str} {m : Nat} (h : SetA K H v ps m) : ∃ x y c e es, seqD c (ps.map PyData.str) ∧ seqD e es ∧ es.length = m ∧ Dp K H x c ∧ Dp K H y e ∧
    (∀ Q : VK, Q x H → rIx K v (.int 2) H Q) ∧ (∀ Q : VK, Q y H → rIx K v (.int 3) H Q) := by
  obtain ⟨h1, h2, h3, d, a, b, c, e, es, hd, hc, he, hl, hv⟩ := h
  rcases hd with rfl | rfl
  · cases hv with
    | tup k1 k2 =>
      rename_i p xs
      obtain ⟨x0, x1, x2, x3, rfl, z0, z1, z2, z3⟩ : ∃ x0 x1 x2 x3, xs = [x0, x1, x2, x3] ∧ Dp K H x0 a ∧ Dp K H x1 b ∧ Dp K H x2 c ∧ Dp K H x3 e := by
        cases k2 with | cons z0 k2 => cases k2 with | cons z1 k2 => cases k2 with | cons z2 k2 => cases k2 with | cons z3 k2 => cases k2 with | nil => exact ⟨_, _, _, _, rfl, z0, z1, z2, z3⟩
      exact ⟨x2, x3, c, e, es, hc, he, hl, z2, z3, fun Q q => .inr (.inl ⟨p, _, 2, x2, rfl, rfl, k1, atI_nat (j := 2) rfl, q⟩), fun Q q => .inr (.inl ⟨p, _, 3, x3, rfl, rfl, k1, atI_nat (j := 3) rfl, q⟩)⟩
  · cases hv with
    | lst k1 k2 =>
      rename_i p xs
      obtain ⟨x0, x1, x2, x3, rfl, z0, z1, z2, z3⟩ : ∃ x0 x1 x2 x3, xs = [x0, x1, x2, x3] ∧ Dp K H x0 a ∧ Dp K H x1 b ∧ Dp K H x2 c ∧ Dp K H x3 e := by
        cases k2 with | cons z0 k2 => cases k2 with | cons z1 k2 => cases k2 with | cons z2 k2 => cases k2 with | cons z3 k2 => cases k2 with | nil => exact ⟨_, _, _, _, rfl, z0, z1, z2, z3⟩
      exact ⟨x2, x3, c, e, es, hc, he, hl, z2, z3, fun Q q => .inl ⟨p, _, 2, x2, rfl, rfl, k1, atI_nat (j := 2) rfl, q⟩, fun Q q => .inl ⟨p, _, 3, x3, rfl, rfl, k1, atI_nat (j := 3) rfl, q⟩⟩
/-- one of these texts -/
def pipeD (ps : List Str) : PyData → Bool
  | .str x => decide (x ∈ ps)
  | _ => false
theorem eqv_pipe (d : PyData) (ss : List Str) : ((ss.map PyData.str).any fun z => PyData.eqv z d) = pipeD ss d := by
  cases d with
  | str x =>
    show _ = decide (x ∈ ss)
    rw [List.any_map, Bool.eq_iff_iff, List.any_eq_true, decide_eq_true_eq]
    constructor
    · rintro ⟨y, hy, e⟩
      have e2 : (y == x) = true := by simpa [PyData.eqv] using e
      rw [← eq_of_beq e2]
      exact hy
    · intro hx
      exact ⟨x, hx, by simp [PyData.eqv]⟩
  | _ =>
    show _ = false
    rw [List.any_map, List.any_eq_false]
    intro y _
    simp [PyData.eqv]
def slotNumD (m : Nat) : PyData → Bool
  | .int i => decide (0 ≤ i) && decide (i < m)
  | _ => false
def isTruthD : PyData → Bool
  | .bool _ => true
  | _ => false
/-- the word with which a tuple begins -/
def wordOfD : PyData → Str
  | .tuple (.str x :: _) => x
  | _ => Str.empty
section
variable {P : Program} {w : World} {K : PySem.W.Frag} {mg : Str → Option Value} {base : Heap}
def spTruth (K : PySem.W.Frag) : Sp := fun vs H Q _ => ∃ (v : V) (d : PyData), vs = [v] ∧ Dp K H v d ∧ Q (.bl (isTruthD d)) H
theorem scTruth : FnScope ["thing"] ["thing"] (defScope sTruth) :=
  ⟨rfl, rfl, rfl, by decide +kernel, rfl, by decide +kernel, by decide +kernel⟩
theorem ok_truth {f : Addr} {fd : FuncData} {k : Nat} (F : Fun K "is_truth" "is_truth" sTruth f fd) : FnOk P w K mg base CX0 (k + 1) f fd ["thing"] (spTruth K) := by
  refine F.ok scTruth (fun vs H Q E h => ?_) (fun cdv A outer s H vs Q E hr h => ?_)
  · obtain ⟨v, d, rfl, _⟩ := h
    rfl
  · obtain ⟨v, d, rfl, hd, q⟩ := h
    refine ⟨_, pss_one (ps_ret (pe_or (pe_cmpR op_isBlD (pv 0) pe_bl (nomark _)) (pe_one (pe_cmpR op_isBlD (pv 0) pe_bl (nomark _))))), ?_⟩
    refine ⟨_, rfl, d, true, hd, rfl, _, rfl, ?_⟩
    cases d with
    | bool c =>
      cases c with
      | true => exact iteT q
      | false => exact iteF ⟨_, rfl, .bool false, false, hd, rfl, q⟩
    | _ => exact iteF ⟨_, rfl, _, false, hd, rfl, q⟩
def spWordOf (K : PySem.W.Frag) : Sp := fun vs H Q _ => ∃ (v : V) (d : PyData), vs = [v] ∧ Dp K H v d ∧ Q (.str (wordOfD d)) H
theorem scWordOf : FnScope ["thing"] ["thing"] (defScope sWordOf) :=
  ⟨rfl, rfl, rfl, by decide +kernel, rfl, by decide +kernel, by decide +kernel⟩
theorem ok_wordOf {f : Addr} {fd : FuncData} {k : Nat} (F : Fun K "word_of" "word_of" sWordOf f fd) (mi : mg "isinstance" = none) (me : mg "len" = none) (mt : mg "tuple" = none) (ms : mg "str" = none) : FnOk P w K mg base CX0 (k + 1) f fd ["thing"] (spWordOf K) := by
  refine F.ok scWordOf (fun vs H Q E h => ?_) (fun cdv A outer s H vs Q E hr h => ?_)
  · obtain ⟨v, d, rfl, _⟩ := h
    rfl
  · obtain ⟨v, d, rfl, hd, q⟩ := h
    refine ⟨_, pss_cons (ps_if (PW.pt (pw_and (pt_val (pe_callB (cr_isOne "tuple") (by rfl) mi boot_isinstance (pa_cons (pv 0) (pa_cons (pe_bltn (v := .ty "tuple") (by rfl) mt (by decide +kernel) rfl) pa_nil))))
      (pw_and (pt_cmpR op_gt (pe_callB call_len_seq (by rfl) me PySem.boot_len (pa_cons (pv 0) pa_nil)) pe_int (nomark _))
      (pw_and1 (pt_val (pe_callB (cr_isOne "str") (by rfl) mi boot_isinstance (pa_cons (pe_ix ix_seq (pv 0) pe_int (fun _ _ => rfl)) (pa_cons (pe_bltn (v := .ty "str") (by rfl) ms (by decide +kernel) rfl) pa_nil))))))))
      (pss_one (ps_ret (pe_ix ix_seq (pv 0) pe_int (fun _ _ => rfl)))) pss_nil) (pss_one (ps_ret pe_str)), ?_⟩
    have hv := hd
    cases hd with
    | non => exact ⟨_, rfl, ⟨_, _, rfl, hv, false, (show kitB "NoneType" "tuple" = some false by decide +kernel), _, rfl, iteF q⟩⟩
    | bl c => exact ⟨_, rfl, ⟨_, _, rfl, hv, false, (show kitB "bool" "tuple" = some false by decide +kernel), _, rfl, iteF q⟩⟩
    | int c => exact ⟨_, rfl, ⟨_, _, rfl, hv, false, (show kitB "int" "tuple" = some false by decide +kernel), _, rfl, iteF q⟩⟩
    | str c => exact ⟨_, rfl, ⟨_, _, rfl, hv, false, (show kitB "str" "tuple" = some false by decide +kernel), _, rfl, iteF q⟩⟩
    | lst h1 h2 => exact ⟨_, rfl, ⟨_, _, rfl, hv, false, (show kitB "list" "tuple" = some false by decide +kernel), _, rfl, iteF q⟩⟩
    | tup h1 h2 =>
      rename_i a xs ds
      refine ⟨_, rfl, ⟨_, _, rfl, hv, true, (show kitB "tuple" "tuple" = some true by decide +kernel), _, rfl, iteT ⟨_, rfl, a, xs, rfl, .inr h1, _, _, rfl, rfl, _, rfl, ?_⟩⟩⟩
      cases h2 with
      | nil => exact iteF q
      | cons k1 k2 =>
        rename_i x xs d ds
        have hx := k1
        refine ite2 (fun _ => ⟨_, rfl, .inr (.inl ⟨a, _, 0, x, rfl, rfl, h1, atI_nat (j := 0) rfl, ?_⟩)⟩) (fun z => absurd (decide_eq_true (show (0 : Int) < ((x :: xs).length : Int) by rw [List.length_cons]; omega)) z)
        cases k1 with
        | non => exact ⟨_, _, rfl, hx, false, (show kitB "NoneType" "str" = some false by decide +kernel), _, rfl, iteF q⟩
        | bl c => exact ⟨_, _, rfl, hx, false, (show kitB "bool" "str" = some false by decide +kernel), _, rfl, iteF q⟩
        | int c => exact ⟨_, _, rfl, hx, false, (show kitB "int" "str" = some false by decide +kernel), _, rfl, iteF q⟩
        | lst _ _ => exact ⟨_, _, rfl, hx, false, (show kitB "list" "str" = some false by decide +kernel), _, rfl, iteF q⟩
        | tup _ _ => exact ⟨_, _, rfl, hx, false, (show kitB "tuple" "str" = some false by decide +kernel), _, rfl, iteF q⟩
        | str c => exact ⟨_, _, rfl, hx, true, (show kitB "str" "str" = some true by decide +kernel), _, rfl, iteT ⟨_, rfl, .inr (.inl ⟨a, _, 0, _, rfl, rfl, h1, atI_nat (j := 0) rfl, q⟩)⟩⟩
def spIsPipe (K : PySem.W.Frag) : Sp := fun vs H Q _ => ∃ (sv v : V) (ps : List Str) (m : Nat) (d : PyData), vs = [sv, v] ∧ SetA K H sv ps m ∧ Dp K H v d ∧ d.canLay0 = true ∧ Q (.bl (pipeD ps d)) H
theorem scIsPipe : FnScope ["setup", "thing"] ["setup", "thing"] (defScope sIsPipe) :=
  ⟨rfl, rfl, rfl, by decide +kernel, rfl, by decide +kernel, by decide +kernel⟩
theorem ok_isPipe {f : Addr} {fd : FuncData} {k : Nat} (F : Fun K "is_pipe" "is_pipe" sIsPipe f fd) : FnOk P w K mg base CX0 (k + 1) f fd ["setup", "thing"] (spIsPipe K) := by
  refine F.ok scIsPipe (fun vs H Q E h => ?_) (fun cdv A outer s H vs Q E hr h => ?_)
  · obtain ⟨sv, v, ps, m, d, rfl, _⟩ := h
    rfl
  · obtain ⟨sv, v, ps, m, d, rfl, hs, hd, hl, q⟩ := h
    refine ⟨_, pss_one (ps_ret (pe_cmpR (op_inSq (K := K) rfl hr.units) (pv 1) (pe_ix ix_seq (pv 0) pe_int (fun _ _ => rfl)) (by rfl))), ?_⟩
    obtain ⟨x, y, c, e, es, hc, he, hle, hx, hy, i2, i3⟩ := hs.ix
    refine ⟨_, rfl, _, rfl, i2 _ ⟨d, c, _, hd, hx, hc, hs.lay, hl, depth_strs _, ?_⟩⟩
    rw [eqv_pipe]
    exact q
def spIsSlot (K : PySem.W.Frag) : Sp := fun vs H Q _ => ∃ (sv v : V) (ps : List Str) (m : Nat) (d : PyData), vs = [sv, v] ∧ SetA K H sv ps m ∧ Dp K H v d ∧ Q (.bl (slotNumD m d)) H
theorem scIsSlot : FnScope ["setup", "thing"] ["setup", "thing"] (defScope sIsSlot) :=
  ⟨rfl, rfl, rfl, by decide +kernel, rfl, by decide +kernel, by decide +kernel⟩
theorem ok_isSlot {f fN : Addr} {fd fdN : FuncData} {k : Nat} (F : Fun K "is_slot" "is_slot" sIsSlot f fd) (FN : Fun K "is_number" "is_number" sNum fN fdN) (bN : Binds K fdN ["thing", "least"] []) (mN : mg "is_number" = some (.ref fN))
    (GN : FnOk P w K mg base CX0 (k + 1) fN fdN ["thing", "least"] (spNum K)) (me : mg "len" = none) : FnOk P w K mg base CX0 (k + 2) f fd ["setup", "thing"] (spIsSlot K) := by
  refine F.ok scIsSlot (fun vs H Q E h => ?_) (fun cdv A outer s H vs Q E hr h => ?_)
  · obtain ⟨sv, v, ps, m, d, rfl, _⟩ := h
    rfl
  · obtain ⟨sv, v, ps, m, d, rfl, hs, hd, q⟩ := h
    refine ⟨_, pss_one (ps_ret (pe_and (pe_call GN hr (by rfl) mN FN.kp bN .nil pass0 (pa_cons (pv 1) (pa_cons pe_int pa_nil)))
      (pe_one (pe_cmpR op_lt (pv 1) (pe_callB call_len_seq (by rfl) me PySem.boot_len (pa_cons (pe_ix ix_seq (pv 0) pe_int (fun _ _ => rfl)) pa_nil)) (nomark _))))), ?_⟩
    obtain ⟨x, y, c, e, es, hc, he, hle, hx, hy, i2, i3⟩ := hs.ix
    refine ⟨_, rfl, v, d, 0, rfl, hd, _, rfl, ?_⟩
    cases d with
    | int i =>
      have e0 : isNumD (.int i) 0 = decide (0 ≤ i) := rfl
      rw [e0]
      by_cases hi : (0 : Int) ≤ i
      · rw [decide_eq_true hi]
        have hvi := hd
        cases hvi
        have eq : slotNumD m (.int i) = decide (i < (m : Int)) := by
          show (decide (0 ≤ i) && decide (i < (m : Int))) = _
          rw [decide_eq_true hi, Bool.true_and]
        rw [eq] at q
        refine iteT ⟨_, rfl, _, rfl, i3 _ ?_⟩
        rcases he with rfl | rfl
        · cases hy with
          | tup k1 k2 => exact ⟨_, _, rfl, .inr k1, _, _, rfl, rfl, by rw [dps_len k2, hle]; exact q⟩
        · cases hy with
          | lst k1 k2 => exact ⟨_, _, rfl, .inl k1, _, _, rfl, rfl, by rw [dps_len k2, hle]; exact q⟩
      · rw [decide_eq_false hi]
        have eq : slotNumD m (.int i) = false := by
          show (decide (0 ≤ i) && decide (i < (m : Int))) = _
          rw [decide_eq_false hi, Bool.false_and]
        rw [eq] at q
        exact iteF q
    | _ => exact iteF q
end
end KV

namespace KV
open PySem PySem.Spec PyProof.Rows L2 RZ
abbrev sIsWhere : Stmt := topS 15
abbrev sIsKind : Stmt := topS 17
abbrev sHasParts : Stmt := topS 18
/-- a branch that is not taken -/
theorem pss_no {X : Cx} {body : List Stmt} : PSs X body (fun _ _ _ => False) := ⟨fun pins s σ H D I h => (show False from h).elim⟩
theorem pickT {w z : Str} {t : TS} {u : Str → TS} {D : Ends} {σ : L2.St} {H : Hp} (e : decide (z = w) = true) (h : t D σ H) : tPick w t u z D σ H := by
  unfold tPick
  rw [e]
  exact iteT h
theorem pickF {w z : Str} {t : TS} {u : Str → TS} {D : Ends} {σ : L2.St} {H : Hp} (e : decide (z = w) = false) (h : u z D σ H) : tPick w t u z D σ H := by
  unfold tPick
  rw [e]
  exact iteF h
mutual
theorem gD_layA {L : Nat} : ∀ (d : PyData) (n : Nat), gD lf2 L d n = true → d.canLay0 = true
  | .list xs, n, h => by
    obtain ⟨m, rfl, _, h2⟩ := gD_seq (.inl rfl) h
    simpa only [PyData.canLay0] using gDs_layA xs m h2
  | .tuple xs, n, h => by
    obtain ⟨m, rfl, _, h2⟩ := gD_seq (.inr rfl) h
    simpa only [PyData.canLay0] using gDs_layA xs m h2
  | .none, n, _ => rfl
  | .bool _, n, _ => rfl
  | .int _, n, _ => rfl
  | .str x, n, h => by
    have h1 : (decide (x.length ≤ 60) && x.cps.toList.all fun c => decide (c < 1114112)) = true := by simp only [gD] at h; exact h
    rw [Bool.and_eq_true] at h1
    show PyData.strOk x = true
    unfold PyData.strOk
    rw [← Array.all_toList]
    exact h1.2
  | .dict _, n, h => by simp [gD] at h
theorem gDs_layA {L : Nat} : ∀ (ds : List PyData) (n : Nat), gDs lf2 L ds n = true → PyData.canLayAll0 ds = true
  | [], n, _ => rfl
  | d :: ds, n, h => by
    simp only [gDs, Bool.and_eq_true] at h
    simp only [PyData.canLayAll0, gD_layA d n h.1, gDs_layA ds n h.2, Bool.and_self]
end
/-- data that is small enough to be looked at -/
def fineD (d : PyData) : Prop := ∃ L n, gD lf2 L d n = true ∧ L ≤ 100 ∧ n ≤ 60
theorem fineD.str {d : PyData} (h : fineD d) : ∀ x, d = .str x → x.length ≤ 1000 := fun x e => by
  obtain ⟨L, n, h, _⟩ := h
  exact (str_fine (n := n) (L := L) (by rw [← e]; exact h)).1
theorem fineD.lay {d : PyData} (h : fineD d) : d.canLay0 = true := by
  obtain ⟨L, n, h, _⟩ := h
  exact gD_layA d n h
theorem fineD.shaped {d : PyData} (h : fineD d) : SeqAt.shaped d = true := by
  obtain ⟨L, n, h, _, hn⟩ := h
  exact shaped_gD h hn
theorem fineD.mem {ds : List PyData} {d : PyData} (h : fineD (.tuple ds)) (hd : d ∈ ds) : fineD d := by
  obtain ⟨L, n, h, hL⟩ := h
  obtain ⟨m, hm, _, h2⟩ := gD_seq (.inr rfl) h
  exact ⟨L, m, okGet h2 hd, hL.1, by omega⟩
theorem fineD.len {ds : List PyData} (h : fineD (.tuple ds)) : ds.length ≤ 100 := by
  obtain ⟨L, n, h, hL⟩ := h
  obtain ⟨m, _, h1, h2⟩ := gD_seq (.inr rfl) h
  obtain ⟨hL, _⟩ := hL
  omega
/-- a where -/
def whereD (ps : List Str) (m : Nat) : PyData → Bool
  | .tuple [.str w, p] => (decide (w = "pipe") && pipeD ps p) || (decide (w = "slot") && slotNumD m p)
  | _ => false
/-- of the kind with this word -/
def kindD (ps : List Str) (m : Nat) (z : Str) (d : PyData) : Bool :=
  if z = "good" then isTruthD d else if z = "from 0" then isNumD d 0 else if z = "from 1" then isNumD d 1 else if z = "name" then isWordD d 8 else if z = "text" then isWordD d 6
  else if z = "pipe" then pipeD ps d else if z = "pipe or none" then slotD0 ps d else if z = "slot" then slotNumD m d else if z = "where" then whereD ps m d else false
where slotD0 (ss : List Str) : PyData → Bool
  | .none => true
  | .str x => decide (x ∈ ss)
  | _ => false
def partsD (ps : List Str) (m : Nat) (ks : List Str) (ds : List PyData) : Bool := decide (ds.length = ks.length) && (List.zipWith (kindD ps m) ks ds).all id
/-- a comprehension of flags over two tuples: words and data -/
theorem lc_parts {K : PySem.W.Frag} {J : L2.It} {G : Hp → Prop} {xs : List V} {ks : List Str} {n : Nat} (w : Walk J n G (YPair (fun i => xs[i]?) (fun i => (ks.map V.str)[i]?))) {ds : List PyData} {σ : L2.St} {vs : List Nat} {te : TE} {H1 : Hp} {D : Addr} {Qd : Hp → Prop}
    (hx : DpAll K H1 xs ds) (hl : ds.length = ks.length) (hn : n = ds.length) (nD : H1 D = none) (hz : n ≤ 1000) (hG : ∀ H, Same H1 H → G H) (hw : ∀ x y : V, wipe (((wipe σ vs).set 4 (some x)).set 5 (some y)) vs = wipe σ vs) (Pf : Str → PyData → Bool)
    (step : ∀ (j : Nat) (z : Str) (x : V) (d : PyData) (H : Hp) (Q : VK), ds[j]? = some d → ks[j]? = some z → Same H1 H → Dp K H x d → (∀ H', Same H H' → Q (.bl (Pf z d)) H') → te (((wipe σ vs).set 4 (some x)).set 5 (some (.str z))) H Q)
    (hd : ∀ H, Same H1 H → H D = some (.lst ((List.zipWith Pf ks ds).map V.bl)) → Qd H) :
    ∃ W : Nat → Nat → Hp → Prop, (∃ m, W 0 m (upd H1 D (.lst []))) ∧ ∀ i' m H, W i' m H →
      (J.stop i' H ∧ Qd H) ∨ (J.go i' H ∧ ∃ Nx : Hp → Prop, (∀ H', Nx H' → ∃ m', m' < m ∧ W (i' + 1) m' H') ∧ ∀ x H', J.yld i' H x H' → gTup K 2 (gCons (gName 4) (gCons (gName 5) gNil)) x (wipe σ vs) H' fun σ2 H2 => wipe σ2 vs = wipe σ vs ∧ tYes σ2 H2 fun b H3 =>
        if b = true then te σ2 H3 fun y H4 => ∃ acc, H4 D = some (.lst acc) ∧ acc.length < sizeLine ∧ Nx (upd H4 D (.lst (acc ++ [y]))) else Nx H3) := by
  have base : ∀ {H : Hp}, SameX [D] H1 H → Same H1 H := fun {H} h c o e => h c o (fun z => ne_of_none e nD (List.mem_singleton.mp z)) e
  have hlx := dps_len hx
  refine lc_it w (fun j H => SameX [D] H1 H ∧ H D = some (.lst (((List.zipWith Pf ks ds).take j).map V.bl))) ⟨fun c o n e => ?_, upd_same⟩ (fun j H _ h => hG H (base h.1)) ?_ (fun H h => hd H (base h.1) ?_)
  · rw [upd_ne (ne_of_none e nD)]
    exact e
  · rintro j v H H' hj ⟨hs, hD⟩ ⟨T, x, y, rfl, nT, rfl, ex, ey⟩
    have ex : xs[j]? = some x := ex
    have ey : (ks.map V.str)[j]? = some y := ey
    obtain ⟨d, ed, dx⟩ := dps_get hx ex
    rw [List.getElem?_map] at ey
    obtain ⟨z, ez, rfl⟩ := Option.map_eq_some_iff.mp ey
    have sT := same_upd (o := HO.tup [x, .str z]) nT
    have s2 := (base hs).trans sT
    refine ⟨T, [x, .str z], rfl, SqT.of upd_same, rfl, x, [.str z], rfl, .str z, [], rfl, rfl, hw x _, tYes_ok (step j z x d _ _ ed ez s2 (dp_same s2 dx) fun H4 s4 => ?_)⟩
    have hD4 : H4 D = some (.lst (((List.zipWith Pf ks ds).take j).map V.bl)) := s4 _ _ (sT _ _ hD)
    have eg : (List.zipWith Pf ks ds)[j]? = some (Pf z d) := by
      rw [List.getElem?_zipWith, ez, ed]
    refine ⟨_, hD4, ?_, fun c o nc e => ?_, ?_⟩
    · rw [List.length_map, List.length_take, List.length_zipWith]
      exact small1000 (by omega)
    · rw [upd_ne (fun z => nc (List.mem_singleton.mpr z))]
      exact s4 _ _ (sT _ _ (hs c o nc e))
    · rw [upd_same, take_snoc eg, List.map_append]
      rfl
  · rw [h.2, List.take_of_length_le]
    rw [List.length_zipWith]
    omega
section
variable {P : Program} {w : World} {K : PySem.W.Frag} {mg : Str → Option Value} {base : Heap}
/-! ### is_text -/
def spIsText (K : PySem.W.Frag) : Sp := fun vs H Q _ => ∃ (v : V) (d : PyData), vs = [v] ∧ Dp K H v d ∧ (∀ x, d = .str x → x.length ≤ 1000) ∧ ∀ H', Same H H' → Q (.bl (isWordD d 6)) H'
theorem scIsText : FnScope ["thing"] ["thing"] (defScope sIsText) :=
  ⟨rfl, rfl, rfl, by decide +kernel, rfl, by decide +kernel, by decide +kernel⟩
theorem ok_isText {f fL : Addr} {fd fdL : FuncData} {k : Nat} (F : Fun K "is_text" "is_text" sIsText f fd) (FL : Fun K "is_letters" "is_letters" sLets fL fdL) (bL : Binds K fdL ["thing", "least"] []) (mL : mg "is_letters" = some (.ref fL))
    (GL : FnOk P w K mg base CX0 (k + 1) fL fdL ["thing", "least"] (spLets K)) (me : mg "len" = none) : FnOk P w K mg base CX0 (k + 2) f fd ["thing"] (spIsText K) := by
  refine F.ok scIsText (fun vs H Q E h => ?_) (fun cdv A outer s H vs Q E hr h => ?_)
  · obtain ⟨v, d, rfl, _⟩ := h
    rfl
  · obtain ⟨v, d, rfl, hd, hx, q⟩ := h
    refine ⟨_, pss_one (ps_ret (pe_and (pe_call GL hr (by rfl) mL FL.kp bL .nil pass0 (pa_cons (pv 0) (pa_cons pe_int pa_nil)))
      (pe_one (pe_cmpR op_le (pe_callB call_len_str (by rfl) me PySem.boot_len (pa_cons (pv 0) pa_nil)) pe_int (nomark _))))), ?_⟩
    refine ⟨_, rfl, v, d, 1, rfl, hd, hx, fun H1 s1 => ⟨_, rfl, ?_⟩⟩
    cases he : isLetsD d 1 with
    | false =>
      refine iteF ?_
      have e : isWordD d 6 = false := by
        cases d with
        | str x =>
          have z : (decide (1 ≤ x.length) && x.cps.toList.all isLet) = false := he
          show (decide (0 < x.length) && decide (x.length ≤ 6) && x.cps.toList.all isLet) = false
          rw [Bool.and_assoc, Bool.and_comm (decide (x.length ≤ 6)), ← Bool.and_assoc]
          have e0 : decide (0 < x.length) = decide (1 ≤ x.length) := rfl
          rw [e0, z]
          rfl
        | _ => rfl
      rw [e] at q
      exact q _ s1
    | true =>
      refine iteT ?_
      cases d with
      | str x =>
        have hv := dp_same s1 hd
        cases hv
        have z : (decide (1 ≤ x.length) && x.cps.toList.all isLet) = true := he
        rw [Bool.and_eq_true] at z
        have lx := hx x rfl
        refine ⟨_, rfl, x, rfl, Nat.le_of_lt (small1000 lx), _, _, rfl, rfl, ?_⟩
        have e : isWordD (.str x) 6 = decide ((x.length : Int) ≤ 6) := by
          show (decide (0 < x.length) && decide (x.length ≤ 6) && x.cps.toList.all isLet) = _
          have e0 : decide (0 < x.length) = decide (1 ≤ x.length) := rfl
          rw [e0, z.1, z.2, Bool.true_and, Bool.and_true, Bool.eq_iff_iff, decide_eq_true_eq, decide_eq_true_eq]
          omega
        have q1 := q _ s1
        rw [e] at q1
        exact q1
      | none => exact nomatch he
      | bool b => exact nomatch he
      | int i => exact nomatch he
      | list xs => exact nomatch he
      | tuple xs => exact nomatch he
      | dict xs => exact nomatch he
/-! ### is_kind, of a pipe or a slot -/
def spKind (K : PySem.W.Frag) (ok : Str → Prop) : Sp := fun vs H Q _ => ∃ (sv v : V) (z : Str) (ps : List Str) (m : Nat) (d : PyData), vs = [sv, v, .str z] ∧ SetA K H sv ps m ∧ Dp K H v d ∧ fineD d ∧ ok z ∧ ∀ H', Same H H' → Q (.bl (kindD ps m z d)) H'
def ok0 (z : Str) : Prop := z = "pipe" ∨ z = "slot"
def ok1 (z : Str) : Prop := z = "good" ∨ z = "from 0" ∨ z = "from 1" ∨ z = "name" ∨ z = "text" ∨ z = "pipe" ∨ z = "pipe or none" ∨ z = "slot" ∨ z = "where"
theorem scIsKind : FnScope ["setup", "part", "kind"] ["setup", "part", "kind"] (defScope sIsKind) :=
  ⟨rfl, rfl, rfl, by decide +kernel, rfl, by decide +kernel, by decide +kernel⟩
theorem ok_isKind0 {f fP fS : Addr} {fd fdP fdS : FuncData} {k : Nat} (F : Fun K "is_kind" "is_kind" sIsKind f fd)
    (FP : Fun K "is_pipe" "is_pipe" sIsPipe fP fdP) (bP : Binds K fdP ["setup", "thing"] []) (mP : mg "is_pipe" = some (.ref fP)) (GP : FnOk P w K mg base CX0 (k + 2) fP fdP ["setup", "thing"] (spIsPipe K))
    (FS : Fun K "is_slot" "is_slot" sIsSlot fS fdS) (bS : Binds K fdS ["setup", "thing"] []) (mS : mg "is_slot" = some (.ref fS)) (GS : FnOk P w K mg base CX0 (k + 2) fS fdS ["setup", "thing"] (spIsSlot K)) :
    FnOk P w K mg base CX0 (k + 3) f fd ["setup", "part", "kind"] (spKind K ok0) := by
  refine F.ok scIsKind (fun vs H Q E h => ?_) (fun cdv A outer s H vs Q E hr h => ?_)
  · obtain ⟨sv, v, z, ps, m, d, rfl, _⟩ := h
    rfl
  · obtain ⟨sv, v, z, ps, m, d, rfl, hs, hd, hf, hz, q⟩ := h
    refine ⟨_, pss_one (ps_match (pv 2) (pmc_or pss_no (pmc_val pss_no (pmc_val pss_no (pmc_val pss_no (pmc_val pss_no (pmc_val pss_no
      (pmc_val (pss_one (ps_ret (pe_call GP hr (by rfl) mP FP.kp bP .nil pass0 (pa_cons (pv 0) (pa_cons (pv 1) pa_nil))))) (pmc_val pss_no
      (pmc_val (pss_one (ps_ret (pe_call GS hr (by rfl) mS FS.kp bS .nil pass0 (pa_cons (pv 0) (pa_cons (pv 1) pa_nil))))) (pmc_val pss_no (pmc_val pss_no (pmc_last pss_no))))))))))))), ?_⟩
    rcases hz with rfl | rfl
    · refine ⟨_, rfl, _, rfl, pickF (by decide +kernel) (pickF (by decide +kernel) (pickF (by decide +kernel) (pickF (by decide +kernel) (pickF (by decide +kernel) (pickF (by decide +kernel) (pickF (by decide +kernel) (pickT (by decide +kernel) ?_)))))))⟩
      exact ⟨_, rfl, _, rfl, sv, v, ps, m, d, rfl, hs, hd, hf.lay, q H fun _ _ z => z⟩
    · refine ⟨_, rfl, _, rfl, pickF (by decide +kernel) (pickF (by decide +kernel) (pickF (by decide +kernel) (pickF (by decide +kernel) (pickF (by decide +kernel) (pickF (by decide +kernel) (pickF (by decide +kernel) (pickF (by decide +kernel) (pickF (by decide +kernel) (pickT (by decide +kernel) ?_)))))))))⟩
      exact ⟨_, rfl, _, rfl, sv, v, ps, m, d, rfl, hs, hd, q H fun _ _ z => z⟩
end
end KV

namespace KV
open PySem PySem.Spec PyProof.Rows L2 RZ
/-- a dict of the module: from words to tuples of words -/
structure TabAt (K : PySem.W.Frag) (w : World) (d : Addr) (tab : Str → Option (List Str)) : Prop where
  dict : ∃ es n, KDict K w d es n
  no : ∀ z, tab z = none → PySem.W.nsIn K d z = some none
  yes : ∀ z ks, tab z = some ks → ∃ a, (∀ H, SqT K H a (ks.map V.str)) ∧ PySem.W.nsIn K d z = some (some (.ref a))
theorem TabAt.item {K : PySem.W.Frag} {w : World} {d : Addr} {tab : Str → Option (List Str)} (T : TabAt K w d tab) {z : Str} {ks : List Str} (h : tab z = some ks) : ∃ a, (∀ H, SqT K H a (ks.map V.str)) ∧ KDct K w d z (.ref a) := by
  obtain ⟨es, n, D⟩ := T.dict
  obtain ⟨a, h1, h2⟩ := T.yes z ks h
  exact ⟨a, h1, es, n, .ref a, D.at_, D.lit, h2, rfl⟩
/-- x in such a dict -/
def rInTab (tab : Str → Option (List Str)) (d : Addr) : R2 := fun x y H Q => ∃ z : Str, x = .str z ∧ y = .ref d ∧ Q (.bl (tab z).isSome) H
theorem op_inTab {X : Cx} {K : PySem.W.Frag} {w : World} (hK : X.K = K) (hw : X.w = w) {d : Addr} {tab : Str → Option (List Str)} (T : TabAt K w d tab) : OpR X (compareOp .In) (rInTab tab d) := by
  subst hK hw
  obtain ⟨es, n, D⟩ := T.dict
  intro pins s σ H x y v u Q I rx ry h
  obtain ⟨z, rfl, rfl, q⟩ := h
  cases hz : tab z with
  | none =>
    rw [hz] at q
    exact op_in_kd D pins s σ H _ _ v u Q I rx ry ⟨z, none, rfl, rfl, T.no z hz, q⟩
  | some ks =>
    rw [hz] at q
    obtain ⟨a, _, h2⟩ := T.yes z ks hz
    exact op_in_kd D pins s σ H _ _ v u Q I rx ry ⟨z, some (.ref a), rfl, rfl, h2, q⟩
theorem cut_one (x : V) (xs : List V) : cutV (x :: xs) (some (1 : Int)) none = xs := by
  unfold cutV
  have e1 : HT.sIx (x :: xs).length 0 (some (1 : Int)) = min 1 (x :: xs).length := HT.sIx_nat _ _ 1
  rw [e1, HT.sIx_none, List.length_cons, Nat.min_eq_left (by omega)]
  show List.take _ (List.drop 1 (x :: xs)) = xs
  rw [List.drop_succ_cons, List.drop_zero, List.take_of_length_le (by omega)]
section
variable {P : Program} {w : World} {K : PySem.W.Frag} {mg : Str → Option Value} {base : Heap}
/-! ### has_parts -/
def spParts (K : PySem.W.Frag) (ok : Str → Prop) : Sp := fun vs H Q _ => ∃ (sv v : V) (b : Addr) (ks : List Str) (ps : List Str) (m : Nat) (d : PyData) (ds : List PyData), vs = [sv, v, .ref b] ∧ SetA K H sv ps m ∧ Dp K H v (.tuple (d :: ds)) ∧ fineD (.tuple (d :: ds)) ∧
  SqT K H b (ks.map V.str) ∧ ks.length ≤ 9 ∧ (∀ z ∈ ks, ok z) ∧ ∀ H', Same H H' → Q (.bl (partsD ps m ks ds)) H'
abbrev nParts : List Str := ["setup", "thing", "kinds", "parts", "part", "kind"]
theorem scParts : FnScope nParts ["setup", "thing", "kinds"] (defScope sHasParts) :=
  ⟨rfl, rfl, rfl, by decide +kernel, rfl, by decide +kernel, by decide +kernel⟩
theorem ok_hasParts {ok : Str → Prop} {f fK : Addr} {fd fdK : FuncData} {k : Nat} (F : Fun K "has_parts" "has_parts" sHasParts f fd)
    (FK : Fun K "is_kind" "is_kind" sIsKind fK fdK) (bK : Binds K fdK ["setup", "part", "kind"] []) (mK : mg "is_kind" = some (.ref fK)) (GK : FnOk P w K mg base CX0 (k + 3) fK fdK ["setup", "part", "kind"] (spKind K ok))
    (me : mg "len" = none) (ma : mg "all" = none) (mz : mg "zip" = none) : FnOk P w K mg base CX0 (k + 4) f fd ["setup", "thing", "kinds"] (spParts K ok) := by
  refine F.ok scParts (fun vs H Q E h => ?_) (fun cdv A outer s H vs Q E hr h => ?_)
  · obtain ⟨sv, v, b, ks, ps, m, d, ds, rfl, _⟩ := h
    rfl
  · obtain ⟨sv, v, b, ks, ps, m, d, ds, rfl, hs, hd, hf, hb, hk, hok, q⟩ := h
    refine ⟨_, pss_cons (ps_set (i := 3) scParts.nd rfl (.inl rfl) (pe_slice sl_tupA (pv 1) (po_some pe_int) po_none))
      (pss_cons (ps_if (pt_cmpR op_ne (pe_callB call_len_seq (by rfl) me PySem.boot_len (pa_cons (pv 3) pa_nil)) (pe_callB call_len_seq (by rfl) me PySem.boot_len (pa_cons (pv 2) pa_nil)) (nomark _)) (pss_one (ps_ret pe_bl)) pss_nil)
      (pss_one (ps_ret (pe_callB (cr_all rfl) (by rfl) ma boot_all (pa_cons
        (pe_lc (own := [("part", 4), ("kind", 5)]) (g := gTup K 2 (gCons (gName 4) (gCons (gName 5) gNil))) (tt := tYes) rfl scParts.nd (pi_zipA (by rfl) mz (pa_cons (pv 3) (pa_cons (pv 2) pa_nil)))
          (blkOk_by (N := nParts) (sc := defScope sHasParts) (by decide +kernel))
          (fun _ _ _ _ _ => pg_tup rfl (pgs_cons (pg_name (i := 4) scParts.nd rfl (.inl rfl)) (pgs_cons (pg_name (i := 5) scParts.nd rfl (.inl rfl)) pgs_nil))) (fun _ _ _ _ _ => pts_nil)
          (fun _ _ _ _ _ => pe_call GK hr (by rfl) mK FK.kp bK .nil pass0 (pa_cons (pv 0) (pa_cons (pv 4) (pa_cons (pv 5) pa_nil))))) pa_nil))))), ?_⟩
    cases hd with
    | tup h1 h2 =>
      rename_i a xs
      cases h2 with
      | cons k1 k2 =>
      rename_i x xs
      have hlen := hf.len
      rw [List.length_cons] at hlen
      have hl := dps_len k2
      refine ⟨_, rfl, _, rfl, a, _, rfl, h1, fun e0 => ?_, fun _ p np => ?_⟩
      · have e1 : HT.sIx (x :: xs).length 0 (some (1 : Int)) = min 1 (x :: xs).length := HT.sIx_nat _ _ 1
        rw [e1, List.length_cons] at e0
        omega
      · rw [cut_one]
        have sp : Same H (upd H p (.tup xs)) := same_upd np
        have hp : SqT K (upd H p (.tup xs)) p xs := SqT.of upd_same
        have hb1 := same_seqT sp hb
        refine ⟨_, rfl, p, xs, rfl, .inr hp, _, rfl, b, _, rfl, .inr hb1, rfl, ?_⟩
        rw [List.length_map]
        by_cases hkl : ds.length = ks.length
        · have e : (!decide (V.int (xs.length : Int) = V.int (ks.length : Int))) = false := by
            rw [hl, hkl, decide_eq_true rfl]
            rfl
          rw [e]
          refine ⟨_, rfl, iteF ?_⟩
          refine ⟨_, rfl, _, rfl, p, b, xs, _, rfl, .inr ⟨hp, hb1, fun D nD => lc_parts (K := K) (n := ds.length) (walk_zipT (n := ds.length) (by rw [List.length_map]; omega)) (dps_same sp k2) hkl rfl nD (by omega) (fun H2 s2 => ⟨same_seqT s2 hp, same_seqT s2 hb1⟩) (fun _ _ => rfl) (kindD ps m)
            (fun j z y e2 H2 Q2 he hz s2 dy k3 => ⟨_, rfl, _, rfl, _, rfl, sv, y, z, ps, m, e2, rfl, hs.same (sp.trans s2), dy, hf.mem (List.mem_cons_of_mem _ (List.mem_of_getElem? he)), hok z (List.mem_of_getElem? hz), k3⟩) fun H2 s2 hD2 => ⟨D, _, rfl, SqL.of hD2, ?_⟩⟩⟩
          have ep : (List.zipWith (kindD ps m) ks ds).all id = partsD ps m ks ds := by
            show _ = (decide (ds.length = ks.length) && (List.zipWith (kindD ps m) ks ds).all id)
            rw [decide_eq_true hkl, Bool.true_and]
          rw [ep]
          exact q _ (sp.trans s2)
        · have e : (!decide (V.int (xs.length : Int) = V.int (ks.length : Int))) = true := by
            rw [hl, decide_eq_false (fun z => hkl (by injection z with z; omega))]
            rfl
          rw [e]
          refine ⟨_, rfl, iteT ?_⟩
          have ep : partsD ps m ks ds = false := by
            show (decide (ds.length = ks.length) && _) = false
            rw [decide_eq_false hkl, Bool.false_and]
          have q1 := q _ sp
          rw [ep] at q1
          exact q1
end
end KV

namespace KV
open PySem PySem.Spec PyProof.Rows L2 RZ
section
variable {ps : List Str} {m : Nat} {d : PyData}
theorem kd_good : kindD ps m "good" d = isTruthD d := by unfold kindD; rw [if_pos rfl]
theorem kd_from0 : kindD ps m "from 0" d = isNumD d 0 := by unfold kindD; rw [if_neg (by decide +kernel), if_pos rfl]
theorem kd_from1 : kindD ps m "from 1" d = isNumD d 1 := by unfold kindD; rw [if_neg (by decide +kernel), if_neg (by decide +kernel), if_pos rfl]
theorem kd_name : kindD ps m "name" d = isWordD d 8 := by unfold kindD; rw [if_neg (by decide +kernel), if_neg (by decide +kernel), if_neg (by decide +kernel), if_pos rfl]
theorem kd_text : kindD ps m "text" d = isWordD d 6 := by unfold kindD; rw [if_neg (by decide +kernel), if_neg (by decide +kernel), if_neg (by decide +kernel), if_neg (by decide +kernel), if_pos rfl]
theorem kd_pipe : kindD ps m "pipe" d = pipeD ps d := by unfold kindD; rw [if_neg (by decide +kernel), if_neg (by decide +kernel), if_neg (by decide +kernel), if_neg (by decide +kernel), if_neg (by decide +kernel), if_pos rfl]
theorem kd_pon : kindD ps m "pipe or none" d = kindD.slotD0 ps d := by unfold kindD; rw [if_neg (by decide +kernel), if_neg (by decide +kernel), if_neg (by decide +kernel), if_neg (by decide +kernel), if_neg (by decide +kernel), if_neg (by decide +kernel), if_pos rfl]
theorem kd_slot : kindD ps m "slot" d = slotNumD m d := by unfold kindD; rw [if_neg (by decide +kernel), if_neg (by decide +kernel), if_neg (by decide +kernel), if_neg (by decide +kernel), if_neg (by decide +kernel), if_neg (by decide +kernel), if_neg (by decide +kernel), if_pos rfl]
theorem kd_where : kindD ps m "where" d = whereD ps m d := by unfold kindD; rw [if_neg (by decide +kernel), if_neg (by decide +kernel), if_neg (by decide +kernel), if_neg (by decide +kernel), if_neg (by decide +kernel), if_neg (by decide +kernel), if_neg (by decide +kernel), if_neg (by decide +kernel), if_pos rfl]
end
/-- what stands behind the word of a where -/
def whereTab (z : Str) : Option (List Str) := if z = "pipe" then some ["pipe"] else if z = "slot" then some ["slot"] else none
theorem where_none (ps : List Str) (m : Nat) {d : PyData} (h : whereTab (wordOfD d) = none) : whereD ps m d = false := by
  match d, h with
  | .tuple [.str w, p], h =>
    unfold whereTab at h
    by_cases h1 : w = "pipe"
    · rw [if_pos (show wordOfD (.tuple [.str w, p]) = "pipe" from h1)] at h
      exact nomatch h
    · rw [if_neg (show ¬ wordOfD (.tuple [.str w, p]) = "pipe" from h1)] at h
      by_cases h2 : w = "slot"
      · rw [if_pos (show wordOfD (.tuple [.str w, p]) = "slot" from h2)] at h
        exact nomatch h
      · show ((decide (w = "pipe") && pipeD ps p) || (decide (w = "slot") && slotNumD m p)) = false
        rw [decide_eq_false h1, decide_eq_false h2]
        rfl
  | .tuple [], _ => rfl
  | .tuple [.none], _ => rfl
  | .tuple [.bool _], _ => rfl
  | .tuple [.int _], _ => rfl
  | .tuple [.str _], _ => rfl
  | .tuple [.list _], _ => rfl
  | .tuple [.tuple _], _ => rfl
  | .tuple [.dict _], _ => rfl
  | .tuple [.none, _], _ => rfl
  | .tuple [.bool _, _], _ => rfl
  | .tuple [.int _, _], _ => rfl
  | .tuple [.list _, _], _ => rfl
  | .tuple [.tuple _, _], _ => rfl
  | .tuple [.dict _, _], _ => rfl
  | .tuple (_ :: _ :: _ :: _), _ => simp [whereD]
  | .none, _ => rfl
  | .bool _, _ => rfl
  | .int _, _ => rfl
  | .str _, _ => rfl
  | .list _, _ => rfl
  | .dict _, _ => rfl
theorem word_some {d : PyData} (h : wordOfD d ≠ Str.empty) : ∃ w ds, d = .tuple (.str w :: ds) ∧ wordOfD d = w := by
  match d, h with
  | .tuple (.str w :: ds), _ => exact ⟨w, ds, rfl, rfl⟩
  | .tuple [], h => exact absurd rfl h
  | .tuple (.none :: _), h => exact absurd rfl h
  | .tuple (.bool _ :: _), h => exact absurd rfl h
  | .tuple (.int _ :: _), h => exact absurd rfl h
  | .tuple (.list _ :: _), h => exact absurd rfl h
  | .tuple (.tuple _ :: _), h => exact absurd rfl h
  | .tuple (.dict _ :: _), h => exact absurd rfl h
  | .none, h => exact absurd rfl h
  | .bool _, h => exact absurd rfl h
  | .int _, h => exact absurd rfl h
  | .str _, h => exact absurd rfl h
  | .list _, h => exact absurd rfl h
  | .dict _, h => exact absurd rfl h
theorem where_some (ps : List Str) (m : Nat) {d : PyData} {ks : List Str} (h : whereTab (wordOfD d) = some ks) : ∃ w ds, d = .tuple (.str w :: ds) ∧ ks.length ≤ 9 ∧ (∀ z ∈ ks, ok0 z) ∧ partsD ps m ks ds = whereD ps m d := by
  have hw : wordOfD d ≠ Str.empty := fun e => by
    rw [e, show whereTab Str.empty = none by decide +kernel] at h
    exact nomatch h
  obtain ⟨w, ds, rfl, e⟩ := word_some hw
  rw [e] at h
  refine ⟨w, ds, rfl, ?_⟩
  unfold whereTab at h
  have hp : ∀ (k : Str), partsD ps m [k] ds = match ds with | [p] => kindD ps m k p | _ => false := by
    intro k
    match ds with
    | [] => rfl
    | [p] => simp [partsD]
    | _ :: _ :: _ => simp [partsD]
  by_cases h1 : w = "pipe"
  · rw [if_pos h1] at h
    cases h
    refine ⟨by decide, fun z hz => .inl (List.mem_singleton.mp hz), ?_⟩
    rw [hp]
    match ds with
    | [] => rfl
    | [p] =>
      show kindD ps m "pipe" p = ((decide (w = "pipe") && pipeD ps p) || (decide (w = "slot") && slotNumD m p))
      rw [kd_pipe, decide_eq_true h1, decide_eq_false (fun h2 => absurd (h1.symm.trans h2) (by decide +kernel))]
      simp
    | _ :: _ :: _ => simp [whereD]
  · rw [if_neg h1] at h
    by_cases h2 : w = "slot"
    · rw [if_pos h2] at h
      cases h
      refine ⟨by decide, fun z hz => .inr (List.mem_singleton.mp hz), ?_⟩
      rw [hp]
      match ds with
      | [] => rfl
      | [p] =>
        show kindD ps m "slot" p = ((decide (w = "pipe") && pipeD ps p) || (decide (w = "slot") && slotNumD m p))
        rw [kd_slot, decide_eq_false h1, decide_eq_true h2]
        simp
      | _ :: _ :: _ => simp [whereD]
    · rw [if_neg h2] at h
      exact nomatch h
section
variable {P : Program} {w : World} {K : PySem.W.Frag} {mg : Str → Option Value} {base : Heap}
/-! ### is_where -/
def spIsWhere (K : PySem.W.Frag) : Sp := fun vs H Q _ => ∃ (sv v : V) (ps : List Str) (m : Nat) (d : PyData), vs = [sv, v] ∧ SetA K H sv ps m ∧ Dp K H v d ∧ fineD d ∧ ∀ H', Same H H' → Q (.bl (whereD ps m d)) H'
theorem scIsWhere : FnScope ["setup", "thing", "word"] ["setup", "thing"] (defScope sIsWhere) :=
  ⟨rfl, rfl, rfl, by decide +kernel, rfl, by decide +kernel, by decide +kernel⟩
theorem ok_isWhere {f fW fH dW : Addr} {fd fdW fdH : FuncData} {k : Nat} (F : Fun K "is_where" "is_where" sIsWhere f fd)
    (FW : Fun K "word_of" "word_of" sWordOf fW fdW) (bW : Binds K fdW ["thing"] []) (mW : mg "word_of" = some (.ref fW)) (GW : FnOk P w K mg base CX0 (k + 4) fW fdW ["thing"] (spWordOf K))
    (FH : Fun K "has_parts" "has_parts" sHasParts fH fdH) (bH : Binds K fdH ["setup", "thing", "kinds"] []) (mH : mg "has_parts" = some (.ref fH)) (GH : FnOk P w K mg base CX0 (k + 4) fH fdH ["setup", "thing", "kinds"] (spParts K ok0))
    (mD : mg "WHERES" = some (.ref dW)) (T : TabAt K w dW whereTab) : FnOk P w K mg base CX0 (k + 5) f fd ["setup", "thing"] (spIsWhere K) := by
  refine F.ok scIsWhere (fun vs H Q E h => ?_) (fun cdv A outer s H vs Q E hr h => ?_)
  · obtain ⟨sv, v, ps, m, d, rfl, _⟩ := h
    rfl
  · obtain ⟨sv, v, ps, m, d, rfl, hs, hd, hf, q⟩ := h
    refine ⟨_, pss_cons (ps_set (i := 2) scIsWhere.nd rfl (.inl rfl) (pe_call GW hr (by rfl) mW FW.kp bW .nil pass0 (pa_cons (pv 1) pa_nil)))
      (pss_one (ps_ret (pe_and (pe_cmpR (op_inTab (K := K) (w := w) rfl rfl T) (pv 2) (pe_glob (v := .ref dW) (by rfl) mD rfl) (by rfl))
        (pe_one (pe_call GH hr (by rfl) mH FH.kp bH .nil pass0 (pa_cons (pv 0) (pa_cons (pv 1) (pa_cons (pe_ix ix_kdict (pe_glob (v := .ref dW) (by rfl) mD rfl) (pv 2) (fun _ _ => rfl)) pa_nil)))))))), ?_⟩
    refine ⟨_, rfl, v, d, rfl, hd, ?_⟩
    refine ⟨_, rfl, wordOfD d, rfl, rfl, _, rfl, ?_⟩
    cases ht : whereTab (wordOfD d) with
    | none =>
      have q1 := q H fun _ _ z => z
      rw [where_none ps m ht] at q1
      exact iteF q1
    | some ks =>
      obtain ⟨w', ds, rfl, hk, ho, e⟩ := where_some ps m ht
      obtain ⟨a, ha, hkd⟩ := T.item ht
      refine iteT ⟨_, rfl, _, rfl, _, rfl, dW, _, _, rfl, rfl, hkd, sv, v, a, ks, ps, m, _, ds, rfl, hs, hd, hf, ha _, hk, ho, fun H' s' => ?_⟩
      rw [e]
      exact q H' s'
end
end KV

namespace KV
open PySem PySem.Spec PyProof.Rows L2 RZ
abbrev sIsDeed : Stmt := topS 21
/-- what stands behind the word of a deed -/
def deedTab (z : Str) : Option (List Str) :=
  if z = "nop" then some [] else if z = "work" then some ["good"] else if z = "read" then some ["where", "from 1"] else if z = "reads" then some ["where", "from 1"]
  else if z = "write" then some ["where", "text"] else if z = "shut" then some ["where"] else if z = "timeout" then some ["from 0"] else if z = "linktimeout" then some ["from 0"]
  else if z = "cancel" then some ["name"] else if z = "cancelall" then some [] else if z = "update" then some ["slot", "pipe or none"] else none
/-- a DEED -/
def isDeedD (ps : List Str) (m : Nat) (d : PyData) : Bool :=
  match deedTab (wordOfD d), d with
  | some ks, .tuple (_ :: ds) => partsD ps m ks ds
  | _, _ => false
theorem deedTab_ok {z : Str} {ks : List Str} (h : deedTab z = some ks) : ks.length ≤ 9 ∧ ∀ y ∈ ks, ok1 y := by
  unfold deedTab at h
  have go : ∀ l : List Str, l = [] ∨ l = (["good"] : List Str) ∨ l = (["where", "from 1"] : List Str) ∨ l = (["where", "text"] : List Str) ∨ l = (["where"] : List Str) ∨ l = (["from 0"] : List Str) ∨ l = (["name"] : List Str) ∨ l = (["slot", "pipe or none"] : List Str) → l.length ≤ 9 ∧ ∀ y ∈ l, ok1 y := by
    intro l hl
    unfold ok1
    rcases hl with rfl | rfl | rfl | rfl | rfl | rfl | rfl | rfl <;> simp
  apply go
  split at h
  · cases h; simp
  split at h
  · cases h; simp
  split at h
  · cases h; simp
  split at h
  · cases h; simp
  split at h
  · cases h; simp
  split at h
  · cases h; simp
  split at h
  · cases h; simp
  split at h
  · cases h; simp
  split at h
  · cases h; simp
  split at h
  · cases h; simp
  split at h
  · cases h; simp
  · exact nomatch h
theorem deed_none (ps : List Str) (m : Nat) {d : PyData} (h : deedTab (wordOfD d) = none) : isDeedD ps m d = false := by
  unfold isDeedD
  rw [h]
theorem deed_some (ps : List Str) (m : Nat) {d : PyData} {ks : List Str} (h : deedTab (wordOfD d) = some ks) : ∃ w ds, d = .tuple (.str w :: ds) ∧ deedTab w = some ks ∧ partsD ps m ks ds = isDeedD ps m d := by
  have hw : wordOfD d ≠ Str.empty := fun e => by
    rw [e, show deedTab Str.empty = none by decide +kernel] at h
    exact nomatch h
  obtain ⟨w, ds, rfl, e⟩ := word_some hw
  refine ⟨w, ds, rfl, e ▸ h, ?_⟩
  unfold isDeedD
  rw [h]
section
variable {P : Program} {w : World} {K : PySem.W.Frag} {mg : Str → Option Value} {base : Heap}
theorem ok_isKind1 {f fP fS fT fN fI fX fW : Addr} {fd fdP fdS fdT fdN fdI fdX fdW : FuncData} {k : Nat} (F : Fun K "is_kind" "is_kind" sIsKind f fd)
    (FT : Fun K "is_truth" "is_truth" sTruth fT fdT) (bT : Binds K fdT ["thing"] []) (mT : mg "is_truth" = some (.ref fT)) (GT : FnOk P w K mg base CX0 k fT fdT ["thing"] (spTruth K))
    (FN : Fun K "is_number" "is_number" sNum fN fdN) (bN : Binds K fdN ["thing", "least"] []) (mN : mg "is_number" = some (.ref fN)) (GN : FnOk P w K mg base CX0 k fN fdN ["thing", "least"] (spNum K))
    (FI : Fun K "is_name" "is_name" sIsName fI fdI) (bI : Binds K fdI ["thing"] []) (mI : mg "is_name" = some (.ref fI)) (GI : FnOk P w K mg base CX0 k fI fdI ["thing"] (spIsName K))
    (FX : Fun K "is_text" "is_text" sIsText fX fdX) (bX : Binds K fdX ["thing"] []) (mX : mg "is_text" = some (.ref fX)) (GX : FnOk P w K mg base CX0 k fX fdX ["thing"] (spIsText K))
    (FP : Fun K "is_pipe" "is_pipe" sIsPipe fP fdP) (bP : Binds K fdP ["setup", "thing"] []) (mP : mg "is_pipe" = some (.ref fP)) (GP : FnOk P w K mg base CX0 k fP fdP ["setup", "thing"] (spIsPipe K))
    (FS : Fun K "is_slot" "is_slot" sIsSlot fS fdS) (bS : Binds K fdS ["setup", "thing"] []) (mS : mg "is_slot" = some (.ref fS)) (GS : FnOk P w K mg base CX0 k fS fdS ["setup", "thing"] (spIsSlot K))
    (FW : Fun K "is_where" "is_where" sIsWhere fW fdW) (bW : Binds K fdW ["setup", "thing"] []) (mW : mg "is_where" = some (.ref fW)) (GW : FnOk P w K mg base CX0 k fW fdW ["setup", "thing"] (spIsWhere K)) :
    FnOk P w K mg base CX0 (k + 1) f fd ["setup", "part", "kind"] (spKind K ok1) := by
  refine F.ok scIsKind (fun vs H Q E h => ?_) (fun cdv A outer s H vs Q E hr h => ?_)
  · obtain ⟨sv, v, z, ps, m, d, rfl, _⟩ := h
    rfl
  · obtain ⟨sv, v, z, ps, m, d, rfl, hs, hd, hf, hz, q⟩ := h
    refine ⟨_, pss_one (ps_match (pv 2) (pmc_or (pss_one (ps_ret (pe_call GT hr (by rfl) mT FT.kp bT .nil pass0 (pa_cons (pv 1) pa_nil))))
      (pmc_val (pss_one (ps_ret (pe_call GN hr (by rfl) mN FN.kp bN .nil pass0 (pa_cons (pv 1) (pa_cons pe_int pa_nil)))))
      (pmc_val (pss_one (ps_ret (pe_call GN hr (by rfl) mN FN.kp bN .nil pass0 (pa_cons (pv 1) (pa_cons pe_int pa_nil)))))
      (pmc_val (pss_one (ps_ret (pe_call GI hr (by rfl) mI FI.kp bI .nil pass0 (pa_cons (pv 1) pa_nil))))
      (pmc_val (pss_one (ps_ret (pe_call GX hr (by rfl) mX FX.kp bX .nil pass0 (pa_cons (pv 1) pa_nil))))
      (pmc_val pss_no
      (pmc_val (pss_one (ps_ret (pe_call GP hr (by rfl) mP FP.kp bP .nil pass0 (pa_cons (pv 0) (pa_cons (pv 1) pa_nil)))))
      (pmc_val (pss_one (ps_ret (pe_or (pe_cmpR op_isN (pv 1) pe_non (nomark _)) (pe_one (pe_call GP hr (by rfl) mP FP.kp bP .nil pass0 (pa_cons (pv 0) (pa_cons (pv 1) pa_nil)))))))
      (pmc_val (pss_one (ps_ret (pe_call GS hr (by rfl) mS FS.kp bS .nil pass0 (pa_cons (pv 0) (pa_cons (pv 1) pa_nil)))))
      (pmc_val (pss_one (ps_ret (pe_call GW hr (by rfl) mW FW.kp bW .nil pass0 (pa_cons (pv 0) (pa_cons (pv 1) pa_nil)))))
      (pmc_val pss_no (pmc_last pss_no))))))))))))), ?_⟩
    have q0 := q H fun _ _ z => z
    rcases hz with rfl | rfl | rfl | rfl | rfl | rfl | rfl | rfl | rfl
    · rw [kd_good] at q0
      refine ⟨_, rfl, _, rfl, pickF (by decide +kernel) (pickT (by decide +kernel) ?_)⟩
      exact ⟨_, rfl, v, d, rfl, hd, q0⟩
    · rw [kd_from0] at q0
      refine ⟨_, rfl, _, rfl, pickF (by decide +kernel) (pickF (by decide +kernel) (pickT (by decide +kernel) ?_))⟩
      exact ⟨_, rfl, v, d, 0, rfl, hd, q0⟩
    · rw [kd_from1] at q0
      refine ⟨_, rfl, _, rfl, pickF (by decide +kernel) (pickF (by decide +kernel) (pickF (by decide +kernel) (pickT (by decide +kernel) ?_)))⟩
      exact ⟨_, rfl, v, d, 1, rfl, hd, q0⟩
    · refine ⟨_, rfl, _, rfl, pickF (by decide +kernel) (pickF (by decide +kernel) (pickF (by decide +kernel) (pickF (by decide +kernel) (pickT (by decide +kernel) ?_))))⟩
      exact ⟨_, rfl, v, d, rfl, hd, hf.str, fun H' s' => kd_name (ps := ps) (m := m) ▸ q H' s'⟩
    · refine ⟨_, rfl, _, rfl, pickF (by decide +kernel) (pickF (by decide +kernel) (pickF (by decide +kernel) (pickF (by decide +kernel) (pickF (by decide +kernel) (pickT (by decide +kernel) ?_)))))⟩
      exact ⟨_, rfl, v, d, rfl, hd, hf.str, fun H' s' => kd_text (ps := ps) (m := m) ▸ q H' s'⟩
    · rw [kd_pipe] at q0
      refine ⟨_, rfl, _, rfl, pickF (by decide +kernel) (pickF (by decide +kernel) (pickF (by decide +kernel) (pickF (by decide +kernel) (pickF (by decide +kernel) (pickF (by decide +kernel) (pickF (by decide +kernel) (pickT (by decide +kernel) ?_)))))))⟩
      exact ⟨_, rfl, _, rfl, sv, v, ps, m, d, rfl, hs, hd, hf.lay, q0⟩
    · rw [kd_pon] at q0
      refine ⟨_, rfl, _, rfl, pickF (by decide +kernel) (pickF (by decide +kernel) (pickF (by decide +kernel) (pickF (by decide +kernel) (pickF (by decide +kernel) (pickF (by decide +kernel) (pickF (by decide +kernel) (pickF (by decide +kernel) (pickT (by decide +kernel) ?_))))))))⟩
      have hq : d ≠ .none → Q (.bl (pipeD ps d)) H := fun hn => by
        have e : kindD.slotD0 ps d = pipeD ps d := by
          cases d with
          | none => exact absurd rfl hn
          | _ => rfl
        rw [e] at q0
        exact q0
      refine ⟨_, rfl, rfl, _, rfl, ?_⟩
      have hv := hd
      cases hd with
      | non => exact iteT q0
      | bl c => exact iteF ⟨_, rfl, _, rfl, sv, _, ps, m, _, rfl, hs, hv, hf.lay, hq (by intro e; cases e)⟩
      | int c => exact iteF ⟨_, rfl, _, rfl, sv, _, ps, m, _, rfl, hs, hv, hf.lay, hq (by intro e; cases e)⟩
      | str c => exact iteF ⟨_, rfl, _, rfl, sv, _, ps, m, _, rfl, hs, hv, hf.lay, hq (by intro e; cases e)⟩
      | lst _ _ => exact iteF ⟨_, rfl, _, rfl, sv, _, ps, m, _, rfl, hs, hv, hf.lay, hq (by intro e; cases e)⟩
      | tup _ _ => exact iteF ⟨_, rfl, _, rfl, sv, _, ps, m, _, rfl, hs, hv, hf.lay, hq (by intro e; cases e)⟩
    · rw [kd_slot] at q0
      refine ⟨_, rfl, _, rfl, pickF (by decide +kernel) (pickF (by decide +kernel) (pickF (by decide +kernel) (pickF (by decide +kernel) (pickF (by decide +kernel) (pickF (by decide +kernel) (pickF (by decide +kernel) (pickF (by decide +kernel) (pickF (by decide +kernel) (pickT (by decide +kernel) ?_)))))))))⟩
      exact ⟨_, rfl, _, rfl, sv, v, ps, m, d, rfl, hs, hd, q0⟩
    · refine ⟨_, rfl, _, rfl, pickF (by decide +kernel) (pickF (by decide +kernel) (pickF (by decide +kernel) (pickF (by decide +kernel) (pickF (by decide +kernel) (pickF (by decide +kernel) (pickF (by decide +kernel) (pickF (by decide +kernel) (pickF (by decide +kernel) (pickF (by decide +kernel) (pickT (by decide +kernel) ?_))))))))))⟩
      exact ⟨_, rfl, _, rfl, sv, v, ps, m, d, rfl, hs, hd, hf, fun H' s' => kd_where (ps := ps) (m := m) ▸ q H' s'⟩
/-! ### is_deed -/
def spIsDeed (K : PySem.W.Frag) : Sp := fun vs H Q _ => ∃ (sv v : V) (ps : List Str) (m : Nat) (d : PyData), vs = [sv, v] ∧ SetA K H sv ps m ∧ Dp K H v d ∧ fineD d ∧ ∀ H', Same H H' → Q (.bl (isDeedD ps m d)) H'
theorem scIsDeed : FnScope ["setup", "thing", "word"] ["setup", "thing"] (defScope sIsDeed) :=
  ⟨rfl, rfl, rfl, by decide +kernel, rfl, by decide +kernel, by decide +kernel⟩
theorem ok_isDeed {f fW fH dW : Addr} {fd fdW fdH : FuncData} {k : Nat} (F : Fun K "is_deed" "is_deed" sIsDeed f fd)
    (FW : Fun K "word_of" "word_of" sWordOf fW fdW) (bW : Binds K fdW ["thing"] []) (mW : mg "word_of" = some (.ref fW)) (GW : FnOk P w K mg base CX0 k fW fdW ["thing"] (spWordOf K))
    (FH : Fun K "has_parts" "has_parts" sHasParts fH fdH) (bH : Binds K fdH ["setup", "thing", "kinds"] []) (mH : mg "has_parts" = some (.ref fH)) (GH : FnOk P w K mg base CX0 k fH fdH ["setup", "thing", "kinds"] (spParts K ok1))
    (mD : mg "DEEDS" = some (.ref dW)) (T : TabAt K w dW deedTab) : FnOk P w K mg base CX0 (k + 1) f fd ["setup", "thing"] (spIsDeed K) := by
  refine F.ok scIsDeed (fun vs H Q E h => ?_) (fun cdv A outer s H vs Q E hr h => ?_)
  · obtain ⟨sv, v, ps, m, d, rfl, _⟩ := h
    rfl
  · obtain ⟨sv, v, ps, m, d, rfl, hs, hd, hf, q⟩ := h
    refine ⟨_, pss_cons (ps_set (i := 2) scIsDeed.nd rfl (.inl rfl) (pe_call GW hr (by rfl) mW FW.kp bW .nil pass0 (pa_cons (pv 1) pa_nil)))
      (pss_one (ps_ret (pe_and (pe_cmpR (op_inTab (K := K) (w := w) rfl rfl T) (pv 2) (pe_glob (v := .ref dW) (by rfl) mD rfl) (by rfl))
        (pe_one (pe_call GH hr (by rfl) mH FH.kp bH .nil pass0 (pa_cons (pv 0) (pa_cons (pv 1) (pa_cons (pe_ix ix_kdict (pe_glob (v := .ref dW) (by rfl) mD rfl) (pv 2) (fun _ _ => rfl)) pa_nil)))))))), ?_⟩
    refine ⟨_, rfl, v, d, rfl, hd, ?_⟩
    refine ⟨_, rfl, wordOfD d, rfl, rfl, _, rfl, ?_⟩
    cases ht : deedTab (wordOfD d) with
    | none =>
      have q1 := q H fun _ _ z => z
      rw [deed_none ps m ht] at q1
      exact iteF q1
    | some ks =>
      obtain ⟨w', ds, rfl, ht2, e⟩ := deed_some ps m ht
      obtain ⟨hk, ho⟩ := deedTab_ok ht2
      obtain ⟨a, ha, hkd⟩ := T.item ht
      refine iteT ⟨_, rfl, _, rfl, _, rfl, dW, _, _, rfl, rfl, hkd, sv, v, a, ks, ps, m, _, ds, rfl, hs, hd, hf, ha _, hk, ho, fun H' s' => ?_⟩
      rw [e]
      exact q H' s'
end
end KV

namespace KV
open PySem PySem.Spec PyProof.Rows L2 RZ
abbrev sMayHave : Stmt := topS 22
abbrev sAreFlags : Stmt := topS 23
abbrev sIsRequest : Stmt := topS 24
/-! ### literal data, nothing hidden -/
def tL (K : PySem.W.Frag) (d : PyData) : TE := fun _ H Q => ∀ (v : V) (H' : Hp), Same H H' → Dp K H' v d → Q v H'
def tLs (K : PySem.W.Frag) (ds : List PyData) : TA := fun _ H Q => ∀ (vs : List V) (H' : Hp), Same H H' → DpAll K H' vs ds → Q vs H'
section
variable {X : Cx} {K : PySem.W.Frag} {e : Expr} {es : List Expr} {d : PyData} {ds : List PyData} {pos : Pos}
theorem pl_c {v : V} (he : PE X e (tC v)) (hd : ∀ H : Hp, Dp K H v d) : PE X e (tL K d) := ⟨fun pins s σ H Q I h => he.run pins s σ H Q I (h v H (fun _ _ z => z) (hd _))⟩
theorem pls_nil : PA X [] (tLs K []) := ⟨fun pos pins s σ H Q I h => pa_nil.run pos pins s σ H Q I (h [] H (fun _ _ z => z) .nil)⟩
theorem pls_cons (he : PE X e (tL K d)) (hs : PA X es (tLs K ds)) (h1 : starEach (e :: es) X.env = (false, eval e X.env) :: starEach es X.env := by rfl) : PA X (e :: es) (tLs K (d :: ds)) :=
  ⟨fun pos pins s σ H Q I h => (pa_cons he hs h1).run pos pins s σ H Q I fun v H1 s1 dv vs H2 s2 dvs => h (v :: vs) H2 (s1.trans s2) (.cons (dp_same s2 dv) dvs)⟩
theorem pl_tup {k : Nat} (hs : PA X es (tLs K ds)) (hz : ds.length ≤ 1000 := by decide) : PE X (.Tuple es k pos) (tL K (.tuple ds)) :=
  ⟨fun pins s σ H Q I h => (pe_tup hs).run pins s σ H Q I fun vs H1 s1 dvs => ⟨by have := dps_len dvs; exact Nat.le_of_lt (small1000 (by omega)), fun p np => h _ _ (s1.trans (same_upd np)) (.tup (SqT.of upd_same) (dps_same (same_upd np) dvs))⟩⟩
theorem pl_str {x : Str} {j} : PE X (.Constant (.str x) j pos) (tL K (.str x)) := pl_c pe_str fun _ => .str x
theorem pl_bl {b : Bool} {j} : PE X (.Constant (.bool b) j pos) (tL K (.bool b)) := pl_c pe_bl fun _ => .bl b
end
def quiets : List PyData := [.tuple [.str "nop"], .tuple [.str "work", .bool true]]
def readers : List PyData := [.str "read", .str "reads"]
def freeFlags : List PyData := [.str "drain", .str "hard", .str "link"]
def inD (ds : List PyData) (d : PyData) : Bool := ds.any fun z => PyData.eqv z d
/-- may_have: a deed of this word may have this flag -/
def mayHaveD (w : Str) (ds : List PyData) (f : PyData) : Bool :=
  if decide (w = "linktimeout") = true then false else if PyData.eqv f (.str "silent") = true then inD quiets (.tuple (.str w :: ds)) else if PyData.eqv f (.str "pick") = true then inD readers (.str w) else inD freeFlags f
theorem eqv_strR {d : PyData} {x : Str} (h : PyData.eqv d (.str x) = true) : d = .str x := by
  cases d with
  | str y =>
    have e2 : (y == x) = true := by simpa [PyData.eqv] using h
    rw [eq_of_beq e2]
  | none => simp [PyData.eqv] at h
  | bool _ => simp [PyData.eqv] at h
  | int _ => simp [PyData.eqv] at h
  | list _ => simp [PyData.eqv] at h
  | tuple _ => simp [PyData.eqv] at h
  | dict _ => simp [PyData.eqv] at h
theorem eqv_strL {d : PyData} {x : Str} (h : PyData.eqv (.str x) d = true) : d = .str x := by
  cases d with
  | str y =>
    have e2 : (x == y) = true := by simpa [PyData.eqv] using h
    rw [eq_of_beq e2]
  | none => simp [PyData.eqv] at h
  | bool _ => simp [PyData.eqv] at h
  | int _ => simp [PyData.eqv] at h
  | list _ => simp [PyData.eqv] at h
  | tuple _ => simp [PyData.eqv] at h
  | dict _ => simp [PyData.eqv] at h
/-- the words of flags -/
def flagWords : List Str := ["drain", "hard", "link", "pick", "silent"]
theorem mayHave_str {w : Str} {ds : List PyData} {f : PyData} (h : mayHaveD w ds f = true) : ∃ x, f = .str x ∧ x ∈ flagWords := by
  unfold mayHaveD at h
  by_cases h0 : decide (w = "linktimeout") = true
  · rw [if_pos h0] at h
    exact nomatch h
  rw [if_neg h0] at h
  by_cases h1 : PyData.eqv f (.str "silent") = true
  · exact ⟨_, eqv_strR h1, by decide +kernel⟩
  rw [if_neg h1] at h
  by_cases h2 : PyData.eqv f (.str "pick") = true
  · exact ⟨_, eqv_strR h2, by decide +kernel⟩
  rw [if_neg h2] at h
  have h3 : (PyData.eqv (.str "drain") f || (PyData.eqv (.str "hard") f || (PyData.eqv (.str "link") f || false))) = true := h
  rw [Bool.or_eq_true, Bool.or_eq_true, Bool.or_false] at h3
  rcases h3 with z | z | z
  · exact ⟨_, eqv_strL z, by decide +kernel⟩
  · exact ⟨_, eqv_strL z, by decide +kernel⟩
  · exact ⟨_, eqv_strL z, by decide +kernel⟩
/-- the flags that such a deed can have -/
def flagsD (w : Str) (ds : List PyData) : PyData → Bool
  | .tuple fs => fs.all (mayHaveD w ds) && (ascS (fs.map strOfD) && !(inD fs (.str "hard") && inD fs (.str "link")))
  | _ => false
/-- the flags that this deed can have -/
def flagsOfD (f : PyData) : PyData → Bool
  | .tuple (.str w :: ds) => flagsD w ds f
  | _ => false
/-- a REQUEST, apart from its place -/
def requestD (ps : List Str) (m : Nat) : PyData → Bool
  | .tuple [t, e, f] => isWordD t 8 && (isDeedD ps m e && flagsOfD f e)
  | _ => false
theorem deed_shape {ps : List Str} {m : Nat} {e : PyData} (h : isDeedD ps m e = true) : ∃ w ds ks, e = .tuple (.str w :: ds) ∧ deedTab w = some ks ∧ partsD ps m ks ds = true := by
  cases ht : deedTab (wordOfD e) with
  | none =>
    rw [deed_none ps m ht] at h
    exact nomatch h
  | some ks =>
    obtain ⟨w, ds, rfl, h2, h3⟩ := deed_some ps m ht
    exact ⟨w, ds, ks, rfl, h2, h3.trans h⟩
section
variable {P : Program} {w : World} {K : PySem.W.Frag} {mg : Str → Option Value} {base : Heap}
/-! ### may_have -/
def spMayHave (K : PySem.W.Frag) : Sp := fun vs H Q _ => ∃ (v u : V) (w : Str) (ds : List PyData) (f : PyData), vs = [v, u] ∧ Dp K H v (.tuple (.str w :: ds)) ∧ fineD (.tuple (.str w :: ds)) ∧ Dp K H u f ∧ fineD f ∧ ∀ H', Same H H' → Q (.bl (mayHaveD w ds f)) H'
theorem scMayHave : FnScope ["deed", "flag"] ["deed", "flag"] (defScope sMayHave) :=
  ⟨rfl, rfl, rfl, by decide +kernel, rfl, by decide +kernel, by decide +kernel⟩
theorem ok_mayHave {f : Addr} {fd : FuncData} {k : Nat} (F : Fun K "may_have" "may_have" sMayHave f fd) : FnOk P w K mg base CX0 (k + 1) f fd ["deed", "flag"] (spMayHave K) := by
  refine F.ok scMayHave (fun vs H Q E h => ?_) (fun cdv A outer s H vs Q E hr h => ?_)
  · obtain ⟨v, u, w', ds, fl, rfl, _⟩ := h
    rfl
  · obtain ⟨v, u, w', ds, fl, rfl, hd, hfd, hu, hfu, q⟩ := h
    refine ⟨_, pss_cons (ps_if (pt_cmpR op_eq (pe_ix ix_seq (pv 0) pe_int (fun _ _ => rfl)) pe_str (nomark _)) (pss_one (ps_ret pe_bl)) pss_nil)
      (pss_cons (ps_if (pt_cmpR (op_eqD hr.units) (pv 1) pe_str (nomark _)) (pss_one (ps_ret (pe_cmpR (op_inT2 (K := K) rfl hr.units) (pv 0)
          (pl_tup (K := K) (pls_cons (pl_tup (pls_cons pl_str pls_nil)) (pls_cons (pl_tup (pls_cons pl_str (pls_cons pl_bl pls_nil))) pls_nil))) (by rfl)))) pss_nil)
      (pss_cons (ps_if (pt_cmpR (op_eqD hr.units) (pv 1) pe_str (nomark _)) (pss_one (ps_ret (pe_cmpR (op_inT2 (K := K) rfl hr.units) (pe_ix ix_seq (pv 0) pe_int (fun _ _ => rfl))
          (pl_tup (K := K) (pls_cons pl_str (pls_cons pl_str pls_nil))) (by rfl)))) pss_nil)
      (pss_one (ps_ret (pe_cmpR (op_inT2 (K := K) rfl hr.units) (pv 1) (pl_tup (K := K) (pls_cons pl_str (pls_cons pl_str (pls_cons pl_str pls_nil)))) (by rfl)))))), ?_⟩
    obtain ⟨p, xs, rfl, h1, h2⟩ : ∃ p xs, v = .ref p ∧ SqT K H p (.str w' :: xs) ∧ True := by
      cases hd with
      | tup h1 h2 =>
        cases h2 with
        | cons k1 k2 =>
          cases k1
          exact ⟨_, _, rfl, h1, trivial⟩
    have lw : PyData.strOk w' = true := (hfd.mem List.mem_cons_self).lay
    refine ⟨_, rfl, .inr (.inl ⟨p, _, 0, .str w', rfl, rfl, h1, atI_nat (j := 0) rfl, rfl, _, rfl, ?_⟩)⟩
    have ew : decide (V.str w' = V.str "linktimeout") = decide (w' = "linktimeout") := by
      rw [Bool.eq_iff_iff, decide_eq_true_eq, decide_eq_true_eq]
      exact ⟨fun z => V.str.inj z, fun z => by rw [z]⟩
    show if decide (V.str w' = V.str "linktimeout") = true then _ else _
    rw [ew]
    cases h0 : decide (w' = "linktimeout") with
    | true =>
      have e : mayHaveD w' ds fl = false := by unfold mayHaveD; rw [if_pos h0]
      have q1 := q H fun _ _ z => z
      rw [e] at q1
      exact iteT q1
    | false =>
      refine iteF ⟨_, rfl, fl, .str "silent", hu, .str _, hfu.shaped, by decide +kernel, _, rfl, ?_⟩
      have n0 : ¬ decide (w' = "linktimeout") = true := by rw [h0]; exact Bool.false_ne_true
      cases h1' : PyData.eqv fl (.str "silent") with
      | true =>
        have e : mayHaveD w' ds fl = inD quiets (.tuple (.str w' :: ds)) := by unfold mayHaveD; rw [if_neg n0, if_pos h1']
        refine iteT ⟨_, rfl, fun y H1 s1 dy => ⟨_, quiets, dp_same s1 hd, dy, by decide +kernel, hfd.lay, by decide +kernel, ?_⟩⟩
        have q1 := q H1 s1
        rw [e] at q1
        exact q1
      | false =>
        have n1 : ¬ PyData.eqv fl (.str "silent") = true := by rw [h1']; exact Bool.false_ne_true
        refine iteF ⟨_, rfl, fl, .str "pick", hu, .str _, hfu.shaped, by decide +kernel, _, rfl, ?_⟩
        cases h2' : PyData.eqv fl (.str "pick") with
        | true =>
          have e : mayHaveD w' ds fl = inD readers (.str w') := by unfold mayHaveD; rw [if_neg n0, if_neg n1, if_pos h2']
          refine iteT ⟨_, rfl, .inr (.inl ⟨p, _, 0, .str w', rfl, rfl, h1, atI_nat (j := 0) rfl, fun y H1 s1 dy => ⟨_, readers, .str _, dy, by decide +kernel, lw, by decide +kernel, ?_⟩⟩)⟩
          have q1 := q H1 s1
          rw [e] at q1
          exact q1
        | false =>
          have n2 : ¬ PyData.eqv fl (.str "pick") = true := by rw [h2']; exact Bool.false_ne_true
          have e : mayHaveD w' ds fl = inD freeFlags fl := by unfold mayHaveD; rw [if_neg n0, if_neg n1, if_neg n2]
          refine iteF ⟨_, rfl, fun y H1 s1 dy => ⟨_, freeFlags, dp_same s1 hu, dy, by decide +kernel, hfu.lay, by decide +kernel, ?_⟩⟩
          have q1 := q H1 s1
          rw [e] at q1
          exact q1
end
end KV

namespace KV
open PySem PySem.Spec PyProof.Rows L2 RZ
theorem strs_of {fs : List PyData} {Pf : PyData → Bool} (hp : ∀ f, Pf f = true → ∃ x, f = .str x ∧ x ∈ flagWords) (h : fs.all Pf = true) : fs = (fs.map strOfD).map PyData.str := by
  induction fs with
  | nil => rfl
  | cons d ds ih =>
    rw [List.all_cons, Bool.and_eq_true] at h
    rw [List.map_cons, List.map_cons, ← ih h.2]
    obtain ⟨x, rfl, _⟩ := hp d h.1
    rfl
theorem depth_of_strs (l : List Str) : PyData.depthAll (l.map PyData.str) = 0 := depth_strs l
section
variable {P : Program} {w : World} {K : PySem.W.Frag} {mg : Str → Option Value} {base : Heap}
/-! ### are_flags -/
def spAreFlags (K : PySem.W.Frag) : Sp := fun vs H Q _ => ∃ (v u : V) (w : Str) (ds : List PyData) (f : PyData), vs = [v, u] ∧ Dp K H v (.tuple (.str w :: ds)) ∧ fineD (.tuple (.str w :: ds)) ∧ Dp K H u f ∧ fineD f ∧ ∀ H', Same H H' → Q (.bl (flagsD w ds f)) H'
abbrev nAreFlags : List Str := ["deed", "thing", "flag"]
theorem scAreFlags : FnScope nAreFlags ["deed", "thing"] (defScope sAreFlags) :=
  ⟨rfl, rfl, rfl, by decide +kernel, rfl, by decide +kernel, by decide +kernel⟩
theorem ok_areFlags {f fM fA : Addr} {fd fdM fdA : FuncData} {k : Nat} (F : Fun K "are_flags" "are_flags" sAreFlags f fd)
    (FM : Fun K "may_have" "may_have" sMayHave fM fdM) (bM : Binds K fdM ["deed", "flag"] []) (mM : mg "may_have" = some (.ref fM)) (GM : FnOk P w K mg base CX0 k fM fdM ["deed", "flag"] (spMayHave K))
    (FA : Fun K "ascends" "ascends" sAsc fA fdA) (bA : Binds K fdA ["names"] []) (mA : mg "ascends" = some (.ref fA)) (GA : FnOk P w K mg base CX0 k fA fdA ["names"] (spAsc K))
    (mi : mg "isinstance" = none) (mt : mg "tuple" = none) (ma : mg "all" = none) : FnOk P w K mg base CX0 (k + 1) f fd ["deed", "thing"] (spAreFlags K) := by
  refine F.ok scAreFlags (fun vs H Q E h => ?_) (fun cdv A outer s H vs Q E hr h => ?_)
  · obtain ⟨v, u, w', ds, fl, rfl, _⟩ := h
    rfl
  · obtain ⟨v, u, w', ds, fl, rfl, hd, hfd, hu, hfu, q⟩ := h
    refine ⟨_, pss_cons (ps_if (PW.pt (pw_or (pt_not (pt_val (pe_callB (cr_isOne "tuple") (by rfl) mi boot_isinstance (pa_cons (pv 1) (pa_cons (pe_bltn (v := .ty "tuple") (by rfl) mt (by decide +kernel) rfl) pa_nil)))))
        (pw_or1 (pt_not (pt_val (pe_callB (cr_all rfl) (by rfl) ma boot_all (pa_cons
          (pe_lc (own := [("flag", 2)]) (g := gName 2) (tt := tYes) rfl scAreFlags.nd (pi_tup (pv 1)) (blkOk_by (N := nAreFlags) (sc := defScope sAreFlags) (by decide +kernel))
            (fun _ _ _ _ _ => pg_name (i := 2) scAreFlags.nd rfl (Or.inl rfl)) (fun _ _ _ _ _ => pts_nil) (fun _ _ _ _ _ => pe_call GM hr (by rfl) mM FM.kp bM .nil pass0 (pa_cons (pv 0) (pa_cons (pv 2) pa_nil)))) pa_nil))))))) (pss_one (ps_ret pe_bl)) pss_nil)
      (pss_one (ps_ret (pe_and (pe_call GA hr (by rfl) mA FA.kp bA .nil pass0 (pa_cons (pv 1) pa_nil))
        (pe_one (pe_not (pe_and (pe_cmpR (op_inT2 (K := K) rfl hr.units) pe_str (pv 1) (by rfl)) (pe_one (pe_cmpR (op_inT2 (K := K) rfl hr.units) pe_str (pv 1) (by rfl))))))))), ?_⟩
    have q0 : flagsD w' ds fl = false → Q (.bl false) H := fun e => by
      have := q H fun _ _ z => z
      rw [e] at this
      exact this
    have hv := hu
    cases hu with
    | non => exact ⟨_, rfl, ⟨_, _, rfl, hv, false, (show kitB "NoneType" "tuple" = some false by decide +kernel), _, rfl, iteT (iteT (q0 rfl))⟩⟩
    | bl c => exact ⟨_, rfl, ⟨_, _, rfl, hv, false, (show kitB "bool" "tuple" = some false by decide +kernel), _, rfl, iteT (iteT (q0 rfl))⟩⟩
    | int c => exact ⟨_, rfl, ⟨_, _, rfl, hv, false, (show kitB "int" "tuple" = some false by decide +kernel), _, rfl, iteT (iteT (q0 rfl))⟩⟩
    | str c => exact ⟨_, rfl, ⟨_, _, rfl, hv, false, (show kitB "str" "tuple" = some false by decide +kernel), _, rfl, iteT (iteT (q0 rfl))⟩⟩
    | lst h1 h2 => exact ⟨_, rfl, ⟨_, _, rfl, hv, false, (show kitB "list" "tuple" = some false by decide +kernel), _, rfl, iteT (iteT (q0 rfl))⟩⟩
    | tup h1 h2 =>
      rename_i a xs fs
      have hl := dps_len h2
      have hlen := hfu.len
      have ef : flagsD w' ds (.tuple fs) = (fs.all (mayHaveD w' ds) && (ascS (fs.map strOfD) && !(inD fs (.str "hard") && inD fs (.str "link")))) := rfl
      refine ⟨_, rfl, ⟨_, _, rfl, hv, true, (show kitB "tuple" "tuple" = some true by decide +kernel), _, rfl, iteF ?_⟩⟩
      refine ⟨_, rfl, a, rfl, ⟨xs, h1⟩, fun D nD => lc_flags (K := K) (walk_tup (xs := xs)) h2 nD (by omega) (fun H2 s2 => same_seqT s2 h1) (mayHaveD w' ds)
        (fun j x e H2 Q2 he s2 dx k2 => ⟨_, rfl, _, rfl, v, x, w', ds, e, rfl, dp_same s2 hd, hfd, dx, hfu.mem (List.mem_of_getElem? he), k2⟩) fun H2 s2 hD2 => ⟨D, _, rfl, SqL.of hD2, ?_⟩⟩
      rw [List.all_map]
      have eall : fs.all (id ∘ mayHaveD w' ds) = fs.all (mayHaveD w' ds) := rfl
      rw [eall]
      refine ⟨_, rfl, ?_⟩
      cases he : fs.all (mayHaveD w' ds) with
      | false =>
        have q1 := q H2 s2
        rw [ef, he] at q1
        exact iteT q1
      | true =>
        refine iteF ?_
        rw [he, Bool.true_and] at ef
        have eb := strs_of (fun f hf => mayHave_str hf) he
        have h2' := h2
        rw [eb] at h2'
        have ev := dps_strV h2'
        have la : PyData.canLayAll0 fs = true := by
          have := hfu.lay
          simpa only [PyData.canLay0] using this
        have dp0 : PyData.depthAll fs ≤ 60 := by
          rw [eb, depth_of_strs]
          omega
        have q1 : ∀ H', Same H2 H' → Q (.bl (flagsD w' ds (.tuple fs))) H' := fun H' s' => q H' (s2.trans s')
        rw [ef] at q1
        refine ⟨_, rfl, a, fs.map strOfD, rfl, by rw [← ev]; exact same_seqT s2 h1, by rw [List.length_map]; omega, fun H3 s3 => ⟨_, rfl, ?_⟩⟩
        have q2 := q1 H3 s3
        have dt : Dp K H3 (.ref a) (.tuple fs) := dp_same (s2.trans s3) hv
        cases ha : ascS (fs.map strOfD) with
        | false =>
          rw [ha] at q2
          exact iteF q2
        | true =>
          rw [ha, Bool.true_and] at q2
          refine iteT ⟨_, rfl, .str "hard", fs, .str _, dt, la, by decide +kernel, dp0, _, rfl, ?_⟩
          have i1 : (fs.any fun z => PyData.eqv z (.str "hard")) = inD fs (.str "hard") := rfl
          have i2 : (fs.any fun z => PyData.eqv z (.str "link")) = inD fs (.str "link") := rfl
          rw [i1]
          cases hh : inD fs (.str "hard") with
          | false =>
            rw [hh] at q2
            exact iteF ⟨_, rfl, q2⟩
          | true =>
            rw [hh, Bool.true_and] at q2
            refine iteT ⟨_, rfl, .str "link", fs, .str _, dt, la, by decide +kernel, dp0, _, rfl, ?_⟩
            rw [i2]
            exact q2
end
end KV

namespace KV
open PySem PySem.Spec PyProof.Rows L2 RZ
abbrev sIsLt : Stmt := topS 25
abbrev sBinds : Stmt := topS 26
theorem request_row {ps : List Str} {m : Nat} : ∀ {d : PyData}, isRowD d 3 = false → requestD ps m d = false
  | .tuple [a, b, c], h => nomatch h
  | .tuple [], _ => rfl
  | .tuple [_], _ => rfl
  | .tuple [_, _], _ => rfl
  | .tuple (_ :: _ :: _ :: _ :: _), _ => rfl
  | .none, _ => rfl
  | .bool _, _ => rfl
  | .int _, _ => rfl
  | .str _, _ => rfl
  | .list _, _ => rfl
  | .dict _, _ => rfl
theorem row_three : ∀ {d : PyData}, isRowD d 3 = true → ∃ a b c, d = .tuple [a, b, c]
  | .tuple [a, b, c], _ => ⟨a, b, c, rfl⟩
  | .tuple [], h => nomatch h
  | .tuple [_], h => nomatch h
  | .tuple [_, _], h => nomatch h
  | .tuple (a :: b :: c :: e :: r), h => by
    have z : decide ((a :: b :: c :: e :: r : List PyData).length = 3) = true := h
    simp at z
  | .none, h => nomatch h
  | .bool _, h => nomatch h
  | .int _, h => nomatch h
  | .str _, h => nomatch h
  | .list _, h => nomatch h
  | .dict _, h => nomatch h
theorem dp_threeA {K : PySem.W.Frag} {H : Hp} {v : V} {a b c : PyData} (h : Dp K H v (.tuple [a, b, c])) : ∃ (p : Addr) (x y z : V), v = .ref p ∧ SqT K H p [x, y, z] ∧ Dp K H x a ∧ Dp K H y b ∧ Dp K H z c := by
  cases h with
  | tup h1 h2 =>
    cases h2 with
    | cons a1 h2 =>
      cases h2 with
      | cons a2 h2 =>
        cases h2 with
        | cons a3 h2 =>
          cases h2
          exact ⟨_, _, _, _, rfl, h1, a1, a2, a3⟩
/-- a request, read -/
structure RqA where
  tag : Str
  word : Str
  rest : List PyData
  words : List Str
def rqa (r : RqA) : PyData := .tuple [.str r.tag, .tuple (.str r.word :: r.rest), .tuple (r.words.map PyData.str)]
def ltA (r : RqA) : Bool := decide (r.word = "linktimeout")
def bindsA (r : RqA) : Bool := decide (Str.ofString "link" ∈ r.words) || decide (Str.ofString "hard" ∈ r.words)
/-- what is a REQUEST reads as one -/
theorem request_read {ps : List Str} {m : Nat} {d : PyData} (h : requestD ps m d = true) : ∃ r : RqA, d = rqa r := by
  cases h3 : isRowD d 3 with
  | false =>
    rw [request_row h3] at h
    exact nomatch h
  | true =>
    obtain ⟨t, e, f, rfl⟩ := row_three h3
    have h : (isWordD t 8 && (isDeedD ps m e && flagsOfD f e)) = true := h
    rw [Bool.and_eq_true, Bool.and_eq_true] at h
    obtain ⟨ht, he, hf⟩ := h
    obtain ⟨w, ds, ks, rfl, _, _⟩ := deed_shape he
    have hf : flagsD w ds f = true := hf
    obtain ⟨x, rfl⟩ : ∃ x, t = .str x := by
      cases t with
      | str x => exact ⟨x, rfl⟩
      | _ => exact nomatch ht
    cases f with
    | tuple fs =>
      have hf : (fs.all (mayHaveD w ds) && (ascS (fs.map strOfD) && !(inD fs (.str "hard") && inD fs (.str "link")))) = true := hf
      rw [Bool.and_eq_true] at hf
      refine ⟨⟨x, w, ds, fs.map strOfD⟩, ?_⟩
      show _ = PyData.tuple [.str x, .tuple (.str w :: ds), .tuple ((fs.map strOfD).map PyData.str)]
      rw [← strs_of (fun f hf => mayHave_str hf) hf.1]
    | _ => exact nomatch hf
section
variable {P : Program} {w : World} {K : PySem.W.Frag} {mg : Str → Option Value} {base : Heap}
/-! ### is_request -/
def spIsRequest (K : PySem.W.Frag) : Sp := fun vs H Q _ => ∃ (sv v : V) (ps : List Str) (m : Nat) (d : PyData), vs = [sv, v] ∧ SetA K H sv ps m ∧ Dp K H v d ∧ fineD d ∧ ∀ H', Same H H' → Q (.bl (requestD ps m d)) H'
abbrev nIsRequest : List Str := ["setup", "thing", "tag", "deed", "flags"]
theorem scIsRequest : FnScope nIsRequest ["setup", "thing"] (defScope sIsRequest) :=
  ⟨rfl, rfl, rfl, by decide +kernel, rfl, by decide +kernel, by decide +kernel⟩
theorem ok_isRequest {f fR fI fD fF : Addr} {fd fdR fdI fdD fdF : FuncData} {k : Nat} (F : Fun K "is_request" "is_request" sIsRequest f fd)
    (FR : Fun K "is_row" "is_row" sRow fR fdR) (bR : Binds K fdR ["thing", "many"] []) (mR : mg "is_row" = some (.ref fR)) (GR : FnOk P w K mg base CX0 k fR fdR ["thing", "many"] (spRow K))
    (FI : Fun K "is_name" "is_name" sIsName fI fdI) (bI : Binds K fdI ["thing"] []) (mI : mg "is_name" = some (.ref fI)) (GI : FnOk P w K mg base CX0 k fI fdI ["thing"] (spIsName K))
    (FD : Fun K "is_deed" "is_deed" sIsDeed fD fdD) (bD : Binds K fdD ["setup", "thing"] []) (mD : mg "is_deed" = some (.ref fD)) (GD : FnOk P w K mg base CX0 k fD fdD ["setup", "thing"] (spIsDeed K))
    (FF : Fun K "are_flags" "are_flags" sAreFlags fF fdF) (bF : Binds K fdF ["deed", "thing"] []) (mF : mg "are_flags" = some (.ref fF)) (GF : FnOk P w K mg base CX0 k fF fdF ["deed", "thing"] (spAreFlags K)) :
    FnOk P w K mg base CX0 (k + 1) f fd ["setup", "thing"] (spIsRequest K) := by
  refine F.ok scIsRequest (fun vs H Q E h => ?_) (fun cdv A outer s H vs Q E hr h => ?_)
  · obtain ⟨sv, v, ps, m, d, rfl, _⟩ := h
    rfl
  · obtain ⟨sv, v, ps, m, d, rfl, hs, hd, hf, q⟩ := h
    refine ⟨_, pss_cons (ps_if (pt_not (pt_val (pe_call GR hr (by rfl) mR FR.kp bR .nil pass0 (pa_cons (pv 1) (pa_cons pe_int pa_nil))))) (pss_one (ps_ret pe_bl)) pss_nil)
      (pss_cons (ps_asg (pv 1) (pg_tup rfl (pgs_cons (pg_name (i := 2) scIsRequest.nd rfl (.inl rfl)) (pgs_cons (pg_name (i := 3) scIsRequest.nd rfl (.inl rfl)) (pgs_cons (pg_name (i := 4) scIsRequest.nd rfl (.inl rfl)) pgs_nil)))))
      (pss_one (ps_ret (pe_and (pe_call GI hr (by rfl) mI FI.kp bI .nil pass0 (pa_cons (pv 2) pa_nil))
        (pe_and (pe_call GD hr (by rfl) mD FD.kp bD .nil pass0 (pa_cons (pv 0) (pa_cons (pv 3) pa_nil)))
        (pe_one (pe_call GF hr (by rfl) mF FF.kp bF .nil pass0 (pa_cons (pv 3) (pa_cons (pv 4) pa_nil))))))))), ?_⟩
    refine ⟨_, rfl, v, d, 3, rfl, hd, _, rfl, ?_⟩
    cases h3 : isRowD d 3 with
    | false =>
      have q1 := q H fun _ _ z => z
      rw [request_row h3] at q1
      exact iteT q1
    | true =>
      refine iteF ?_
      obtain ⟨t, e, fl, rfl⟩ := row_three h3
      obtain ⟨p, x, y, z, rfl, hS, d1, d2, d3⟩ := dp_threeA hd
      have f1 : fineD t := hf.mem List.mem_cons_self
      have f2 : fineD e := hf.mem (List.mem_cons_of_mem _ List.mem_cons_self)
      have f3 : fineD fl := hf.mem (List.mem_cons_of_mem _ (List.mem_cons_of_mem _ List.mem_cons_self))
      have es : requestD ps m (.tuple [t, e, fl]) = (isWordD t 8 && (isDeedD ps m e && flagsOfD fl e)) := rfl
      rw [es] at q
      refine ⟨_, rfl, p, _, rfl, hS, rfl, x, _, rfl, y, _, rfl, z, _, rfl, rfl, ?_⟩
      refine ⟨_, rfl, x, t, rfl, d1, f1.str, fun H1 s1 => ⟨_, rfl, ?_⟩⟩
      cases n1 : isWordD t 8 with
      | false =>
        have q1 := q H1 s1
        rw [n1] at q1
        exact iteF q1
      | true =>
        rw [n1, Bool.true_and] at q
        refine iteT ⟨_, rfl, _, rfl, sv, y, ps, m, e, rfl, hs.same s1, dp_same s1 d2, f2, fun H2 s2 => ⟨_, rfl, ?_⟩⟩
        cases n2 : isDeedD ps m e with
        | false =>
          have q1 := q H2 (s1.trans s2)
          rw [n2] at q1
          exact iteF q1
        | true =>
          rw [n2, Bool.true_and] at q
          obtain ⟨w', ds, ks, rfl, _, _⟩ := deed_shape n2
          exact iteT ⟨_, rfl, _, rfl, y, z, w', ds, fl, rfl, dp_same (s1.trans s2) d2, f2, dp_same (s1.trans s2) d3, f3, fun H3 s3 => q H3 ((s1.trans s2).trans s3)⟩
/-! ### is_linktimeout, binds -/
def spLtA (K : PySem.W.Frag) : Sp := fun vs H Q _ => ∃ (v : V) (r : RqA), vs = [v] ∧ Dp K H v (rqa r) ∧ Q (.bl (ltA r)) H
def spBindsA (K : PySem.W.Frag) : Sp := fun vs H Q _ => ∃ (v : V) (r : RqA), vs = [v] ∧ Dp K H v (rqa r) ∧ Q (.bl (bindsA r)) H
theorem scIsLt : FnScope ["request"] ["request"] (defScope sIsLt) :=
  ⟨rfl, rfl, rfl, by decide +kernel, rfl, by decide +kernel, by decide +kernel⟩
theorem scBinds : FnScope ["request"] ["request"] (defScope sBinds) :=
  ⟨rfl, rfl, rfl, by decide +kernel, rfl, by decide +kernel, by decide +kernel⟩
/-- a request in the heap -/
theorem rqa_parts {K : PySem.W.Frag} {H : Hp} {v : V} {r : RqA} (h : Dp K H v (rqa r)) : ∃ (p a b : Addr) (xs : List V), v = .ref p ∧ SqT K H p [.str r.tag, .ref a, .ref b] ∧ SqT K H a (.str r.word :: xs) ∧ SqT K H b (r.words.map V.str) := by
  obtain ⟨p, x, y, z, rfl, hS, d1, d2, d3⟩ := dp_threeA h
  cases d1
  cases d2 with
  | tup h1 h2 =>
    cases h2 with
    | cons k1 k2 =>
      cases k1
      cases d3 with
      | tup g1 g2 =>
        have := dps_strV g2
        subst this
        exact ⟨_, _, _, _, rfl, hS, h1, g1⟩
theorem ok_ltA {f : Addr} {fd : FuncData} {k : Nat} (F : Fun K "is_linktimeout" "is_linktimeout" sIsLt f fd) : FnOk P w K mg base CX0 (k + 1) f fd ["request"] (spLtA K) := by
  refine F.ok scIsLt (fun vs H Q E h => ?_) (fun cdv A outer s H vs Q E hr h => ?_)
  · obtain ⟨v, r, rfl, _⟩ := h
    rfl
  · obtain ⟨v, r, rfl, hv, q⟩ := h
    refine ⟨_, pss_one (ps_ret (pe_cmpR op_eq (pe_ix ix_seq (pe_ix ix_seq (pv 0) pe_int (fun _ _ => rfl)) pe_int (fun _ _ => rfl)) pe_str (nomark _))), ?_⟩
    obtain ⟨p, a, b, xs, rfl, h1, h2, h3⟩ := rqa_parts hv
    refine ⟨_, rfl, .inr (.inl ⟨p, _, 1, .ref a, rfl, rfl, h1, atI_nat (j := 1) rfl, .inr (.inl ⟨a, _, 0, .str r.word, rfl, rfl, h2, atI_nat (j := 0) rfl, rfl, ?_⟩)⟩)⟩
    have e : decide (V.str r.word = V.str "linktimeout") = ltA r := by
      show _ = decide (r.word = "linktimeout")
      rw [Bool.eq_iff_iff, decide_eq_true_eq, decide_eq_true_eq]
      exact ⟨fun z => V.str.inj z, fun z => by rw [z]⟩
    rw [e]
    exact q
theorem ok_bindsA {f : Addr} {fd : FuncData} {k : Nat} (F : Fun K "binds" "binds" sBinds f fd) : FnOk P w K mg base CX0 (k + 1) f fd ["request"] (spBindsA K) := by
  refine F.ok scBinds (fun vs H Q E h => ?_) (fun cdv A outer s H vs Q E hr h => ?_)
  · obtain ⟨v, r, rfl, _⟩ := h
    rfl
  · obtain ⟨v, r, rfl, hv, q⟩ := h
    refine ⟨_, pss_one (ps_ret (pe_or (pe_cmpR (op_inK (K := K) rfl) pe_str (pe_ix ix_seq (pv 0) pe_int (fun _ _ => rfl)) (by rfl)) (pe_one (pe_cmpR (op_inK (K := K) rfl) pe_str (pe_ix ix_seq (pv 0) pe_int (fun _ _ => rfl)) (by rfl))))), ?_⟩
    obtain ⟨p, a, b, xs, rfl, h1, h2, h3⟩ := rqa_parts hv
    refine ⟨_, rfl, .inr (.inl ⟨p, _, 2, .ref b, rfl, rfl, h1, atI_nat (j := 2) rfl, b, _, rfl, .inr h3, rfl, flat_strs _, ?_⟩)⟩
    rw [in_strs, if_neg (by decide)]
    refine ⟨_, rfl, ?_⟩
    have eb : bindsA r = (decide (Str.ofString "link" ∈ r.words) || decide (Str.ofString "hard" ∈ r.words)) := rfl
    cases h : decide (Str.ofString "link" ∈ r.words) with
    | true =>
      rw [eb, h, Bool.true_or] at q
      exact iteT q
    | false =>
      rw [eb, h, Bool.false_or] at q
      refine iteF ⟨_, rfl, .inr (.inl ⟨p, _, 2, .ref b, rfl, rfl, h1, atI_nat (j := 2) rfl, b, _, rfl, .inr h3, rfl, flat_strs _, ?_⟩)⟩
      rw [in_strs, if_neg (by decide)]
      exact q
end
end KV

namespace KV
open PySem PySem.Spec PyProof.Rows L2 RZ
abbrev sBegins : Stmt := topS 27
abbrev sStands : Stmt := topS 28
/-- those of the first n that are no linktimeouts -/
def membersA (rs : List RqA) (n : Nat) : List RqA := (rs.take n).filter fun r => !ltA r
def beginsA (rs : List RqA) (n : Nat) : Bool :=
  match (membersA rs n).getLast? with
  | none => true
  | some r => !bindsA r
def bindsAt (rs : List RqA) (j : Nat) : Bool :=
  match rs[j]? with
  | none => false
  | some r => bindsA r
def standsA (rs : List RqA) (n : Nat) : Bool :=
  match rs[n]? with
  | none => false
  | some r => if ltA r = true then decide (0 < n) && bindsAt rs (n - 1) else if (bindsA r && decide (n + 1 = rs.length)) = true then false else !decide (Str.ofString "drain" ∈ r.words) || beginsA rs n
theorem cut_take (xs : List V) (n : Nat) (h : n ≤ xs.length) : cutV xs none (some (n : Int)) = xs.take n := by
  unfold cutV
  rw [HT.sIx_none, HT.sIx_nat, Nat.min_eq_left h, List.drop_zero, Nat.sub_zero]
theorem sl_take {K : PySem.W.Frag} {a : Addr} {xs : List V} {n : Nat} {H : Hp} {Q : VK} (h1 : SqT K H a xs) (hn : n ≤ xs.length) (k : ∀ a' H1, Same H H1 → SqT K H1 a' (xs.take n) → Q (.ref a') H1) : rSlA K (.ref a) none (some (n : Int)) H Q := by
  refine ⟨a, xs, rfl, h1, fun e => ?_, fun _ p np => ?_⟩
  · have e2 := e.2
    rw [HT.sIx_nat, Nat.min_eq_left hn] at e2
    refine k a H (fun _ _ z => z) ?_
    rw [e2, List.take_length]
    exact h1
  · rw [cut_take xs n hn]
    exact k p _ (same_upd np) (SqT.of upd_same)
theorem dps_last {K : PySem.W.Frag} {H : Hp} {xs : List V} {ds : List PyData} {d : PyData} (h : DpAll K H xs ds) (hd : ds.getLast? = some d) : ∃ x ys, xs = ys ++ [x] ∧ Dp K H x d := by
  have hl := dps_len h
  rw [List.getLast?_eq_getElem?] at hd
  obtain ⟨x, hx, dx⟩ := dps_get' h hd
  have hn : ds.length - 1 < ds.length := (List.getElem?_eq_some_iff.mp hd).1
  refine ⟨x, xs.take (ds.length - 1), ?_, dx⟩
  have e := take_snoc hx
  rw [show ds.length - 1 + 1 = xs.length by omega, List.take_length] at e
  exact e
section
variable {P : Program} {w : World} {K : PySem.W.Frag} {mg : Str → Option Value} {base : Heap}
/-! ### begins_chain -/
def spBegins (K : PySem.W.Frag) : Sp := fun vs H Q _ => ∃ (v : V) (rs : List RqA) (n : Nat), vs = [v, .int n] ∧ Dp K H v (.tuple (rs.map rqa)) ∧ n ≤ rs.length ∧ rs.length ≤ 100 ∧ ∀ H', Same H H' → Q (.bl (beginsA rs n)) H'
abbrev nBegins : List Str := ["lot", "at", "ahead", "request"]
theorem scBegins : FnScope nBegins ["lot", "at"] (defScope sBegins) :=
  ⟨rfl, rfl, rfl, by decide +kernel, rfl, by decide +kernel, by decide +kernel⟩
theorem ok_begins {f fL fB : Addr} {fd fdL fdB : FuncData} {k : Nat} (F : Fun K "begins_chain" "begins_chain" sBegins f fd)
    (FL : Fun K "is_linktimeout" "is_linktimeout" sIsLt fL fdL) (bL : Binds K fdL ["request"] []) (mL : mg "is_linktimeout" = some (.ref fL)) (GL : FnOk P w K mg base CX0 k fL fdL ["request"] (spLtA K))
    (FB : Fun K "binds" "binds" sBinds fB fdB) (bB : Binds K fdB ["request"] []) (mB : mg "binds" = some (.ref fB)) (GB : FnOk P w K mg base CX0 k fB fdB ["request"] (spBindsA K))
    (me : mg "len" = none) : FnOk P w K mg base CX0 (k + 1) f fd ["lot", "at"] (spBegins K) := by
  refine F.ok scBegins (fun vs H Q E h => ?_) (fun cdv A outer s H vs Q E hr h => ?_)
  · obtain ⟨v, rs, n, rfl, _⟩ := h
    rfl
  · obtain ⟨v, rs, n, rfl, hd, hn, hz, q⟩ := h
    refine ⟨_, pss_cons (ps_setLc (i := 2) (own := [("request", 3)]) (g := gName 3) rfl scBegins.nd rfl rfl (sw_true rfl rfl rfl (by decide +kernel)) (pi_tup (pe_slice sl_tupA (pv 0) po_none (po_some (pv 1)))) (blkOk_by (N := nBegins) (sc := defScope sBegins) (by decide +kernel))
          (fun _ _ _ _ _ => pg_name (i := 3) scBegins.nd rfl (Or.inl rfl)) (fun _ _ _ _ _ => pts_one (pt_not (pt_val (pe_call GL hr (by rfl) mL FL.kp bL .nil pass0 (pa_cons (pv 3) pa_nil))))) (fun _ _ _ _ _ => pv 3))
      (pss_one (ps_ret (pe_or (pe_cmpR op_eq (pe_callB call_len_seq (by rfl) me PySem.boot_len (pa_cons (pv 2) pa_nil)) pe_int (nomark _))
        (pe_one (pe_not (pe_call GB hr (by rfl) mB FB.kp bB .nil pass0 (pa_cons (pe_ix ix_seq (pv 2) (pe_un un_neg pe_int) (fun _ _ => rfl)) pa_nil))))))), ?_⟩
    cases hd with
    | tup h1 h2 =>
      rename_i a xs
      have hl := dps_len h2
      rw [List.length_map] at hl
      refine ⟨_, rfl, _, rfl, _, rfl, sl_take h1 (by omega) fun a' H1 s1 hS => ⟨a', rfl, ⟨_, hS⟩, fun D nD => ?_⟩⟩
      have hx : DpAll K H1 (xs.take n) ((rs.take n).map rqa) := by
        rw [List.map_take]
        exact dps_take n (dps_same s1 h2)
      have base : ∀ {H2 : Hp}, SameX [D] H1 H2 → Same H1 H2 := fun {H2} h c o e => h c o (fun z => ne_of_none e nD (List.mem_singleton.mp z)) e
      refine lc_it (walk_tup (xs := xs.take n)) (fun j H2 => SameX [D] H1 H2 ∧ ∃ acc, H2 D = some (.lst acc) ∧ acc.length ≤ j ∧ DpAll K H1 acc ((((rs.take n).take j).filter fun r => !ltA r).map rqa)) ⟨sameX_upd List.mem_cons_self, [], upd_same, Nat.le_refl _, .nil⟩ (fun j H2 _ h => same_seqT (base h.1) hS) ?_ ?_
      · rintro j x H2 H2' hj ⟨hs, acc, hD, hacc, ha⟩ ⟨rfl, hx1⟩
        obtain ⟨d, hd1, hdp⟩ := dps_get hx hx1
        rw [List.getElem?_map] at hd1
        obtain ⟨r, hr1, rfl⟩ := Option.map_eq_some_iff.mp hd1
        rw [List.length_take] at hj
        have hdp2 := dp_same (base hs) hdp
        have et : ((rs.take n).take (j + 1)).filter (fun r => !ltA r) = ((rs.take n).take j).filter (fun r => !ltA r) ++ (if (!ltA r) = true then [r] else []) := by
          rw [take_snoc hr1, List.filter_append, List.filter_cons, List.filter_nil]
        refine ⟨rfl, _, rfl, x, r, rfl, hdp2, _, rfl, ?_⟩
        cases hk : ltA r with
        | true =>
          rw [hk] at et
          refine iteF ⟨hs, acc, hD, by omega, ?_⟩
          rw [et]
          simpa using ha
        | false =>
          rw [hk] at et
          refine iteT ⟨_, rfl, acc, hD, small1000 (by omega), hs.trans (sameX_upd List.mem_cons_self), acc ++ [x], upd_same, by rw [List.length_append]; simp; omega, ?_⟩
          rw [et, List.map_append]
          exact dps_app ha (.cons hdp .nil)
      · rintro H2 ⟨hs, acc, hD, hacc, ha⟩
        have s2 := base hs
        rw [List.length_take] at hacc
        have em : ((rs.take n).take (xs.take n).length).filter (fun r => !ltA r) = membersA rs n := by
          rw [List.take_of_length_le (by rw [List.length_take, List.length_take]; omega)]
          rfl
        rw [em] at ha
        have ha2 := dps_same s2 ha
        have hla := dps_len ha
        rw [List.length_map] at hla
        have qq := q H2 (s1.trans s2)
        refine ⟨_, rfl, D, acc, rfl, .inl (SqL.of hD), rfl, _, rfl, ?_⟩
        cases hm : (membersA rs n).getLast? with
        | none =>
          have e0 : membersA rs n = [] := List.getLast?_eq_none_iff.mp hm
          have eb : beginsA rs n = true := by unfold beginsA; rw [hm]
          rw [e0] at hla
          rw [eb] at qq
          exact iteD (by rw [hla]; rfl) qq
        | some r =>
          have eb : beginsA rs n = !bindsA r := by unfold beginsA; rw [hm]
          rw [eb] at qq
          have hg : ((membersA rs n).map rqa).getLast? = some (rqa r) := by rw [List.getLast?_map, hm]; rfl
          obtain ⟨x, ys, rfl, dx⟩ := dps_last ha2 hg
          refine iteDN (fun z => ?_) ⟨_, rfl, _, rfl, .inl ⟨D, _, -1, x, rfl, rfl, SqL.of hD, atI_last ys x, x, r, rfl, dx, _, rfl, qq⟩⟩
          injection z with z
          rw [List.length_append] at z
          simp at z
          omega
end
end KV

namespace KV
open PySem PySem.Spec PyProof.Rows L2 RZ
theorem dps_at {K : PySem.W.Frag} {H : Hp} {xs : List V} {rs : List RqA} {j : Nat} {r : RqA} (h : DpAll K H xs (rs.map rqa)) (hr : rs[j]? = some r) : ∃ x, xs[j]? = some x ∧ Dp K H x (rqa r) :=
  dps_get' h (by rw [List.getElem?_map, hr]; rfl)
section
variable {P : Program} {w : World} {K : PySem.W.Frag} {mg : Str → Option Value} {base : Heap}
/-! ### stands_well -/
def spStands (K : PySem.W.Frag) : Sp := fun vs H Q _ => ∃ (v : V) (rs : List RqA) (n : Nat), vs = [v, .int n] ∧ Dp K H v (.tuple (rs.map rqa)) ∧ n < rs.length ∧ rs.length ≤ 100 ∧ ∀ H', Same H H' → Q (.bl (standsA rs n)) H'
abbrev nStands : List Str := ["lot", "at", "request"]
theorem scStands : FnScope nStands ["lot", "at"] (defScope sStands) :=
  ⟨rfl, rfl, rfl, by decide +kernel, rfl, by decide +kernel, by decide +kernel⟩
theorem ok_stands {f fL fB fG : Addr} {fd fdL fdB fdG : FuncData} {k : Nat} (F : Fun K "stands_well" "stands_well" sStands f fd)
    (FL : Fun K "is_linktimeout" "is_linktimeout" sIsLt fL fdL) (bL : Binds K fdL ["request"] []) (mL : mg "is_linktimeout" = some (.ref fL)) (GL : FnOk P w K mg base CX0 k fL fdL ["request"] (spLtA K))
    (FB : Fun K "binds" "binds" sBinds fB fdB) (bB : Binds K fdB ["request"] []) (mB : mg "binds" = some (.ref fB)) (GB : FnOk P w K mg base CX0 k fB fdB ["request"] (spBindsA K))
    (FG : Fun K "begins_chain" "begins_chain" sBegins fG fdG) (bG : Binds K fdG ["lot", "at"] []) (mG : mg "begins_chain" = some (.ref fG)) (GG : FnOk P w K mg base CX0 k fG fdG ["lot", "at"] (spBegins K))
    (me : mg "len" = none) : FnOk P w K mg base CX0 (k + 1) f fd ["lot", "at"] (spStands K) := by
  refine F.ok scStands (fun vs H Q E h => ?_) (fun cdv A outer s H vs Q E hr h => ?_)
  · obtain ⟨v, rs, n, rfl, _⟩ := h
    rfl
  · obtain ⟨v, rs, n, rfl, hd, hn, hz, q⟩ := h
    refine ⟨_, pss_cons (ps_set (i := 2) scStands.nd rfl (.inl rfl) (pe_ix ix_seq (pv 0) (pv 1) (fun _ _ => rfl)))
      (pss_cons (ps_if (pt_val (pe_call GL hr (by rfl) mL FL.kp bL .nil pass0 (pa_cons (pv 2) pa_nil)))
        (pss_one (ps_ret (pe_and (pe_cmpR op_gt (pv 1) pe_int (nomark _)) (pe_one (pe_call GB hr (by rfl) mB FB.kp bB .nil pass0 (pa_cons (pe_ix ix_seq (pv 0) (pe_op op_sub (pv 1) pe_int) (fun _ _ => rfl)) pa_nil)))))) pss_nil)
      (pss_cons (ps_if (PW.pt (pw_and (pt_val (pe_call GB hr (by rfl) mB FB.kp bB .nil pass0 (pa_cons (pv 2) pa_nil))) (pw_and1 (pt_cmpR op_eq (pv 1) (pe_op op_sub (pe_callB call_len_seq (by rfl) me PySem.boot_len (pa_cons (pv 0) pa_nil)) pe_int) (nomark _)))))
        (pss_one (ps_ret pe_bl)) pss_nil)
      (pss_one (ps_ret (pe_or (pe_cmpR (op_notInK (K := K) rfl) pe_str (pe_ix ix_seq (pv 2) pe_int (fun _ _ => rfl)) (by rfl))
        (pe_one (pe_call GG hr (by rfl) mG FG.kp bG .nil pass0 (pa_cons (pv 0) (pa_cons (pv 1) pa_nil))))))))), ?_⟩
    obtain ⟨r, er⟩ : ∃ r, rs[n]? = some r := ⟨_, List.getElem?_eq_getElem hn⟩
    have es : standsA rs n = if ltA r = true then decide (0 < n) && bindsAt rs (n - 1) else if (bindsA r && decide (n + 1 = rs.length)) = true then false else !decide (Str.ofString "drain" ∈ r.words) || beginsA rs n := by
      unfold standsA
      rw [er]
    have hd0 := hd
    cases hd with
    | tup h1 h2 =>
      rename_i a xs
      have hl := dps_len h2
      rw [List.length_map] at hl
      obtain ⟨x, hx, dx⟩ := dps_at h2 er
      refine ⟨_, rfl, _, rfl, .inr (.inl ⟨a, xs, n, x, rfl, rfl, h1, atI_nat hx, ?_⟩)⟩
      refine ⟨_, rfl, x, r, rfl, dx, _, rfl, ?_⟩
      cases hlt : ltA r with
      | true =>
        rw [hlt, if_pos rfl] at es
        refine iteT ⟨_, rfl, _, _, rfl, rfl, _, rfl, ite2 (fun e => ?_) (fun e => ?_)⟩
        · have n0 : 0 < n := by
            have := of_decide_eq_true e
            omega
          obtain ⟨r', er'⟩ : ∃ r', rs[n - 1]? = some r' := ⟨_, List.getElem?_eq_getElem (by omega)⟩
          obtain ⟨x', hx', dx'⟩ := dps_at h2 er'
          have eb : standsA rs n = bindsA r' := by
            rw [es, decide_eq_true n0, Bool.true_and]
            unfold bindsAt
            rw [er']
          have q1 := q H fun _ _ z => z
          rw [eb] at q1
          refine ⟨_, rfl, _, rfl, _, _, rfl, rfl, .inr (.inl ⟨a, xs, ((n - 1 : Nat) : Int), x', rfl, ?_, h1, atI_nat hx', x', r', rfl, dx', q1⟩)⟩
          exact congrArg V.int (by omega)
        · have n0 : ¬ 0 < n := fun z => e (decide_eq_true (by omega))
          have q1 := q H fun _ _ z => z
          rw [es, decide_eq_false n0, Bool.false_and] at q1
          exact q1
      | false =>
        rw [hlt, if_neg Bool.false_ne_true] at es
        refine iteF ⟨_, rfl, x, r, rfl, dx, _, rfl, ?_⟩
        have es3 : (bindsA r && decide (n + 1 = rs.length)) = false → standsA rs n = (!decide (Str.ofString "drain" ∈ r.words) || beginsA rs n) := fun z => by
          rw [es, z, if_neg Bool.false_ne_true]
        obtain ⟨p, a2, b, ys, rfl, g1, g2, g3⟩ := rqa_parts dx
        cases hb : bindsA r with
        | false =>
          have e3 := es3 (by rw [hb]; rfl)
          refine iteF ?_
          refine ⟨_, rfl, .inr (.inl ⟨p, _, 2, .ref b, rfl, rfl, g1, atI_nat (j := 2) rfl, b, _, rfl, .inr g3, rfl, flat_strs _, ?_⟩)⟩
          rw [in_strs, if_pos rfl]
          refine ⟨_, rfl, ?_⟩
          cases hdr : decide (Str.ofString "drain" ∈ r.words) with
          | false =>
            have q1 := q H fun _ _ z => z
            rw [e3, hdr] at q1
            exact iteT q1
          | true =>
            rw [e3, hdr] at q
            exact iteF ⟨_, rfl, _, rfl, _, rs, n, rfl, hd0, by omega, hz, q⟩
        | true =>
          refine iteT ⟨_, rfl, _, rfl, a, xs, rfl, .inr h1, _, _, rfl, rfl, rfl, _, rfl, ite2 (fun e => ?_) (fun e => ?_)⟩
          · have n1 : n + 1 = rs.length := by
              have z := of_decide_eq_true e
              injection z with z
              omega
            have q1 := q H fun _ _ z => z
            rw [es, hb, decide_eq_true n1, Bool.true_and, if_pos rfl] at q1
            exact q1
          · have n1 : ¬ n + 1 = rs.length := fun z => e (decide_eq_true (congrArg V.int (by omega)))
            have e3 := es3 (by rw [hb, decide_eq_false n1]; rfl)
            refine ⟨_, rfl, .inr (.inl ⟨p, _, 2, .ref b, rfl, rfl, g1, atI_nat (j := 2) rfl, b, _, rfl, .inr g3, rfl, flat_strs _, ?_⟩)⟩
            rw [in_strs, if_pos rfl]
            refine ⟨_, rfl, ?_⟩
            cases hdr : decide (Str.ofString "drain" ∈ r.words) with
            | false =>
              have q1 := q H fun _ _ z => z
              rw [e3, hdr] at q1
              exact iteT q1
            | true =>
              rw [e3, hdr] at q
              exact iteF ⟨_, rfl, _, rfl, _, rs, n, rfl, hd0, by omega, hz, q⟩
end
end KV

namespace KV
open PySem PySem.Spec PyProof.Rows L2 PySem.Froz

section
variable {P : Program} {w : World} {A : Around} {E : Value → Shared → Prop} {s : Shared} {a : Addr} {l : List Str}
/-- set(xs) of a list of texts -/
theorem tx_of_list {p : Addr} {its : Array Value} {xs : List Str} {Q : Value → Shared → Prop} (hh : A.handled = none) (hp : s.heap.IsList p its) (hx : StrsAre its.toList xs) (hb : xs.length + 1 < scanBound)
    (q : ∀ (h' : Heap) (tk : Nat) (l : List Str), TxSet P w h' s.heap.objs.size l → l.length ≤ xs.length → (∀ x, x ∈ l ↔ x ∈ xs) → (∀ b o, s.heap.get? b = some o → h'.get? b = some o) → Q (.ref s.heap.objs.size) { s with heap := h', toks := tk }) :
    wpAny (model P w) A (call (.type "set") [.ref p]) Q E s := by
  have hsz : its.size = xs.length := by
    rw [← StrsAre.len_eq hx, Array.length_toList]
  have ⟨c, tl, hmro⟩ := F.called_set.mro
  have hmade := F.called_set.made
  have hsub := F.called_set.sub
  have h1 := F.called_set.notType
  have h2 := F.called_set.canCreate
  have hct := F.typeCall_set_1 (.ref p)
  refine wpAny_call (codeAny_of_tree ?_)
  show wpAny _ _ (callAny (.type "set") _) _ _ _
  refine wpAny_pure ⟨Code.quiet_builtin _ (by decide +kernel), codeAny_builtin F.entry_type_call (Around.under_plain (weight_type_call_type "set" [.ref p] []) rfl ▸ ?_)⟩
  repeat (any_goals (first | assumption | wp_step))
  refine codeAny_mono (code_set_led1 (.ref p) (E := E) (Q₁ := fun v s1 => v = .ref s.heap.objs.size ∧ s1 = { s with heap := s.heap.push (nob w) }) ⟨rfl, rfl⟩) fun r s1 hr => ?_
  rcases r with e | fl
  · exact hr
  · cases fl with
    | ret v =>
      obtain ⟨rfl, rfl⟩ := hr
      have hS : (s.heap.push (nob w)).get? s.heap.objs.size = some (nob w) := Heap.get?_push_size _ rfl
      have hT : Shared.TypeIs { s with heap := s.heap.push (nob w) } (.ref s.heap.objs.size) "set" := ⟨_, hS, rfl⟩
      have hli := F.called_set.init.lookup
      have hbi := F.called_set.init.bind (.ref s.heap.objs.size)
      repeat (any_goals (first | assumption | wp_step))
      refine codeAny_mono (codeAny_call_builtin (R := wants (fun r s2 => r = .none ∧ ∃ h' tk l, s2 = { s with heap := h', toks := tk } ∧ TxSet P w h' s.heap.objs.size l ∧ l.length ≤ xs.length ∧ (∀ x, x ∈ l ↔ x ∈ xs) ∧
          ∀ b o, s.heap.get? b = some o → h'.get? b = some o) E) F.called_set.init.plain F.entry_set_init (check_set_init_1 hT ?_)) fun r2 s2 hr2 => ?_
      · obtain ⟨⟨oc, od, odt, osl⟩, hol, hcl, nl, hdl⟩ := hp
        simp only at hcl hdl
        subst hcl; subst hdl
        have hol1 : (s.heap.push (nob w)).get? p = some { cls := .type "list", dict := od, data := .seq its nl, slots := osl } := Heap.get?_push_of_some _ hol
        have n1 := F.sub_list_set
        have n2 := F.sub_list_frozenset
        have n3 : (Value.type "list" == Value.type "dict") = false := by decide
        have hp1 : (s.heap.push (nob w)).IsList p its := ⟨_, hol1, rfl, nl, rfl⟩
        unfold Builtin.«set.__init__» noKeywords Builtin.Frozenset.updateFrom
        generalize hPI : pyIter = PI
        wp_walk
        subst hPI
        refine wpAny_pyIter_list hp1 (wpAny_bind (wpAny_runValue ?_))
        have pS : p < s.heap.objs.size := Heap.lt_size hol
        have hz : (s.heap.push (nob w)).objs.size = s.heap.objs.size + 1 := Heap.size_push ..
        have hI : p ≠ (s.heap.push (nob w)).objs.size := fun z => Nat.ne_of_lt (Nat.lt_succ_of_lt pS) (z.trans hz)
        have hh3 : A.in1.in1.in1.handled = none := by simp [hh]
        have hSf : s.heap.objs.size ∉ [(s.heap.push (nob w)).objs.size, p] := fun z => by
          rcases List.mem_cons.mp z with z | z
          · exact absurd (z.trans hz) (Nat.ne_of_lt (Nat.lt_succ_self _))
          · exact Nat.ne_of_gt pS (List.mem_singleton.mp z)
        have hval : ∀ (i : Nat) (v : Value), its[i]? = some v → ∃ k t, xs[i]? = some k ∧ v = .str k t := fun i v hv => by
          have hi : i < xs.length := hsz ▸ (Array.getElem?_eq_some_iff.mp hv).1
          obtain ⟨t, e⟩ := SS.strs_at hx i v (by rw [Array.getElem?_toList]; exact hv)
          exact ⟨xs[i], t, List.getElem?_eq_getElem hi, by rw [e, List.getD_eq_getElem?_getD, List.getElem?_eq_getElem hi] <;> rfl⟩
        refine tx_loop (a := s.heap.objs.size) ((Walks.list hh3 _ p hI its).toS) hSf xs hsz hb hval its.size 0 _ (by omega) ⟨⟨_, Heap.get?_push_size _ rfl, rfl, rfl⟩, hp1.push _⟩ ⟨[], Nat.le_refl 0, fun x => by simp, tx_fresh (Heap.get?_push_of_some _ hS)⟩ ?_
        rintro ⟨h', g', d', tk', os'⟩ l mv hl hm hS2
        have eg : g' = s.gens := mv.gens
        have ed : d' = s.drawn := mv.drawn
        have eo : os' = s.os := mv.os
        subst eg; subst ed; subst eo
        show wpAny _ _ _ _ _ _
        refine wpAny_pure ?_
        show wpAny _ _ (ret Value.none) _ _ _
        refine wpAny_pure ⟨rfl, h', tk', l, rfl, hS2, hsz ▸ hl, hm, fun b o e => ?_⟩
        have b0 : b < s.heap.objs.size := Heap.lt_size e
        refine mv.heap b o (fun z => ?_) (Heap.get?_push_of_some _ (Heap.get?_push_of_some _ e))
        rcases List.mem_cons.mp z with z | z
        · exact Nat.ne_of_lt b0 z
        · exact Nat.ne_of_lt (Nat.lt_succ_of_lt b0) ((List.mem_singleton.mp z).trans hz)
      · rcases r2 with e | fl2
        · exact hr2
        · cases fl2 with
          | ret v2 =>
            obtain ⟨rfl, h', tk, l, rfl, hS2, hl, hm, hk⟩ := hr2
            repeat (any_goals (first | assumption | wp_step))
            exact q _ _ l hS2 hl hm hk
          | _ => exact hr2.elim
    | _ => exact hr.elim
end
end KV

namespace KV
open PySem PySem.Spec PyProof.Rows L2 RZ
/-! ### len(set(a list of texts)) -/
section
variable {X : Cx}
def rSetL (P : Program) (w : World) (K : PySem.W.Frag) : List V → Hp → VK → Prop := fun vs H Q => ∃ (p : Addr) (xs : List Str), vs = [.ref p] ∧ SqL K H p (xs.map V.str) ∧ xs.length ≤ 1000 ∧
  ∀ (a : Addr) (l : List Str), H a = none → l.Nodup → (∀ x, x ∈ l ↔ x ∈ xs) → Q (.ref a) (upd H a (TxO P w a l))
theorem cr_setL (hc : X.calm = true) : CallR X (.type "set") (rSetL X.prog X.w X.K) := by
  intro pins s σ H vs us Q I r h
  obtain ⟨p, xs, rfl, hq, hz, q⟩ := h
  rw [Vals.ref1 r]
  obtain ⟨its, rv, pt, _⟩ := I.list hq
  have hx : StrsAre its.toArray.toList xs := by simpa using rv.strs
  refine tx_of_list (I.ok.hd hc) (show s.heap.IsList p its.toArray from pt.isList) hx (by unfold scanBound; omega) fun h' tk l R hl hm k => ?_
  have nd : l.Nodup := R.elim fun D z => z.2.2.1
  exact ⟨.ref _, upd H s.heap.objs.size (TxO X.prog X.w s.heap.objs.size l), I.laid k (Nat.le_refl _) (txO_new R), rfl, q _ l (I.hok.fresh (Nat.le_refl _)) nd hm⟩
def rLenT (P : Program) (w : World) : List V → Hp → VK → Prop := fun vs H Q => ∃ (a : Addr) (l : List Str), vs = [.ref a] ∧ H a = some (TxO P w a l) ∧ Q (.int l.length) H
theorem cr_lenT : CallR X (.builtin "len") (rLenT X.prog X.w) := by
  intro pins s σ H vs us Q I r h
  obtain ⟨a, l, rfl, ha, q⟩ := h
  rw [Vals.ref1 r]
  obtain ⟨D, e, ok, nd, hb, _⟩ := txO_get I ha
  have hs := ok.sz
  have hl : l.length < scanBound := hb
  unfold scanBound at hl
  refine call_len_set (o := PySem.Froz.sObj "set" D) (es := D.1) (ep := D.2.1) (t := D.2.2) e ⟨rfl, rfl, rfl⟩ rfl ok.fit (by omega) ⟨.int l.length, H, I.tok _, ⟨_, by rw [hs]⟩, q⟩
end
theorem sub_perm : ∀ (l xs : List Str), l.Nodup → (∀ x ∈ l, x ∈ xs) → l.length ≤ xs.length ∧ (l.length = xs.length → l.Perm xs)
  | [], xs, _, _ => ⟨Nat.zero_le _, fun h => by
    rw [List.length_nil] at h
    rw [List.eq_nil_of_length_eq_zero h.symm]⟩
  | a :: l, xs, nd, h => by
    rw [List.nodup_cons] at nd
    have ha : a ∈ xs := h a List.mem_cons_self
    have hp := List.perm_cons_erase ha
    have hl : (xs.erase a).length = xs.length - 1 := List.length_erase_of_mem ha
    have h1 : 0 < xs.length := List.length_pos_of_mem ha
    have ih := sub_perm l (xs.erase a) nd.2 fun x hx => by
      have hne : x ≠ a := fun e => nd.1 (by rw [← e]; exact hx)
      exact (List.mem_erase_of_ne hne).mpr (h x (List.mem_cons_of_mem _ hx))
    rw [hl] at ih
    rw [List.length_cons]
    exact ⟨by omega, fun e => ((ih.2 (by omega)).cons a).trans hp.symm⟩
theorem set_len {l xs : List Str} (nd : l.Nodup) (hm : ∀ x, x ∈ l ↔ x ∈ xs) : decide (l.length = xs.length) = decide xs.Nodup := by
  rw [Bool.eq_iff_iff, decide_eq_true_eq, decide_eq_true_eq]
  obtain ⟨h1, h2⟩ := sub_perm l xs nd fun x hx => (hm x).mp hx
  refine ⟨fun e => (h2 e).nodup_iff.mp nd, fun nx => ?_⟩
  obtain ⟨h3, _⟩ := sub_perm xs l nx fun x hx => (hm x).mpr hx
  omega
/-! ### comprehensions: flags over numbers; the first of three -/
theorem lc_rng {K : PySem.W.Frag} {n : Nat} {σ : L2.St} {i : Nat} {te : TE} {H1 : Hp} {D : Addr} {Qd : Hp → Prop} (nD : H1 D = none) (hz : n ≤ 1000) (Pf : Nat → Bool)
    (step : ∀ (j : Nat) (H : Hp) (Q : VK), j < n → Same H1 H → (∀ H', Same H H' → Q (.bl (Pf j)) H') → te ((wipe σ [i]).set i (some (.int (j : Nat)))) H Q)
    (hd : ∀ H, Same H1 H → H D = some (.lst (((List.range n).map Pf).map V.bl)) → Qd H) :
    ∃ W : Nat → Nat → Hp → Prop, (∃ m, W 0 m (upd H1 D (.lst []))) ∧ ∀ i' m H, W i' m H →
      ((Itr 0 n).stop i' H ∧ Qd H) ∨ ((Itr 0 n).go i' H ∧ ∃ Nx : Hp → Prop, (∀ H', Nx H' → ∃ m', m' < m ∧ W (i' + 1) m' H') ∧ ∀ x H', (Itr 0 n).yld i' H x H' → gName i x (wipe σ [i]) H' fun σ2 H2 => wipe σ2 [i] = wipe σ [i] ∧ tYes σ2 H2 fun b H3 =>
        if b = true then te σ2 H3 fun y H4 => ∃ acc, H4 D = some (.lst acc) ∧ acc.length < sizeLine ∧ Nx (upd H4 D (.lst (acc ++ [y]))) else Nx H3) := by
  have base : ∀ {H : Hp}, SameX [D] H1 H → Same H1 H := fun {H} h c o e => h c o (fun z => ne_of_none e nD (List.mem_singleton.mp z)) e
  refine lc_it (walk_range (lo := 0) (n := n)) (fun j H => SameX [D] H1 H ∧ H D = some (.lst (((List.range j).map Pf).map V.bl))) ⟨sameX_upd List.mem_cons_self, upd_same⟩ (fun _ _ _ _ => trivial) ?_ (fun H h => hd H (base h.1) h.2)
  rintro j x H H' hj ⟨hs, hD⟩ ⟨rfl, rfl⟩
  have ej : (0 : Int) + ((j : Nat) : Int) = ((j : Nat) : Int) := Int.zero_add _
  show gName i (V.int ((0 : Int) + ((j : Nat) : Int))) _ _ _
  rw [ej]
  refine ⟨?_, tYes_ok (step j _ _ hj (base hs) fun H4 s4 => ⟨_, s4 _ _ hD, ?_, ?_, ?_⟩)⟩
  · show ((((σ.set i none)).set i (some _)).set i none) = σ.set i none
    rw [List.set_set, List.set_set]
  · rw [List.length_map, List.length_map, List.length_range]
    exact small1000 (by omega)
  · exact hs.trans ((SameX.of s4).trans (sameX_upd List.mem_cons_self))
  · rw [upd_same, List.range_succ, List.map_append, List.map_append]
    rfl
end KV

namespace KV
open PySem PySem.Spec PyProof.Rows L2 RZ
abbrev sIsLot : Stmt := topS 30
/-- a request, as it reads -/
def readA : PyData → RqA
  | .tuple [.str t, .tuple (.str w :: r), .tuple fs] => ⟨t, w, r, fs.map strOfD⟩
  | _ => ⟨Str.empty, Str.empty, [], []⟩
theorem read_rqa (r : RqA) : readA (rqa r) = r := by
  obtain ⟨t, w, ds, ws⟩ := r
  show (⟨t, w, ds, (ws.map PyData.str).map strOfD⟩ : RqA) = ⟨t, w, ds, ws⟩
  rw [List.map_map]
  have e : (strOfD ∘ PyData.str) = id := by
    funext x
    rfl
  rw [e, List.map_id]
theorem reads_all {ps : List Str} {m : Nat} {es : List PyData} (h : es.all (requestD ps m) = true) : es = (es.map readA).map rqa := by
  induction es with
  | nil => rfl
  | cons d ds ih =>
    rw [List.all_cons, Bool.and_eq_true] at h
    rw [List.map_cons, List.map_cons, ← ih h.2]
    obtain ⟨r, rfl⟩ := request_read h.1
    rw [read_rqa]
def lotD (rs : List RqA) : Bool := decide (rs.map RqA.tag).Nodup && (List.range rs.length).all (standsA rs)
/-- a LOT -/
def isLotD (ps : List Str) (m : Nat) : PyData → Bool
  | .tuple es => !decide (es.length = 0) && (es.all (requestD ps m) && lotD (es.map readA))
  | _ => false
section
variable {P : Program} {w : World} {K : PySem.W.Frag} {mg : Str → Option Value} {base : Heap}
def spIsLot (K : PySem.W.Frag) : Sp := fun vs H Q _ => ∃ (sv v : V) (ps : List Str) (m : Nat) (d : PyData), vs = [sv, v] ∧ SetA K H sv ps m ∧ Dp K H v d ∧ fineD d ∧ ∀ H', Same H H' → Q (.bl (isLotD ps m d)) H'
abbrev nIsLot : List Str := ["setup", "thing", "names", "request", "tag", "_", "at"]
theorem scIsLot : FnScope nIsLot ["setup", "thing"] (defScope sIsLot) :=
  ⟨rfl, rfl, rfl, by decide +kernel, rfl, by decide +kernel, by decide +kernel⟩
theorem ok_isLot {f fR fS : Addr} {fd fdR fdS : FuncData} {k : Nat} (F : Fun K "is_lot" "is_lot" sIsLot f fd)
    (FR : Fun K "is_request" "is_request" sIsRequest fR fdR) (bR : Binds K fdR ["setup", "thing"] []) (mR : mg "is_request" = some (.ref fR)) (GR : FnOk P w K mg base CX0 k fR fdR ["setup", "thing"] (spIsRequest K))
    (FS : Fun K "stands_well" "stands_well" sStands fS fdS) (bS : Binds K fdS ["lot", "at"] []) (mS : mg "stands_well" = some (.ref fS)) (GS : FnOk P w K mg base CX0 k fS fdS ["lot", "at"] (spStands K))
    (mi : mg "isinstance" = none) (mt : mg "tuple" = none) (ma : mg "all" = none) (me : mg "len" = none) (mst : mg "set" = none) (mr : mg "range" = none) : FnOk P w K mg base CX0 (k + 1) f fd ["setup", "thing"] (spIsLot K) := by
  refine F.ok scIsLot (fun vs H Q E h => ?_) (fun cdv A outer s H vs Q E hr h => ?_)
  · obtain ⟨sv, v, ps, m, d, rfl, _⟩ := h
    rfl
  · obtain ⟨sv, v, ps, m, d, rfl, hs, hd, hf, q⟩ := h
    refine ⟨_, pss_cons (ps_if (PW.pt (pw_or (pt_not (pt_val (pe_callB (cr_isOne "tuple") (by rfl) mi boot_isinstance (pa_cons (pv 1) (pa_cons (pe_bltn (v := .ty "tuple") (by rfl) mt (by decide +kernel) rfl) pa_nil)))))
          (pw_or1 (pt_cmpR op_eq (pe_callB call_len_seq (by rfl) me PySem.boot_len (pa_cons (pv 1) pa_nil)) pe_int (nomark _))))) (pss_one (ps_ret pe_bl)) pss_nil)
      (pss_cons (ps_if (pt_not (pt_val (pe_callB (cr_all rfl) (by rfl) ma boot_all (pa_cons
          (pe_lc (own := [("request", 3)]) (g := gName 3) (tt := tYes) rfl scIsLot.nd (pi_tup (pv 1)) (blkOk_by (N := nIsLot) (sc := defScope sIsLot) (by decide +kernel))
            (fun _ _ _ _ _ => pg_name (i := 3) scIsLot.nd rfl (Or.inl rfl)) (fun _ _ _ _ _ => pts_nil) (fun _ _ _ _ _ => pe_call GR hr (by rfl) mR FR.kp bR .nil pass0 (pa_cons (pv 0) (pa_cons (pv 3) pa_nil)))) pa_nil)))) (pss_one (ps_ret pe_bl)) pss_nil)
      (pss_cons (ps_setLc (i := 2) (own := [("tag", 4), ("_", 5)]) (g := gTup K 3 (gCons (gName 4) (gCons (gName 5) (gCons (gName 5) gNil)))) (tt := tYes) rfl scIsLot.nd rfl rfl (sw_true rfl rfl rfl (by decide +kernel)) (pi_tup (pv 1)) (blkOk_by (N := nIsLot) (sc := defScope sIsLot) (by decide +kernel))
          (fun _ _ _ _ _ => pg_tup rfl (pgs_cons (pg_name (i := 4) scIsLot.nd rfl (.inl rfl)) (pgs_cons (pg_name (i := 5) scIsLot.nd rfl (.inl rfl)) (pgs_cons (pg_name (i := 5) scIsLot.nd rfl (.inl rfl)) pgs_nil)))) (fun _ _ _ _ _ => pts_nil) (fun _ _ _ _ _ => pv 4))
      (pss_one (ps_ret (pe_and (pe_cmpR op_eq (pe_callB cr_lenT (by rfl) me PySem.boot_len (pa_cons (pe_callTy (cr_setL rfl) (by rfl) mst PyProof.Rows.boot_set (pa_cons (pv 2) pa_nil)) pa_nil)) (pe_callB call_len_seq (by rfl) me PySem.boot_len (pa_cons (pv 2) pa_nil)) (nomark _))
        (pe_one (pe_callB (cr_all rfl) (by rfl) ma boot_all (pa_cons
          (pe_lc (own := [("at", 6)]) (g := gName 6) (tt := tYes) rfl scIsLot.nd (pi_range1 (by rfl) mr (pa_cons (pe_callB call_len_seq (by rfl) me PySem.boot_len (pa_cons (pv 1) pa_nil)) pa_nil)) (blkOk_by (N := nIsLot) (sc := defScope sIsLot) (by decide +kernel))
            (fun _ _ _ _ _ => pg_name (i := 6) scIsLot.nd rfl (Or.inl rfl)) (fun _ _ _ _ _ => pts_nil) (fun _ _ _ _ _ => pe_call GS hr (by rfl) mS FS.kp bS .nil pass0 (pa_cons (pv 1) (pa_cons (pv 6) pa_nil)))) pa_nil)))))))), ?_⟩
    have q0 : isLotD ps m d = false → Q (.bl false) H := fun e => by
      have := q H fun _ _ z => z
      rw [e] at this
      exact this
    have hv := hd
    cases hd with
    | non => exact ⟨_, rfl, ⟨_, _, rfl, hv, false, (show kitB "NoneType" "tuple" = some false by decide +kernel), _, rfl, iteT (iteT (q0 rfl))⟩⟩
    | bl c => exact ⟨_, rfl, ⟨_, _, rfl, hv, false, (show kitB "bool" "tuple" = some false by decide +kernel), _, rfl, iteT (iteT (q0 rfl))⟩⟩
    | int c => exact ⟨_, rfl, ⟨_, _, rfl, hv, false, (show kitB "int" "tuple" = some false by decide +kernel), _, rfl, iteT (iteT (q0 rfl))⟩⟩
    | str c => exact ⟨_, rfl, ⟨_, _, rfl, hv, false, (show kitB "str" "tuple" = some false by decide +kernel), _, rfl, iteT (iteT (q0 rfl))⟩⟩
    | lst h1 h2 => exact ⟨_, rfl, ⟨_, _, rfl, hv, false, (show kitB "list" "tuple" = some false by decide +kernel), _, rfl, iteT (iteT (q0 rfl))⟩⟩
    | tup h1 h2 =>
      rename_i a xs es
      have hl := dps_len h2
      have hlen := hf.len
      have ed : isLotD ps m (.tuple es) = (!decide (es.length = 0) && (es.all (requestD ps m) && lotD (es.map readA))) := rfl
      refine ⟨_, rfl, ⟨_, _, rfl, hv, true, (show kitB "tuple" "tuple" = some true by decide +kernel), _, rfl, iteF ?_⟩⟩
      refine ⟨_, rfl, a, xs, rfl, .inr h1, rfl, _, rfl, ite2 (fun e => ?_) (fun e => ?_)⟩
      · have z : es.length = 0 := by
          have z := of_decide_eq_true e
          injection z with z
          omega
        refine q0 ?_
        rw [ed, decide_eq_true z]
        rfl
      · have z : ¬ es.length = 0 := fun z => e (decide_eq_true (congrArg V.int (by omega)))
        rw [decide_eq_false z] at ed
        refine ⟨_, rfl, a, rfl, ⟨xs, h1⟩, fun D nD => lc_flags (K := K) (walk_tup (xs := xs)) h2 nD (by omega) (fun H2 s2 => same_seqT s2 h1) (requestD ps m)
          (fun j x e2 H2 Q2 he s2 dx k2 => ⟨_, rfl, _, rfl, sv, x, ps, m, e2, rfl, hs.same s2, dx, hf.mem (List.mem_of_getElem? he), k2⟩) fun H2 s2 hD2 => ⟨D, _, rfl, SqL.of hD2, ?_⟩⟩
        rw [List.all_map]
        have eall : es.all (id ∘ requestD ps m) = es.all (requestD ps m) := rfl
        rw [eall]
        refine ⟨_, rfl, ?_⟩
        cases he : es.all (requestD ps m) with
        | false =>
          have q1 := q H2 s2
          rw [ed, he] at q1
          exact iteT q1
        | true =>
          refine iteF ?_
          have eb := reads_all he
          have ed2 : isLotD ps m (.tuple es) = lotD (es.map readA) := by
            rw [ed, he]
            simp
          rw [ed2] at q
          generalize es.map readA = rs at eb q ed2
          subst eb
          rw [List.length_map] at hlen hl
          have hlr : xs.length = rs.length := hl
          have h1' := same_seqT s2 h1
          refine ⟨_, rfl, a, rfl, ⟨xs, h1'⟩, fun D3 nD3 => lc_it (walk_tup (xs := xs)) (fun j H3 => SameX [D3] H2 H3 ∧ H3 D3 = some (.lst (((rs.take j).map RqA.tag).map V.str))) ⟨sameX_upd List.mem_cons_self, upd_same⟩
            (fun j H3 _ h3 => same_seqT (fun c o e => h3.1 c o (fun z => ne_of_none e nD3 (List.mem_singleton.mp z)) e) h1') ?_ ?_⟩
          · rintro j x H3 H3' hj ⟨hs3, hD3⟩ ⟨rfl, hx1⟩
            have b3 : Same H2 H3' := fun c o e => hs3 c o (fun z => ne_of_none e nD3 (List.mem_singleton.mp z)) e
            obtain ⟨d, hd1, hdp⟩ := dps_get h2 hx1
            rw [List.getElem?_map] at hd1
            obtain ⟨r, hr1, rfl⟩ := Option.map_eq_some_iff.mp hd1
            obtain ⟨p, a2, b2, ys, rfl, g1, g2, g3⟩ := rqa_parts (dp_same (s2.trans b3) hdp)
            refine ⟨p, _, rfl, g1, rfl, _, _, rfl, _, _, rfl, _, _, rfl, rfl, ?_, tYes_ok ⟨_, rfl, _, hD3, ?_, ?_, ?_⟩⟩
            · rfl
            · rw [List.length_map, List.length_map, List.length_take]
              exact small1000 (by omega)
            · exact hs3.trans (sameX_upd List.mem_cons_self)
            · rw [upd_same, take_snoc hr1, List.map_append, List.map_append]
              rfl
          · rintro H3 ⟨hs3, hD3⟩
            have b3 : Same H2 H3 := fun c o e => hs3 c o (fun z => ne_of_none e nD3 (List.mem_singleton.mp z)) e
            have eT : rs.take xs.length = rs := List.take_of_length_le (by omega)
            rw [eT] at hD3
            have s3 := s2.trans b3
            refine ⟨_, rfl, D3, rs.map RqA.tag, rfl, SqL.of hD3, by rw [List.length_map]; omega, fun a' l hna nd hm => ⟨a', l, rfl, upd_same, _, rfl, D3, _, rfl, .inl (SqL.of (same_upd hna _ _ hD3)), rfl, _, rfl, ?_⟩⟩
            have s4 : Same H (upd H3 a' (TxO P w a' l)) := s3.trans (same_upd hna)
            have en : decide (V.int (l.length : Int) = V.int (((rs.map RqA.tag).map V.str).length : Int)) = decide (rs.map RqA.tag).Nodup := by
              rw [← set_len nd hm, Bool.eq_iff_iff, decide_eq_true_eq, decide_eq_true_eq, List.length_map]
              exact ⟨fun z => by injection z with z; omega, fun z => congrArg V.int (by omega)⟩
            show if decide (V.int (l.length : Int) = V.int (((rs.map RqA.tag).map V.str).length : Int)) = true then _ else _
            rw [en]
            have el : lotD rs = (decide (rs.map RqA.tag).Nodup && (List.range rs.length).all (standsA rs)) := rfl
            rw [el] at q
            cases hn : decide (rs.map RqA.tag).Nodup with
            | false =>
              have q1 := q _ s4
              rw [hn] at q1
              exact iteF q1
            | true =>
              rw [hn, Bool.true_and] at q
              refine iteT ⟨_, rfl, a, xs, rfl, .inr (same_seqT s4 h1), (xs.length : Int), rfl, by omega, by omega, fun D5 nD5 => lc_rng (K := K) (n := xs.length) nD5 (by omega) (standsA rs)
                (fun j H5 Q5 hj s5 k5 => ⟨_, rfl, _, rfl, _, rs, j, rfl, dp_same (s4.trans s5) hv, by omega, by omega, k5⟩) fun H5 s5 hD5 => ⟨D5, _, rfl, SqL.of hD5, ?_⟩⟩
              rw [List.all_map, hlr]
              exact q _ (s4.trans s5)
end
end KV

namespace KV
open PySem PySem.Spec PyProof.Rows L2 RZ
abbrev sPartFits : Stmt := topS 47
theorem fineD.word {d : PyData} (h : fineD d) : ∀ x, d = .str x → x.length ≤ 1000 ∧ (x.cps.toList.all fun c => decide (c < 1114112)) = true := fun x e => by
  obtain ⟨L, n, h, _⟩ := h
  exact str_fine (n := n) (L := L) (by rw [← e]; exact h)
/-- a where, as the law looks first -/
def lwhereD : PyData → Bool
  | .tuple [.str w, p] => if decide (w = "pipe") = true then isWordD p 8 else decide (w = "slot") && isNumD p 0
  | _ => false
def optWordD : PyData → Bool
  | .none => true
  | d => isWordD d 8
/-- of the kind with this letter, as the law looks -/
def fitsD (z : Str) (d : PyData) : Bool :=
  if z = "w" then lwhereD d else if z = "m" then isNumD d 1 else if z = "p" then isNumD d 0 else if z = "b" then isTruthD d else if z = "o" then optWordD d else if z = "t" then isWordD d 6 else isWordD d 8
def okL (z : Str) : Prop := z = "w" ∨ z = "m" ∨ z = "p" ∨ z = "b" ∨ z = "o" ∨ z = "t" ∨ z = "n"
theorem lwhere_row : ∀ {d : PyData}, isRowD d 2 = false → lwhereD d = false
  | .tuple [a, b], h => nomatch h
  | .tuple [], _ => rfl
  | .tuple [_], _ => by simp [lwhereD]
  | .tuple (_ :: _ :: _ :: _), _ => by simp [lwhereD]
  | .none, _ => rfl
  | .bool _, _ => rfl
  | .int _, _ => rfl
  | .str _, _ => rfl
  | .list _, _ => rfl
  | .dict _, _ => rfl
theorem row_twoA : ∀ {d : PyData}, isRowD d 2 = true → ∃ a b, d = .tuple [a, b]
  | .tuple [a, b], _ => ⟨a, b, rfl⟩
  | .tuple [], h => nomatch h
  | .tuple [_], h => nomatch h
  | .tuple (a :: b :: c :: r), h => by
    have z : decide ((a :: b :: c :: r : List PyData).length = 2) = true := h
    simp at z
  | .none, h => nomatch h
  | .bool _, h => nomatch h
  | .int _, h => nomatch h
  | .str _, h => nomatch h
  | .list _, h => nomatch h
  | .dict _, h => nomatch h
section
variable {d : PyData}
theorem fd_w : fitsD "w" d = lwhereD d := by unfold fitsD; rw [if_pos rfl]
theorem fd_m : fitsD "m" d = isNumD d 1 := by unfold fitsD; rw [if_neg (by decide +kernel), if_pos rfl]
theorem fd_p : fitsD "p" d = isNumD d 0 := by unfold fitsD; rw [if_neg (by decide +kernel), if_neg (by decide +kernel), if_pos rfl]
theorem fd_b : fitsD "b" d = isTruthD d := by unfold fitsD; rw [if_neg (by decide +kernel), if_neg (by decide +kernel), if_neg (by decide +kernel), if_pos rfl]
theorem fd_o : fitsD "o" d = optWordD d := by unfold fitsD; rw [if_neg (by decide +kernel), if_neg (by decide +kernel), if_neg (by decide +kernel), if_neg (by decide +kernel), if_pos rfl]
theorem fd_t : fitsD "t" d = isWordD d 6 := by unfold fitsD; rw [if_neg (by decide +kernel), if_neg (by decide +kernel), if_neg (by decide +kernel), if_neg (by decide +kernel), if_neg (by decide +kernel), if_pos rfl]
theorem fd_n : fitsD "n" d = isWordD d 8 := by unfold fitsD; rw [if_neg (by decide +kernel), if_neg (by decide +kernel), if_neg (by decide +kernel), if_neg (by decide +kernel), if_neg (by decide +kernel), if_neg (by decide +kernel)]
end
theorem dp_two {K : PySem.W.Frag} {H : Hp} {v : V} {a b : PyData} (h : Dp K H v (.tuple [a, b])) : ∃ (p : Addr) (x y : V), v = .ref p ∧ SqT K H p [x, y] ∧ Dp K H x a ∧ Dp K H y b := by
  cases h with
  | tup h1 h2 =>
    cases h2 with
    | cons a1 h2 =>
      cases h2 with
      | cons a2 h2 =>
        cases h2
        exact ⟨_, _, _, rfl, h1, a1, a2⟩
section
variable {P : Program} {w : World} {K : PySem.W.Frag} {mg : Str → Option Value} {base : Heap}
def spFits (K : PySem.W.Frag) : Sp := fun vs H Q _ => ∃ (v : V) (z : Str) (d : PyData), vs = [.str z, v] ∧ Dp K H v d ∧ fineD d ∧ okL z ∧ ∀ H', Same H H' → Q (.bl (fitsD z d)) H'
theorem scFits : FnScope ["_law_kind_so", "_law_bit"] ["_law_kind_so", "_law_bit"] (defScope sPartFits) :=
  ⟨rfl, rfl, rfl, by decide +kernel, rfl, by decide +kernel, by decide +kernel⟩
theorem ok_fits {f fR fW fH : Addr} {fd fdR fdW fdH : FuncData} {k : Nat} (F : Fun K "_law_part_fits" "_law_part_fits" sPartFits f fd)
    (FR : Fun K "_law_row_of" "_law_row_of" sRowOf fR fdR) (bR : Binds K fdR ["_law_matter", "_law_size"] []) (mR : mg "_law_row_of" = some (.ref fR)) (GR : FnOk P w K mg base CX0 k fR fdR ["_law_matter", "_law_size"] (spRow K))
    (FW : Fun K "_law_is_word" "_law_is_word" sIsWord fW fdW) (bW : Binds K fdW ["_law_matter", "_law_most_so"] []) (mW : mg "_law_is_word" = some (.ref fW)) (GW : FnOk P w K mg base CX0 k fW fdW ["_law_matter", "_law_most_so"] (spIsWord K))
    (FH : Fun K "_law_whole" "_law_whole" sWhole fH fdH) (bH : Binds K fdH ["_law_matter", "_law_least_so"] []) (mH : mg "_law_whole" = some (.ref fH)) (GH : FnOk P w K mg base CX0 k fH fdH ["_law_matter", "_law_least_so"] (spNum K))
    (mi : mg "isinstance" = none) (ms : mg "str" = none) (mb : mg "bool" = none) (mn : mg "int" = none) : FnOk P w K mg base CX0 (k + 1) f fd ["_law_kind_so", "_law_bit"] (spFits K) := by
  refine F.ok scFits (fun vs H Q E h => ?_) (fun cdv A outer s H vs Q E hr h => ?_)
  · obtain ⟨v, z, d, rfl, _⟩ := h
    rfl
  · obtain ⟨v, z, d, rfl, hd, hf, hz, q⟩ := h
    refine ⟨_, pss_cons (ps_if (pt_cmpR op_eq (pv 0) pe_str (nomark _))
        (pss_cons (ps_if (PW.pt (pw_or (pt_not (pt_val (pe_call GR hr (by rfl) mR FR.kp bR .nil pass0 (pa_cons (pv 1) (pa_cons pe_int pa_nil)))))
            (pw_or1 (pt_not (pt_val (pe_callB (cr_isOne "str") (by rfl) mi boot_isinstance (pa_cons (pe_ix ix_seq (pv 1) pe_int (fun _ _ => rfl)) (pa_cons (pe_bltn (v := .ty "str") (by rfl) ms (by decide +kernel) rfl) pa_nil)))))))) (pss_one (ps_ret pe_bl)) pss_nil)
        (pss_one (ps_ret (pe_ifExp (pt_cmpR op_eq (pe_ix ix_seq (pv 1) pe_int (fun _ _ => rfl)) pe_str (nomark _))
          (pe_call GW hr (by rfl) mW FW.kp bW .nil pass0 (pa_cons (pe_ix ix_seq (pv 1) pe_int (fun _ _ => rfl)) (pa_cons pe_int pa_nil)))
          (pe_and (pe_cmpR op_eq (pe_ix ix_seq (pv 1) pe_int (fun _ _ => rfl)) pe_str (nomark _)) (pe_one (pe_call GH hr (by rfl) mH FH.kp bH .nil pass0 (pa_cons (pe_ix ix_seq (pv 1) pe_int (fun _ _ => rfl)) (pa_cons pe_int pa_nil))))))))) pss_nil)
      (pss_cons (ps_if (pt_cmpR (op_inT2 (K := K) rfl hr.units) (pv 0) (pl_tup (K := K) (pls_cons pl_str (pls_cons pl_str pls_nil))) (by rfl))
        (pss_one (ps_ret (pe_call GH hr (by rfl) mH FH.kp bH .nil pass0 (pa_cons (pv 1) (pa_cons (pe_callTy call_int1 (by rfl) mn PyProof.Rows.boot_int (pa_cons (pe_cmpR op_eq (pv 0) pe_str (nomark _)) pa_nil)) pa_nil))))) pss_nil)
      (pss_cons (ps_if (pt_cmpR op_eq (pv 0) pe_str (nomark _)) (pss_one (ps_ret (pe_callB (cr_isOne "bool") (by rfl) mi boot_isinstance (pa_cons (pv 1) (pa_cons (pe_bltn (v := .ty "bool") (by rfl) mb (by decide +kernel) rfl) pa_nil))))) pss_nil)
      (pss_cons (ps_if (PW.pt (pw_and (pt_cmpR op_eq (pv 0) pe_str (nomark _)) (pw_and1 (pt_cmpR op_isN (pv 1) pe_non (nomark _))))) (pss_one (ps_ret pe_bl)) pss_nil)
      (pss_one (ps_ret (pe_call GW hr (by rfl) mW FW.kp bW .nil pass0 (pa_cons (pv 1) (pa_cons (pe_ifExp (pt_cmpR op_eq (pv 0) pe_str (nomark _)) pe_int pe_int) pa_nil)))))))), ?_⟩
    have q0 := q H fun _ _ z => z
    rcases hz with rfl | rfl | rfl | rfl | rfl | rfl | rfl
    · rw [fd_w] at q0
      refine ⟨_, rfl, rfl, _, rfl, iteD rfl ?_⟩
      refine ⟨_, rfl, v, d, 2, rfl, hd, _, rfl, ?_⟩
      cases h2 : isRowD d 2 with
      | false =>
        rw [lwhere_row h2] at q0
        exact iteT (iteT q0)
      | true =>
        refine iteF ?_
        obtain ⟨a, b, rfl⟩ := row_twoA h2
        obtain ⟨p, x, y, rfl, hS, d1, d2⟩ := dp_two hd
        have f2 : fineD b := hf.mem (List.mem_cons_of_mem _ List.mem_cons_self)
        have i0 : ∀ (Q : VK), Q x H → rIx K (.ref p) (.int 0) H Q := fun Q q => .inr (.inl ⟨p, _, 0, x, rfl, rfl, hS, atI_nat (j := 0) rfl, q⟩)
        have i1 : ∀ (Q : VK), Q y H → rIx K (.ref p) (.int 1) H Q := fun Q q => .inr (.inl ⟨p, _, 1, y, rfl, rfl, hS, atI_nat (j := 1) rfl, q⟩)
        refine ⟨_, rfl, i0 _ ?_⟩
        have hx := d1
        cases d1 with
        | non => exact ⟨_, _, rfl, hx, false, (show kitB "NoneType" "str" = some false by decide +kernel), _, rfl, iteT q0⟩
        | bl c => exact ⟨_, _, rfl, hx, false, (show kitB "bool" "str" = some false by decide +kernel), _, rfl, iteT q0⟩
        | int c => exact ⟨_, _, rfl, hx, false, (show kitB "int" "str" = some false by decide +kernel), _, rfl, iteT q0⟩
        | lst _ _ => exact ⟨_, _, rfl, hx, false, (show kitB "list" "str" = some false by decide +kernel), _, rfl, iteT q0⟩
        | tup _ _ => exact ⟨_, _, rfl, hx, false, (show kitB "tuple" "str" = some false by decide +kernel), _, rfl, iteT q0⟩
        | str c =>
          refine ⟨_, _, rfl, hx, true, (show kitB "str" "str" = some true by decide +kernel), _, rfl, iteF ?_⟩
          have el : lwhereD (.tuple [.str c, b]) = if decide (c = "pipe") = true then isWordD b 8 else decide (c = "slot") && isNumD b 0 := rfl
          have ec : ∀ t : Str, decide (V.str c = V.str t) = decide (c = t) := fun t => by
            rw [Bool.eq_iff_iff, decide_eq_true_eq, decide_eq_true_eq]
            exact ⟨fun z => V.str.inj z, fun z => by rw [z]⟩
          refine ⟨_, rfl, i0 _ ⟨rfl, _, rfl, ?_⟩⟩
          show if decide (V.str c = V.str "pipe") = true then _ else _
          rw [ec]
          cases h1 : decide (c = "pipe") with
          | true =>
            rw [fd_w, el, h1, if_pos rfl] at q
            exact iteT ⟨_, rfl, i1 _ ⟨y, b, 8, rfl, by decide, d2, f2.word, q⟩⟩
          | false =>
            rw [el, h1, if_neg Bool.false_ne_true] at q0
            refine iteF ⟨_, rfl, i0 _ ⟨rfl, _, rfl, ?_⟩⟩
            show if decide (V.str c = V.str "slot") = true then _ else _
            rw [ec]
            cases h3 : decide (c = "slot") with
            | true =>
              rw [h3, Bool.true_and] at q0
              exact iteT ⟨_, rfl, i1 _ ⟨y, b, 0, rfl, d2, q0⟩⟩
            | false =>
              rw [h3, Bool.false_and] at q0
              exact iteF q0
    · rw [fd_m] at q0
      refine ⟨_, rfl, rfl, _, rfl, iteDN (by decide +kernel) ?_⟩
      refine ⟨_, rfl, fun y H1 s1 dy => ⟨.str "m", _, .str _, dy, by decide +kernel, by decide +kernel, by decide +kernel, _, rfl, iteBT (by decide +kernel) ?_⟩⟩
      have q1 := q H1 s1
      rw [fd_m] at q1
      exact ⟨_, rfl, _, rfl, rfl, .inr ⟨_, rfl, v, d, 1, rfl, dp_same s1 hd, q1⟩⟩
    · refine ⟨_, rfl, rfl, _, rfl, iteDN (by decide +kernel) ?_⟩
      refine ⟨_, rfl, fun y H1 s1 dy => ⟨.str "p", _, .str _, dy, by decide +kernel, by decide +kernel, by decide +kernel, _, rfl, iteBT (by decide +kernel) ?_⟩⟩
      have q1 := q H1 s1
      rw [fd_p] at q1
      exact ⟨_, rfl, _, rfl, rfl, .inr ⟨_, rfl, v, d, 0, rfl, dp_same s1 hd, q1⟩⟩
    · refine ⟨_, rfl, rfl, _, rfl, iteDN (by decide +kernel) ?_⟩
      refine ⟨_, rfl, fun y H1 s1 dy => ⟨.str "b", _, .str _, dy, by decide +kernel, by decide +kernel, by decide +kernel, _, rfl, iteBF (by decide +kernel) ?_⟩⟩
      have q1 := q H1 s1
      rw [fd_b] at q1
      refine ⟨_, rfl, rfl, _, rfl, iteD rfl ?_⟩
      have hv := dp_same s1 hd
      have hv0 := hv
      cases hv with
      | non => exact ⟨_, rfl, _, _, rfl, hv0, false, (show kitB "NoneType" "bool" = some false by decide +kernel), q1⟩
      | bl c => exact ⟨_, rfl, _, _, rfl, hv0, true, (show kitB "bool" "bool" = some true by decide +kernel), q1⟩
      | int c => exact ⟨_, rfl, _, _, rfl, hv0, false, (show kitB "int" "bool" = some false by decide +kernel), q1⟩
      | str c => exact ⟨_, rfl, _, _, rfl, hv0, false, (show kitB "str" "bool" = some false by decide +kernel), q1⟩
      | lst _ _ => exact ⟨_, rfl, _, _, rfl, hv0, false, (show kitB "list" "bool" = some false by decide +kernel), q1⟩
      | tup _ _ => exact ⟨_, rfl, _, _, rfl, hv0, false, (show kitB "tuple" "bool" = some false by decide +kernel), q1⟩
    · refine ⟨_, rfl, rfl, _, rfl, iteDN (by decide +kernel) ?_⟩
      refine ⟨_, rfl, fun y H1 s1 dy => ⟨.str "o", _, .str _, dy, by decide +kernel, by decide +kernel, by decide +kernel, _, rfl, iteBF (by decide +kernel) ?_⟩⟩
      refine ⟨_, rfl, rfl, _, rfl, iteDN (by decide +kernel) ?_⟩
      refine ⟨_, rfl, rfl, _, rfl, iteD rfl ?_⟩
      have hv := dp_same s1 hd
      have rest : d ≠ .none → ∀ H', Same H1 H' → Q (.bl (isWordD d 8)) H' := fun hn H' s' => by
        have q1 := q H' (s1.trans s')
        rw [fd_o] at q1
        have e : optWordD d = isWordD d 8 := by
          cases d with
          | none => exact absurd rfl hn
          | _ => rfl
        rw [e] at q1
        exact q1
      refine ⟨_, rfl, rfl, _, rfl, ite2 (fun e => ?_) (fun e => ?_)⟩
      · have q1 := q H1 s1
        have ev : v = .non := of_decide_eq_true e
        subst ev
        cases hv
        exact q1
      · have ev : ¬ v = .non := fun z => e (decide_eq_true z)
        have hn : d ≠ .none := fun z => by
          subst z
          cases hv
          exact ev rfl
        exact ⟨_, rfl, _, rfl, rfl, _, rfl, iteDN (by decide +kernel) ⟨v, d, 8, rfl, by decide, hv, hf.word, rest hn⟩⟩
    · refine ⟨_, rfl, rfl, _, rfl, iteDN (by decide +kernel) ?_⟩
      refine ⟨_, rfl, fun y H1 s1 dy => ⟨.str "t", _, .str _, dy, by decide +kernel, by decide +kernel, by decide +kernel, _, rfl, iteBF (by decide +kernel) ?_⟩⟩
      refine ⟨_, rfl, rfl, _, rfl, iteDN (by decide +kernel) ?_⟩
      refine ⟨_, rfl, rfl, _, rfl, iteDN (by decide +kernel) ?_⟩
      exact ⟨_, rfl, _, rfl, rfl, _, rfl, iteD rfl ⟨v, d, 6, rfl, by decide, dp_same s1 hd, hf.word, fun H' s' => fd_t (d := d) ▸ q H' (s1.trans s')⟩⟩
    · refine ⟨_, rfl, rfl, _, rfl, iteDN (by decide +kernel) ?_⟩
      refine ⟨_, rfl, fun y H1 s1 dy => ⟨.str "n", _, .str _, dy, by decide +kernel, by decide +kernel, by decide +kernel, _, rfl, iteBF (by decide +kernel) ?_⟩⟩
      refine ⟨_, rfl, rfl, _, rfl, iteDN (by decide +kernel) ?_⟩
      refine ⟨_, rfl, rfl, _, rfl, iteDN (by decide +kernel) ?_⟩
      exact ⟨_, rfl, _, rfl, rfl, _, rfl, iteDN (by decide +kernel) ⟨v, d, 8, rfl, by decide, dp_same s1 hd, hf.word, fun H' s' => fd_n (d := d) ▸ q H' (s1.trans s')⟩⟩
end
end KV

namespace KV
open PySem PySem.Spec PyProof.Rows L2 RZ
/-! ### the law's reading of a deed beside the program's: data alone -/
def ltNumD (m : Nat) : PyData → Bool
  | .int i => decide (i < m)
  | _ => true
/-- the spot of a where is one of the setup -/
def spotOkD (ps : List Str) (m : Nat) : PyData → Bool
  | .tuple [.str k, q] => if decide (k = "pipe") = true then pipeD ps q else ltNumD m q
  | _ => true
theorem pipe_word {ps : List Str} (hp : ∀ p ∈ ps, isWordD (.str p) 8 = true) (q : PyData) : (isWordD q 8 && pipeD ps q) = pipeD ps q := by
  cases q with
  | str x =>
    show (isWordD (.str x) 8 && decide (x ∈ ps)) = decide (x ∈ ps)
    by_cases h : x ∈ ps
    · rw [hp x h, Bool.true_and]
    · rw [decide_eq_false h, Bool.and_false]
  | _ => rfl
theorem slot_num {m : Nat} (q : PyData) : (isNumD q 0 && ltNumD m q) = slotNumD m q := by
  cases q with
  | int i => rfl
  | _ => rfl
theorem where_spot {ps : List Str} {m : Nat} (hp : ∀ p ∈ ps, isWordD (.str p) 8 = true) (d : PyData) : (lwhereD d && spotOkD ps m d) = whereD ps m d := by
  match d with
  | .tuple [.str k, q] =>
    show ((if decide (k = "pipe") = true then isWordD q 8 else decide (k = "slot") && isNumD q 0) && (if decide (k = "pipe") = true then pipeD ps q else ltNumD m q)) = ((decide (k = "pipe") && pipeD ps q) || (decide (k = "slot") && slotNumD m q))
    cases h1 : decide (k = "pipe") with
    | true =>
      have h2 : decide (k = "slot") = false := decide_eq_false fun z => absurd ((of_decide_eq_true h1).symm.trans z) (by decide +kernel)
      rw [if_pos rfl, if_pos rfl, pipe_word hp, h2]
      simp
    | false =>
      rw [if_neg Bool.false_ne_true, if_neg Bool.false_ne_true, Bool.and_assoc, slot_num]
      simp
  | .tuple [] => rfl
  | .tuple [.none] => rfl
  | .tuple [.bool _] => rfl
  | .tuple [.int _] => rfl
  | .tuple [.str _] => rfl
  | .tuple [.list _] => rfl
  | .tuple [.tuple _] => rfl
  | .tuple [.dict _] => rfl
  | .tuple [.none, _] => rfl
  | .tuple [.bool _, _] => rfl
  | .tuple [.int _, _] => rfl
  | .tuple [.list _, _] => rfl
  | .tuple [.tuple _, _] => rfl
  | .tuple [.dict _, _] => rfl
  | .tuple (_ :: _ :: _ :: _) => simp [whereD, lwhereD]
  | .none => rfl
  | .bool _ => rfl
  | .int _ => rfl
  | .str _ => rfl
  | .list _ => rfl
  | .dict _ => rfl
/-- what stands behind the word of a deed, as the law has it -/
def lawTab (z : Str) : Option (List Str) :=
  if z = "nop" then some [] else if z = "work" then some ["b"] else if z = "read" then some ["w", "m"] else if z = "reads" then some ["w", "m"]
  else if z = "write" then some ["w", "t"] else if z = "shut" then some ["w"] else if z = "timeout" then some ["p"] else if z = "linktimeout" then some ["p"]
  else if z = "cancel" then some ["n"] else if z = "cancelall" then some [] else if z = "update" then some ["p", "o"] else none
def fitAllD (ls : List Str) (ds : List PyData) : Bool := decide (ds.length = ls.length) && (List.zipWith fitsD ls ds).all id
/-- a matter of the shape of a deed -/
def shapedD (d : PyData) : Bool :=
  match lawTab (wordOfD d), d with
  | some ls, .tuple (_ :: ds) => fitAllD ls ds
  | _, _ => false
def optInD (ps : List Str) : PyData → Bool
  | .none => true
  | d => pipeD ps d
/-- the spots that a deed names are those of the setup -/
def spotsD (ps : List Str) (m : Nat) (w : Str) (ds : List PyData) : Bool :=
  if w = "update" then (match ds with | [s, p] => optInD ps p && ltNumD m s | _ => true)
  else if w = "read" ∨ w = "reads" ∨ w = "write" ∨ w = "shut" then (match ds with | x :: _ => spotOkD ps m x | _ => true) else true
theorem opt_in {ps : List Str} (hp : ∀ p ∈ ps, isWordD (.str p) 8 = true) (q : PyData) : (optWordD q && optInD ps q) = kindD.slotD0 ps q := by
  cases q with
  | none => rfl
  | str x => exact pipe_word hp (.str x)
  | _ => rfl
end KV

namespace KV
open PySem PySem.Spec PyProof.Rows L2 RZ
section
variable {ps : List Str} {m : Nat}
theorem sp_none {w : Str} {ds : List PyData} (h1 : w ≠ "update") (h2 : ¬ (w = "read" ∨ w = "reads" ∨ w = "write" ∨ w = "shut")) : spotsD ps m w ds = true := by
  unfold spotsD
  rw [if_neg h1, if_neg h2]
theorem sp_where {w : Str} {x : PyData} {ds : List PyData} (h1 : w ≠ "update") (h2 : w = "read" ∨ w = "reads" ∨ w = "write" ∨ w = "shut") : spotsD ps m w (x :: ds) = spotOkD ps m x := by
  unfold spotsD
  rw [if_neg h1, if_pos h2]
theorem sp_upd {s p : PyData} : spotsD ps m "update" [s, p] = (optInD ps p && ltNumD m s) := by
  unfold spotsD
  rw [if_pos rfl]
theorem deed_case {w : Str} {ks ls : List Str} (h1 : deedTab w = some ks) (h2 : lawTab w = some ls) (ds : List PyData) (h3 : partsD ps m ks ds = (fitAllD ls ds && spotsD ps m w ds)) :
    isDeedD ps m (.tuple (.str w :: ds)) = (shapedD (.tuple (.str w :: ds)) && spotsD ps m w ds) := by
  unfold isDeedD shapedD
  have e : wordOfD (.tuple (.str w :: ds)) = w := rfl
  rw [e, h1, h2]
  exact h3
theorem parts0 (ds : List PyData) : partsD ps m [] ds = fitAllD [] ds := by
  unfold partsD fitAllD
  simp
theorem parts1 (k l : Str) (ds : List PyData) (b : Bool) (h : ∀ x, ds = [x] → kindD ps m k x = (fitsD l x && b)) : partsD ps m [k] ds = (fitAllD [l] ds && b) := by
  match ds, h with
  | [], _ => rfl
  | [x], h =>
    have e := h x rfl
    simp [partsD, fitAllD, e]
  | _ :: _ :: _, _ => simp [partsD, fitAllD]
theorem parts2 (k1 k2 l1 l2 : Str) (ds : List PyData) (b : Bool) (h : ∀ x y, ds = [x, y] → (kindD ps m k1 x && kindD ps m k2 y) = ((fitsD l1 x && fitsD l2 y) && b)) : partsD ps m [k1, k2] ds = (fitAllD [l1, l2] ds && b) := by
  match ds, h with
  | [], _ => rfl
  | [x], _ => simp [partsD, fitAllD]
  | [x, y], h =>
    have e := h x y rfl
    simpa [partsD, fitAllD] using e
  | _ :: _ :: _ :: _, _ => simp [partsD, fitAllD]
theorem lawTab_none {w : Str} (h : deedTab w = none) : lawTab w = none := by
  unfold deedTab at h
  unfold lawTab
  split at h
  · exact nomatch h
  split at h
  · exact nomatch h
  split at h
  · exact nomatch h
  split at h
  · exact nomatch h
  split at h
  · exact nomatch h
  split at h
  · exact nomatch h
  split at h
  · exact nomatch h
  split at h
  · exact nomatch h
  split at h
  · exact nomatch h
  split at h
  · exact nomatch h
  split at h
  · exact nomatch h
  rename_i n1 n2 n3 n4 n5 n6 n7 n8 n9 n10 n11
  rw [if_neg n1, if_neg n2, if_neg n3, if_neg n4, if_neg n5, if_neg n6, if_neg n7, if_neg n8, if_neg n9, if_neg n10, if_neg n11]
theorem deed_words {w : Str} {ks : List Str} (h : deedTab w = some ks) : w = "nop" ∨ w = "work" ∨ w = "read" ∨ w = "reads" ∨ w = "write" ∨ w = "shut" ∨ w = "timeout" ∨ w = "linktimeout" ∨ w = "cancel" ∨ w = "cancelall" ∨ w = "update" := by
  refine Classical.byContradiction fun z => ?_
  simp only [not_or] at z
  obtain ⟨n1, n2, n3, n4, n5, n6, n7, n8, n9, n10, n11⟩ := z
  unfold deedTab at h
  rw [if_neg n1, if_neg n2, if_neg n3, if_neg n4, if_neg n5, if_neg n6, if_neg n7, if_neg n8, if_neg n9, if_neg n10, if_neg n11] at h
  exact nomatch h
/-- a DEED is what has the shape of one and names spots of the setup -/
theorem deed_eq (hp : ∀ p ∈ ps, isWordD (.str p) 8 = true) (w : Str) (ds : List PyData) : isDeedD ps m (.tuple (.str w :: ds)) = (shapedD (.tuple (.str w :: ds)) && spotsD ps m w ds) := by
  cases ht : deedTab w with
  | none =>
    have h1 : isDeedD ps m (.tuple (.str w :: ds)) = false := deed_none ps m ht
    have h2 : shapedD (.tuple (.str w :: ds)) = false := by
      unfold shapedD
      have e : wordOfD (.tuple (.str w :: ds)) = w := rfl
      rw [e, lawTab_none ht]
    rw [h1, h2]
    rfl
  | some ks =>
    rcases deed_words ht with rfl | rfl | rfl | rfl | rfl | rfl | rfl | rfl | rfl | rfl | rfl
    · exact deed_case (ks := []) (ls := []) (by decide +kernel) (by decide +kernel) ds (by
        rw [sp_none (by decide +kernel) (by decide +kernel)]
        exact (parts0 ds).trans (Bool.and_true _).symm)
    · exact deed_case (ks := ["good"]) (ls := ["b"]) (by decide +kernel) (by decide +kernel) ds (by
        rw [sp_none (by decide +kernel) (by decide +kernel)]
        exact parts1 _ _ ds true fun x _ => by rw [kd_good, fd_b, Bool.and_true])
    · exact deed_case (ks := ["where", "from 1"]) (ls := ["w", "m"]) (by decide +kernel) (by decide +kernel) ds (parts2 _ _ _ _ ds _ fun x y e => by
        rw [e, kd_where, kd_from1, fd_w, fd_m, sp_where (by decide +kernel) (by decide +kernel), ← where_spot hp, Bool.and_right_comm])
    · exact deed_case (ks := ["where", "from 1"]) (ls := ["w", "m"]) (by decide +kernel) (by decide +kernel) ds (parts2 _ _ _ _ ds _ fun x y e => by
        rw [e, kd_where, kd_from1, fd_w, fd_m, sp_where (by decide +kernel) (by decide +kernel), ← where_spot hp, Bool.and_right_comm])
    · exact deed_case (ks := ["where", "text"]) (ls := ["w", "t"]) (by decide +kernel) (by decide +kernel) ds (parts2 _ _ _ _ ds _ fun x y e => by
        rw [e, kd_where, kd_text, fd_w, fd_t, sp_where (by decide +kernel) (by decide +kernel), ← where_spot hp, Bool.and_right_comm])
    · exact deed_case (ks := ["where"]) (ls := ["w"]) (by decide +kernel) (by decide +kernel) ds (parts1 _ _ ds _ fun x e => by
        rw [e, kd_where, fd_w, sp_where (by decide +kernel) (by decide +kernel), ← where_spot hp])
    · exact deed_case (ks := ["from 0"]) (ls := ["p"]) (by decide +kernel) (by decide +kernel) ds (by
        rw [sp_none (by decide +kernel) (by decide +kernel)]
        exact parts1 _ _ ds true fun x _ => by rw [kd_from0, fd_p, Bool.and_true])
    · exact deed_case (ks := ["from 0"]) (ls := ["p"]) (by decide +kernel) (by decide +kernel) ds (by
        rw [sp_none (by decide +kernel) (by decide +kernel)]
        exact parts1 _ _ ds true fun x _ => by rw [kd_from0, fd_p, Bool.and_true])
    · exact deed_case (ks := ["name"]) (ls := ["n"]) (by decide +kernel) (by decide +kernel) ds (by
        rw [sp_none (by decide +kernel) (by decide +kernel)]
        exact parts1 _ _ ds true fun x _ => by rw [kd_name, fd_n, Bool.and_true])
    · exact deed_case (ks := []) (ls := []) (by decide +kernel) (by decide +kernel) ds (by
        rw [sp_none (by decide +kernel) (by decide +kernel)]
        exact (parts0 ds).trans (Bool.and_true _).symm)
    · exact deed_case (ks := ["slot", "pipe or none"]) (ls := ["p", "o"]) (by decide +kernel) (by decide +kernel) ds (parts2 _ _ _ _ ds _ fun x y e => by
        rw [e, kd_slot, kd_pon, fd_p, fd_o, sp_upd, ← slot_num, ← opt_in hp]
        cases isNumD x 0 <;> cases ltNumD m x <;> cases optWordD y <;> cases optInD ps y <;> rfl)
end
end KV

namespace KV
open PySem PySem.Spec PyProof.Rows L2 RZ
/-! ### flags, the law's reading beside the program's -/
section
variable {w : Str} {ds : List PyData}
theorem mh_lt (f : PyData) : mayHaveD "linktimeout" ds f = false := by
  unfold mayHaveD
  rw [if_pos (by decide +kernel)]
theorem mh_silent (h : w ≠ "linktimeout") : mayHaveD w ds (.str "silent") = inD quiets (.tuple (.str w :: ds)) := by
  unfold mayHaveD
  rw [if_neg (by rw [decide_eq_false h]; exact Bool.false_ne_true), if_pos (by decide +kernel)]
theorem mh_pick (h : w ≠ "linktimeout") : mayHaveD w ds (.str "pick") = inD readers (.str w) := by
  unfold mayHaveD
  rw [if_neg (by rw [decide_eq_false h]; exact Bool.false_ne_true), if_neg (by decide +kernel), if_pos (by decide +kernel)]
theorem mh_drain (h : w ≠ "linktimeout") : mayHaveD w ds (.str "drain") = true := by
  unfold mayHaveD
  rw [if_neg (by rw [decide_eq_false h]; exact Bool.false_ne_true), if_neg (by decide +kernel), if_neg (by decide +kernel)]
  decide +kernel
theorem mh_hard (h : w ≠ "linktimeout") : mayHaveD w ds (.str "hard") = true := by
  unfold mayHaveD
  rw [if_neg (by rw [decide_eq_false h]; exact Bool.false_ne_true), if_neg (by decide +kernel), if_neg (by decide +kernel)]
  decide +kernel
theorem mh_link (h : w ≠ "linktimeout") : mayHaveD w ds (.str "link") = true := by
  unfold mayHaveD
  rw [if_neg (by rw [decide_eq_false h]; exact Bool.false_ne_true), if_neg (by decide +kernel), if_neg (by decide +kernel)]
  decide +kernel
/-- which flags a deed may have, all at once -/
def mayAllA (w : Str) (ds : List PyData) (ws : List Str) : Bool :=
  if w = "linktimeout" then decide (ws = []) else (!decide (Str.ofString "silent" ∈ ws) || inD quiets (.tuple (.str w :: ds))) && (!decide (Str.ofString "pick" ∈ ws) || inD readers (.str w))
theorem may_all (ws : List Str) (hw : ∀ x ∈ ws, x ∈ flagWords) : (ws.map PyData.str).all (mayHaveD w ds) = mayAllA w ds ws := by
  unfold mayAllA
  by_cases h : w = "linktimeout"
  · subst h
    rw [if_pos rfl]
    cases ws with
    | nil => rfl
    | cons x xs =>
      rw [List.map_cons, List.all_cons, mh_lt, Bool.false_and]
      rfl
  · rw [if_neg h]
    induction ws with
    | nil => simp
    | cons x xs ih =>
      rw [List.map_cons, List.all_cons, ih fun y hy => hw y (List.mem_cons_of_mem _ hy)]
      have hx := hw x List.mem_cons_self
      have mem : ∀ s : Str, decide (s ∈ x :: xs) = (decide (s = x) || decide (s ∈ xs)) := fun s => by
        rw [Bool.eq_iff_iff]
        simp
      rw [mem, mem]
      have hx5 : x = "drain" ∨ x = "hard" ∨ x = "link" ∨ x = "pick" ∨ x = "silent" := by
        have z : x ∈ ([Str.ofString "drain", Str.ofString "hard", Str.ofString "link", Str.ofString "pick", Str.ofString "silent"] : List Str) := hx
        simpa using z
      rcases hx5 with rfl | rfl | rfl | rfl | rfl
      · rw [mh_drain h, show decide (Str.ofString "silent" = Str.ofString "drain") = false by decide +kernel, show decide (Str.ofString "pick" = Str.ofString "drain") = false by decide +kernel]
        simp
      · rw [mh_hard h, show decide (Str.ofString "silent" = Str.ofString "hard") = false by decide +kernel, show decide (Str.ofString "pick" = Str.ofString "hard") = false by decide +kernel]
        simp
      · rw [mh_link h, show decide (Str.ofString "silent" = Str.ofString "link") = false by decide +kernel, show decide (Str.ofString "pick" = Str.ofString "link") = false by decide +kernel]
        simp
      · rw [mh_pick h, show decide (Str.ofString "silent" = Str.ofString "pick") = false by decide +kernel, show decide (Str.ofString "pick" = Str.ofString "pick") = true by decide +kernel]
        cases inD readers (.str w) <;> cases inD quiets (.tuple (.str w :: ds)) <;> cases decide (Str.ofString "silent" ∈ xs) <;> cases decide (Str.ofString "pick" ∈ xs) <;> rfl
      · rw [mh_silent h, show decide (Str.ofString "silent" = Str.ofString "silent") = true by decide +kernel, show decide (Str.ofString "pick" = Str.ofString "silent") = false by decide +kernel]
        cases inD readers (.str w) <;> cases inD quiets (.tuple (.str w :: ds)) <;> cases decide (Str.ofString "silent" ∈ xs) <;> cases decide (Str.ofString "pick" ∈ xs) <;> rfl
end
theorem in_strsD (x : Str) (ws : List Str) : inD (ws.map PyData.str) (.str x) = decide (x ∈ ws) := eqv_pipe (.str x) ws
/-- the flags of a deed, as the law reads them -/
def flagsA (w : Str) (ds : List PyData) (ws : List Str) : Bool := (ascS ws && !(decide (Str.ofString "hard" ∈ ws) && decide (Str.ofString "link" ∈ ws))) && mayAllA w ds ws
theorem flags_eq {w : Str} {ds : List PyData} (ws : List Str) (hw : ∀ x ∈ ws, x ∈ flagWords) : flagsD w ds (.tuple (ws.map PyData.str)) = flagsA w ds ws := by
  have e : (ws.map PyData.str).map strOfD = ws := by
    rw [List.map_map]
    have e : (strOfD ∘ PyData.str) = id := by
      funext x
      rfl
    rw [e, List.map_id]
  show ((ws.map PyData.str).all (mayHaveD w ds) && (ascS ((ws.map PyData.str).map strOfD) && !(inD (ws.map PyData.str) (.str "hard") && inD (ws.map PyData.str) (.str "link")))) = _
  rw [may_all ws hw, e, in_strsD, in_strsD]
  unfold flagsA
  rw [Bool.and_comm]
end KV

namespace KV
open PySem PySem.Spec PyProof.Rows L2 RZ
/-- a word of flags -/
def flagStrD : PyData → Bool
  | .str x => decide (x ∈ flagWords)
  | _ => false
/-- of the shape of a request, as the law looks first -/
def wishD : PyData → Bool
  | .tuple [t, e, .tuple fs] => isWordD t 8 && (shapedD e && fs.all flagStrD)
  | _ => false
theorem flag_strs {fs : List PyData} (h : fs.all flagStrD = true) : fs = (fs.map strOfD).map PyData.str ∧ ∀ x ∈ fs.map strOfD, x ∈ flagWords := by
  induction fs with
  | nil => exact ⟨rfl, fun x hx => absurd hx List.not_mem_nil⟩
  | cons d ds ih =>
    rw [List.all_cons, Bool.and_eq_true] at h
    obtain ⟨i1, i2⟩ := ih h.2
    cases d with
    | str x =>
      refine ⟨?_, fun y hy => ?_⟩
      · rw [List.map_cons, List.map_cons, ← i1]
        rfl
      · rw [List.map_cons] at hy
        rcases List.mem_cons.mp hy with z | z
        · rw [z]
          exact of_decide_eq_true h.1
        · exact i2 y z
    | _ => exact nomatch h.1
theorem shaped_shape {e : PyData} (h : shapedD e = true) : ∃ w ds, e = .tuple (.str w :: ds) := by
  have hw : wordOfD e ≠ Str.empty := fun z => by
    unfold shapedD at h
    rw [z, show lawTab Str.empty = none by decide +kernel] at h
    exact nomatch h
  obtain ⟨w, ds, rfl, _⟩ := word_some hw
  exact ⟨w, ds, rfl⟩
theorem wish_read {d : PyData} (h : wishD d = true) : ∃ r : RqA, d = rqa r ∧ isWordD (.str r.tag) 8 = true ∧ shapedD (.tuple (.str r.word :: r.rest)) = true ∧ ∀ x ∈ r.words, x ∈ flagWords := by
  match d, h with
  | .tuple [t, e, .tuple fs], h =>
    have h : (isWordD t 8 && (shapedD e && fs.all flagStrD)) = true := h
    rw [Bool.and_eq_true, Bool.and_eq_true] at h
    obtain ⟨ht, he, hf⟩ := h
    obtain ⟨w, ds, rfl⟩ := shaped_shape he
    obtain ⟨x, rfl⟩ : ∃ x, t = .str x := by
      cases t with
      | str x => exact ⟨x, rfl⟩
      | _ => exact nomatch ht
    obtain ⟨f1, f2⟩ := flag_strs hf
    refine ⟨⟨x, w, ds, fs.map strOfD⟩, ?_, ht, he, f2⟩
    show _ = PyData.tuple [.str x, .tuple (.str w :: ds), .tuple ((fs.map strOfD).map PyData.str)]
    rw [← f1]
theorem wish_rqa {r : RqA} : wishD (rqa r) = (isWordD (.str r.tag) 8 && (shapedD (.tuple (.str r.word :: r.rest)) && (r.words.map PyData.str).all flagStrD)) := rfl
/-- what the law asks of a request besides its shape and its place -/
def askA (ps : List Str) (m : Nat) (r : RqA) : Bool := spotsD ps m r.word r.rest && flagsA r.word r.rest r.words
theorem request_eq {ps : List Str} {m : Nat} (hp : ∀ p ∈ ps, isWordD (.str p) 8 = true) (d : PyData) : requestD ps m d = (wishD d && askA ps m (readA d)) := by
  cases hw : wishD d with
  | true =>
    obtain ⟨r, rfl, h1, h2, h3⟩ := wish_read hw
    rw [read_rqa]
    have e : requestD ps m (rqa r) = (isWordD (.str r.tag) 8 && (isDeedD ps m (.tuple (.str r.word :: r.rest)) && flagsD r.word r.rest (.tuple (r.words.map PyData.str)))) := rfl
    rw [e, h1, deed_eq hp, h2, flags_eq r.words h3]
    unfold askA
    simp
  | false =>
    rw [Bool.false_and]
    refine Bool.eq_false_iff.mpr fun hr => ?_
    obtain ⟨r, rfl⟩ := request_read hr
    have e : requestD ps m (rqa r) = (isWordD (.str r.tag) 8 && (isDeedD ps m (.tuple (.str r.word :: r.rest)) && flagsD r.word r.rest (.tuple (r.words.map PyData.str)))) := rfl
    rw [e, Bool.and_eq_true, Bool.and_eq_true] at hr
    obtain ⟨h1, h2, h3⟩ := hr
    rw [deed_eq hp, Bool.and_eq_true] at h2
    have h3 : ((r.words.map PyData.str).all (mayHaveD r.word r.rest) && _) = true := h3
    rw [Bool.and_eq_true] at h3
    have h4 : (r.words.map PyData.str).all flagStrD = true := by
      rw [List.all_eq_true]
      intro f hf
      obtain ⟨x, rfl, hx⟩ := mayHave_str (List.all_eq_true.mp h3.1 f hf)
      exact decide_eq_true hx
    rw [wish_rqa, h1, h2.1, h4] at hw
    exact nomatch hw
/-- what the law's own reading of a LOT answers -/
def lawLotD (ps : List Str) (m : Nat) : PyData → Bool
  | .tuple es => !decide (es.length = 0) && (es.all wishD && ((List.range es.length).all (fun j => (match (es.map readA)[j]? with | some r => askA ps m r | none => true) && standsA (es.map readA) j) && decide ((es.map readA).map RqA.tag).Nodup))
  | _ => false
theorem range_ask {ps : List Str} {m : Nat} (rs : List RqA) : (List.range rs.length).all (fun j => match rs[j]? with | some r => askA ps m r | none => true) = rs.all (askA ps m) := by
  rw [Bool.eq_iff_iff, List.all_eq_true, List.all_eq_true]
  constructor
  · intro h r hr
    obtain ⟨j, hj, e⟩ := List.mem_iff_getElem.mp hr
    have z := h j (List.mem_range.mpr hj)
    rw [List.getElem?_eq_getElem hj, e] at z
    exact z
  · intro h j hj
    rw [List.getElem?_eq_getElem (List.mem_range.mp hj)]
    exact h _ (List.getElem_mem _)
theorem all_split {α : Type} (l : List α) (f g : α → Bool) : l.all (fun x => f x && g x) = (l.all f && l.all g) := by
  induction l with
  | nil => rfl
  | cons a l ih =>
    rw [List.all_cons, List.all_cons, List.all_cons, ih]
    cases f a <;> cases g a <;> cases l.all f <;> cases l.all g <;> rfl
/-- both readings of a LOT answer the same -/
theorem lot_eq {ps : List Str} {m : Nat} (hp : ∀ p ∈ ps, isWordD (.str p) 8 = true) (d : PyData) : lawLotD ps m d = isLotD ps m d := by
  cases d with
  | tuple es =>
    show (!decide (es.length = 0) && (es.all wishD && ((List.range es.length).all (fun j => (match (es.map readA)[j]? with | some r => askA ps m r | none => true) && standsA (es.map readA) j) && decide ((es.map readA).map RqA.tag).Nodup))) = (!decide (es.length = 0) && (es.all (requestD ps m) && lotD (es.map readA)))
    have e1 : es.all (requestD ps m) = (es.all wishD && (es.map readA).all (askA ps m)) := by
      rw [List.all_map, ← all_split]
      congr 1
      funext x
      exact request_eq hp x
    have hl : es.length = (es.map readA).length := by rw [List.length_map]
    rw [all_split, e1]
    unfold lotD
    rw [hl, range_ask]
    cases !decide ((es.map readA).length = 0) <;> cases es.all wishD <;> cases (es.map readA).all (askA ps m) <;> cases decide ((es.map readA).map RqA.tag).Nodup <;> cases (List.range (es.map readA).length).all (standsA (es.map readA)) <;> rfl
  | _ => rfl
end KV

namespace KV
open PySem PySem.Spec PyProof.Rows L2 RZ
abbrev sGoesOn : Stmt := topS 53
section
variable {P : Program} {w : World} {K : PySem.W.Frag} {mg : Str → Option Value} {base : Heap}
theorem scGoesOn : FnScope ["_law_wish"] ["_law_wish"] (defScope sGoesOn) :=
  ⟨rfl, rfl, rfl, by decide +kernel, rfl, by decide +kernel, by decide +kernel⟩
theorem ok_goesOn {f : Addr} {fd : FuncData} {k : Nat} (F : Fun K "_law_goes_on" "_law_goes_on" sGoesOn f fd) : FnOk P w K mg base CX0 (k + 1) f fd ["_law_wish"] (spBindsA K) := by
  refine F.ok scGoesOn (fun vs H Q E h => ?_) (fun cdv A outer s H vs Q E hr h => ?_)
  · obtain ⟨v, r, rfl, _⟩ := h
    rfl
  · obtain ⟨v, r, rfl, hv, q⟩ := h
    refine ⟨_, pss_one (ps_ret (pe_or (pe_cmpR (op_inK (K := K) rfl) pe_str (pe_ix ix_seq (pv 0) pe_int (fun _ _ => rfl)) (by rfl)) (pe_one (pe_cmpR (op_inK (K := K) rfl) pe_str (pe_ix ix_seq (pv 0) pe_int (fun _ _ => rfl)) (by rfl))))), ?_⟩
    obtain ⟨p, a, b, xs, rfl, h1, h2, h3⟩ := rqa_parts hv
    refine ⟨_, rfl, .inr (.inl ⟨p, _, 2, .ref b, rfl, rfl, h1, atI_nat (j := 2) rfl, b, _, rfl, .inr h3, rfl, flat_strs _, ?_⟩)⟩
    rw [in_strs, if_neg (by decide)]
    refine ⟨_, rfl, ?_⟩
    have eb : bindsA r = (decide (Str.ofString "link" ∈ r.words) || decide (Str.ofString "hard" ∈ r.words)) := rfl
    cases h : decide (Str.ofString "link" ∈ r.words) with
    | true =>
      rw [eb, h, Bool.true_or] at q
      exact iteT q
    | false =>
      rw [eb, h, Bool.false_or] at q
      refine iteF ⟨_, rfl, .inr (.inl ⟨p, _, 2, .ref b, rfl, rfl, h1, atI_nat (j := 2) rfl, b, _, rfl, .inr h3, rfl, flat_strs _, ?_⟩)⟩
      rw [in_strs, if_neg (by decide)]
      exact q
end
end KV

namespace KV
open PySem PySem.Spec PyProof.Rows L2 RZ
abbrev sStandsR : Stmt := topS 54
theorem ix_seqL {X : Cx} {K : PySem.W.Frag} (h : X.K = K) : IxR X (rIx K) := by
  subst h
  exact ix_seq
/-- the place of a request, as the law reads it -/
def standsL (rs : List RqA) (n : Nat) : Bool :=
  match rs[n]? with
  | none => false
  | some r => if ltA r = true then decide (0 < n) && (match rs[n - 1]? with | some r' => !ltA r' && bindsA r' | none => false) else if (bindsA r && decide (n + 1 = rs.length)) = true then false else !decide (Str.ofString "drain" ∈ r.words) || beginsA rs n
theorem eqv_nilD (xs : List PyData) : PyData.eqv (.list xs) (.list []) = xs.isEmpty := by
  cases xs <;> simp [PyData.eqv, PyData.eqvAll]
theorem shaped_sub {ds es : List PyData} (h : fineD (.tuple ds)) (hl : es.length ≤ ds.length) (hs : ∀ e ∈ es, e ∈ ds) : SeqAt.shaped (.list es) = true := by
  obtain ⟨L, n, h, hL, hn⟩ := h
  obtain ⟨m, rfl, h1, h2⟩ := gD_seq (.inr rfl) h
  refine shaped_gD (L := L) (n := m + 1) (gD_mk (m := m) (by omega) ?_).1 hn
  rw [gDs_all, List.all_eq_true]
  intro e he
  exact okGet h2 (hs e he)
section
variable {P : Program} {w : World} {K : PySem.W.Frag} {mg : Str → Option Value} {base : Heap}
def spStandsL (K : PySem.W.Frag) : Sp := fun vs H Q _ => ∃ (v : V) (rs : List RqA) (n : Nat), vs = [v, .int n] ∧ Dp K H v (.tuple (rs.map rqa)) ∧ fineD (.tuple (rs.map rqa)) ∧ n < rs.length ∧ ∀ H', Same H H' → Q (.bl (standsL rs n)) H'
abbrev nStandsR : List Str := ["_law_batch", "_law_at", "_law_wish", "_law_elder", "_law_other"]
theorem scStandsR : FnScope nStandsR ["_law_batch", "_law_at"] (defScope sStandsR) :=
  ⟨rfl, rfl, rfl, by decide +kernel, rfl, by decide +kernel, by decide +kernel⟩
theorem ok_standsR {f fB : Addr} {fd fdB : FuncData} {k : Nat} (F : Fun K "_law_stands_right" "_law_stands_right" sStandsR f fd)
    (FB : Fun K "_law_goes_on" "_law_goes_on" sGoesOn fB fdB) (bB : Binds K fdB ["_law_wish"] []) (mB : mg "_law_goes_on" = some (.ref fB)) (GB : FnOk P w K mg base CX0 k fB fdB ["_law_wish"] (spBindsA K))
    (me : mg "len" = none) : FnOk P w K mg base CX0 (k + 1) f fd ["_law_batch", "_law_at"] (spStandsL K) := by
  refine F.ok scStandsR (fun vs H Q E h => ?_) (fun cdv A outer s H vs Q E hr h => ?_)
  · obtain ⟨v, rs, n, rfl, _⟩ := h
    rfl
  · obtain ⟨v, rs, n, rfl, hd, hf, hn, q⟩ := h
    have hz := hf.len
    rw [List.length_map] at hz
    refine ⟨_, pss_cons (ps_set (i := 2) scStandsR.nd rfl (.inl rfl) (pe_ix ix_seq (pv 0) (pv 1) (fun _ _ => rfl)))
      (pss_cons (ps_if (pt_cmpR op_eq (pe_ix ix_seq (pe_ix ix_seq (pv 2) pe_int (fun _ _ => rfl)) pe_int (fun _ _ => rfl)) pe_str (nomark _))
        (pss_one (ps_ret (pe_and (pe_cmpR op_gt (pv 1) pe_int (nomark _))
          (pe_and (pe_cmpR op_ne (pe_ix ix_seq (pe_ix ix_seq (pe_ix ix_seq (pv 0) (pe_op op_sub (pv 1) pe_int) (fun _ _ => rfl)) pe_int (fun _ _ => rfl)) pe_int (fun _ _ => rfl)) pe_str (nomark _))
          (pe_one (pe_call GB hr (by rfl) mB FB.kp bB .nil pass0 (pa_cons (pe_ix ix_seq (pv 0) (pe_op op_sub (pv 1) pe_int) (fun _ _ => rfl)) pa_nil))))))) pss_nil)
      (pss_cons (ps_if (PW.pt (pw_and (pt_val (pe_call GB hr (by rfl) mB FB.kp bB .nil pass0 (pa_cons (pv 2) pa_nil))) (pw_and1 (pt_cmpR op_eq (pv 1) (pe_op op_sub (pe_callB call_len_seq (by rfl) me PySem.boot_len (pa_cons (pv 0) pa_nil)) pe_int) (nomark _)))))
        (pss_one (ps_ret pe_bl)) pss_nil)
      (pss_cons (ps_setLc (i := 3) (own := [("_law_other", 4)]) (g := gName 4) rfl scStandsR.nd rfl rfl (sw_true rfl rfl rfl (by decide +kernel)) (pi_tup (pe_slice sl_tupA (pv 0) po_none (po_some (pv 1)))) (blkOk_by (N := nStandsR) (sc := defScope sStandsR) (by decide +kernel))
          (fun _ _ _ _ _ => pg_name (i := 4) scStandsR.nd rfl (Or.inl rfl)) (fun _ _ _ _ _ => pts_one (pt_cmpR op_ne (pe_ix (ix_seqL (K := K) rfl) (pe_ix (ix_seqL (K := K) rfl) (pv 4) pe_int (fun _ _ => rfl)) pe_int (fun _ _ => rfl)) pe_str (nomark _))) (fun _ _ _ _ _ => pv 4))
      (pss_one (ps_ret (pe_or (pe_cmpR (op_notInK (K := K) rfl) pe_str (pe_ix ix_seq (pv 2) pe_int (fun _ _ => rfl)) (by rfl))
        (pe_or (pe_cmpR (op_eqD hr.units) (pv 3) (pe_lst pa_nil) (nomark _))
        (pe_one (pe_not (pe_call GB hr (by rfl) mB FB.kp bB .nil pass0 (pa_cons (pe_ix ix_seq (pv 3) (pe_un un_neg pe_int) (fun _ _ => rfl)) pa_nil))))))))))), ?_⟩
    obtain ⟨r, er⟩ : ∃ r, rs[n]? = some r := ⟨_, List.getElem?_eq_getElem hn⟩
    have es : standsL rs n = if ltA r = true then decide (0 < n) && (match rs[n - 1]? with | some r' => !ltA r' && bindsA r' | none => false) else if (bindsA r && decide (n + 1 = rs.length)) = true then false else !decide (Str.ofString "drain" ∈ r.words) || beginsA rs n := by
      unfold standsL
      rw [er]
    have hd0 := hd
    have elt : ∀ r : RqA, decide (V.str r.word = V.str "linktimeout") = ltA r := fun r => by
      show _ = decide (r.word = "linktimeout")
      rw [Bool.eq_iff_iff, decide_eq_true_eq, decide_eq_true_eq]
      exact ⟨fun z => V.str.inj z, fun z => by rw [z]⟩
    have ix2 : ∀ {v : V} {r : RqA} {H2 : Hp} {Q2 : VK}, Dp K H2 v (rqa r) → Q2 (.str r.word) H2 → rIx K v (.int 1) H2 fun x H3 => rIx K x (.int 0) H3 Q2 := fun {v r H2 Q2} hv q2 => by
      obtain ⟨p, a, b, xs, rfl, g1, g2, g3⟩ := rqa_parts hv
      exact .inr (.inl ⟨p, _, 1, .ref a, rfl, rfl, g1, atI_nat (j := 1) rfl, .inr (.inl ⟨a, _, 0, .str r.word, rfl, rfl, g2, atI_nat (j := 0) rfl, q2⟩)⟩)
    cases hd with
    | tup h1 h2 =>
      rename_i a xs
      have hl := dps_len h2
      rw [List.length_map] at hl
      obtain ⟨x, hx, dx⟩ := dps_at h2 er
      refine ⟨_, rfl, _, rfl, .inr (.inl ⟨a, xs, n, x, rfl, rfl, h1, atI_nat hx, ?_⟩)⟩
      refine ⟨_, rfl, ix2 dx ⟨rfl, _, rfl, ?_⟩⟩
      show if decide (V.str r.word = V.str "linktimeout") = true then _ else _
      rw [elt]
      cases hlt : ltA r with
      | true =>
        rw [hlt, if_pos rfl] at es
        refine iteT ⟨_, rfl, _, _, rfl, rfl, _, rfl, ite2 (fun e => ?_) (fun e => ?_)⟩
        · have n0 : 0 < n := by
            have := of_decide_eq_true e
            omega
          obtain ⟨r', er'⟩ : ∃ r', rs[n - 1]? = some r' := ⟨_, List.getElem?_eq_getElem (by omega)⟩
          obtain ⟨x', hx', dx'⟩ := dps_at h2 er'
          have eb : standsL rs n = (!ltA r' && bindsA r') := by
            rw [es, decide_eq_true n0, Bool.true_and, er']
          have q1 := q H fun _ _ z => z
          rw [eb] at q1
          have en : V.int ((n : Int) - 1) = V.int ((n - 1 : Nat) : Int) := congrArg V.int (by omega)
          refine ⟨_, rfl, _, rfl, _, _, rfl, rfl, .inr (.inl ⟨a, xs, ((n - 1 : Nat) : Int), x', rfl, en, h1, atI_nat hx', ix2 dx' ⟨rfl, _, rfl, ?_⟩⟩)⟩
          show if (!decide (V.str r'.word = V.str "linktimeout")) = true then _ else _
          rw [elt]
          cases hl' : ltA r' with
          | true =>
            rw [hl'] at q1
            exact iteF q1
          | false =>
            rw [hl'] at q1
            exact iteT ⟨_, rfl, _, rfl, _, _, rfl, rfl, .inr (.inl ⟨a, xs, ((n - 1 : Nat) : Int), x', rfl, en, h1, atI_nat hx', x', r', rfl, dx', q1⟩)⟩
        · have n0 : ¬ 0 < n := fun z => e (decide_eq_true (by omega))
          have q1 := q H fun _ _ z => z
          rw [es, decide_eq_false n0, Bool.false_and] at q1
          exact q1
      | false =>
        rw [hlt, if_neg Bool.false_ne_true] at es
        refine iteF ⟨_, rfl, x, r, rfl, dx, _, rfl, ?_⟩
        have es3 : (bindsA r && decide (n + 1 = rs.length)) = false → standsL rs n = (!decide (Str.ofString "drain" ∈ r.words) || beginsA rs n) := fun z => by
          rw [es, z, if_neg Bool.false_ne_true]
        obtain ⟨p, a2, b, ys, rfl, g1, g2, g3⟩ := rqa_parts dx
        cases hb : bindsA r with
        | false =>
          have e3 := es3 (by rw [hb]; rfl)
          refine iteF ?_
          refine ⟨_, rfl, _, rfl, _, rfl, sl_take h1 (by omega) fun a' H1 s1 hS => ⟨a', rfl, ⟨_, hS⟩, fun D nD => ?_⟩⟩
          have hxT : DpAll K H1 (xs.take n) ((rs.take n).map rqa) := by
            rw [List.map_take]
            exact dps_take n (dps_same s1 h2)
          have base : ∀ {H2 : Hp}, SameX [D] H1 H2 → Same H1 H2 := fun {H2} h c o e => h c o (fun z => ne_of_none e nD (List.mem_singleton.mp z)) e
          refine lc_it (walk_tup (xs := xs.take n)) (fun j H2 => SameX [D] H1 H2 ∧ ∃ acc, H2 D = some (.lst acc) ∧ acc.length ≤ j ∧ DpAll K H1 acc ((((rs.take n).take j).filter fun r => !ltA r).map rqa)) ⟨sameX_upd List.mem_cons_self, [], upd_same, Nat.le_refl _, .nil⟩ (fun j H2 _ h => same_seqT (base h.1) hS) ?_ ?_
          · rintro j x2 H2 H2' hj ⟨hs, acc, hD, hacc, ha⟩ ⟨rfl, hx1⟩
            obtain ⟨d, hd1, hdp⟩ := dps_get hxT hx1
            rw [List.getElem?_map] at hd1
            obtain ⟨r2, hr1, rfl⟩ := Option.map_eq_some_iff.mp hd1
            rw [List.length_take] at hj
            have hdp2 := dp_same (base hs) hdp
            have et : ((rs.take n).take (j + 1)).filter (fun r => !ltA r) = ((rs.take n).take j).filter (fun r => !ltA r) ++ (if (!ltA r2) = true then [r2] else []) := by
              rw [take_snoc hr1, List.filter_append, List.filter_cons, List.filter_nil]
            refine ⟨rfl, _, rfl, ix2 hdp2 ⟨rfl, _, rfl, ?_⟩⟩
            show if (!decide (V.str r2.word = V.str "linktimeout")) = true then _ else _
            rw [elt]
            cases hk : ltA r2 with
            | true =>
              rw [hk] at et
              refine iteF ⟨hs, acc, hD, by omega, ?_⟩
              rw [et]
              simpa using ha
            | false =>
              rw [hk] at et
              refine iteT ⟨_, rfl, acc, hD, small1000 (by omega), hs.trans (sameX_upd List.mem_cons_self), acc ++ [x2], upd_same, by rw [List.length_append]; simp; omega, ?_⟩
              rw [et, List.map_append]
              exact dps_app ha (.cons hdp .nil)
          · rintro H2 ⟨hs, acc, hD, hacc, ha⟩
            have s2 := base hs
            rw [List.length_take] at hacc
            have em : ((rs.take n).take (xs.take n).length).filter (fun r => !ltA r) = membersA rs n := by
              rw [List.take_of_length_le (by rw [List.length_take, List.length_take]; omega)]
              rfl
            rw [em] at ha
            have ha2 := dps_same s2 ha
            have qq := fun H' (s' : Same H2 H') => q H' ((s1.trans s2).trans s')
            have g3' := same_seqT (s1.trans s2) g3
            have g1' := same_seqT (s1.trans s2) g1
            refine ⟨_, rfl, .inr (.inl ⟨p, _, 2, .ref b, rfl, rfl, g1', atI_nat (j := 2) rfl, b, _, rfl, .inr g3', rfl, flat_strs _, ?_⟩)⟩
            rw [in_strs, if_pos rfl]
            refine ⟨_, rfl, ?_⟩
            cases hdr : decide (Str.ofString "drain" ∈ r.words) with
            | false =>
              have q1 := qq H2 fun _ _ z => z
              rw [e3, hdr] at q1
              exact iteT q1
            | true =>
              rw [e3, hdr] at qq
              refine iteF ⟨_, rfl, by show 0 ≤ sizeLine; decide, fun t nt => ⟨.list ((membersA rs n).map rqa), .list [], .lst (SqL.of (same_upd nt _ _ hD)) (dps_same (same_upd nt) ha2), .lst (SqL.of upd_same) .nil, ?_, shaped_nilL, ?_⟩⟩
              · refine shaped_sub hf ?_ fun e he => ?_
                · rw [List.length_map, List.length_map]
                  have z := List.length_filter_le (fun r => !ltA r) (rs.take n)
                  rw [List.length_take] at z
                  show (membersA rs n).length ≤ rs.length
                  unfold membersA
                  omega
                · obtain ⟨r3, hr3, rfl⟩ := List.mem_map.mp he
                  exact List.mem_map.mpr ⟨r3, List.mem_of_mem_take (List.mem_filter.mp hr3).1, rfl⟩
              · rw [eqv_nilD]
                have st := same_upd (o := HO.lst []) nt
                refine ⟨_, rfl, ?_⟩
                cases hm : (membersA rs n).getLast? with
                | none =>
                  have e0 : membersA rs n = [] := List.getLast?_eq_none_iff.mp hm
                  have eb : beginsA rs n = true := by unfold beginsA; rw [hm]
                  have q1 := qq _ st
                  rw [eb] at q1
                  rw [e0]
                  exact iteT q1
                | some r4 =>
                  have eb : beginsA rs n = !bindsA r4 := by unfold beginsA; rw [hm]
                  have q1 := qq _ st
                  rw [eb] at q1
                  have hg : ((membersA rs n).map rqa).getLast? = some (rqa r4) := by rw [List.getLast?_map, hm]; rfl
                  have hne : ((membersA rs n).map rqa).isEmpty = false := by
                    cases hq : (membersA rs n).map rqa with
                    | nil =>
                      rw [hq] at hg
                      exact nomatch hg
                    | cons _ _ => rfl
                  rw [hne]
                  obtain ⟨x4, ys4, rfl, dx4⟩ := dps_last ha2 hg
                  exact iteF ⟨_, rfl, _, rfl, .inl ⟨D, _, -1, x4, rfl, rfl, SqL.of (st _ _ hD), atI_last ys4 x4, x4, r4, rfl, dp_same st dx4, _, rfl, q1⟩⟩
        | true =>
          refine iteT ⟨_, rfl, _, rfl, a, xs, rfl, .inr h1, _, _, rfl, rfl, rfl, _, rfl, ite2 (fun e => ?_) (fun e => ?_)⟩
          · have n1 : n + 1 = rs.length := by
              have z := of_decide_eq_true e
              injection z with z
              omega
            have q1 := q H fun _ _ z => z
            rw [es, hb, decide_eq_true n1, Bool.true_and, if_pos rfl] at q1
            exact q1
          · have n1 : ¬ n + 1 = rs.length := fun z => e (decide_eq_true (congrArg V.int (by omega)))
            have e3 := es3 (by rw [hb, decide_eq_false n1]; rfl)
            refine ⟨_, rfl, _, rfl, _, rfl, sl_take h1 (by omega) fun a' H1 s1 hS => ⟨a', rfl, ⟨_, hS⟩, fun D nD => ?_⟩⟩
            have hxT : DpAll K H1 (xs.take n) ((rs.take n).map rqa) := by
              rw [List.map_take]
              exact dps_take n (dps_same s1 h2)
            have base : ∀ {H2 : Hp}, SameX [D] H1 H2 → Same H1 H2 := fun {H2} h c o e => h c o (fun z => ne_of_none e nD (List.mem_singleton.mp z)) e
            refine lc_it (walk_tup (xs := xs.take n)) (fun j H2 => SameX [D] H1 H2 ∧ ∃ acc, H2 D = some (.lst acc) ∧ acc.length ≤ j ∧ DpAll K H1 acc ((((rs.take n).take j).filter fun r => !ltA r).map rqa)) ⟨sameX_upd List.mem_cons_self, [], upd_same, Nat.le_refl _, .nil⟩ (fun j H2 _ h => same_seqT (base h.1) hS) ?_ ?_
            · rintro j x2 H2 H2' hj ⟨hs, acc, hD, hacc, ha⟩ ⟨rfl, hx1⟩
              obtain ⟨d, hd1, hdp⟩ := dps_get hxT hx1
              rw [List.getElem?_map] at hd1
              obtain ⟨r2, hr1, rfl⟩ := Option.map_eq_some_iff.mp hd1
              rw [List.length_take] at hj
              have hdp2 := dp_same (base hs) hdp
              have et : ((rs.take n).take (j + 1)).filter (fun r => !ltA r) = ((rs.take n).take j).filter (fun r => !ltA r) ++ (if (!ltA r2) = true then [r2] else []) := by
                rw [take_snoc hr1, List.filter_append, List.filter_cons, List.filter_nil]
              refine ⟨rfl, _, rfl, ix2 hdp2 ⟨rfl, _, rfl, ?_⟩⟩
              show if (!decide (V.str r2.word = V.str "linktimeout")) = true then _ else _
              rw [elt]
              cases hk : ltA r2 with
              | true =>
                rw [hk] at et
                refine iteF ⟨hs, acc, hD, by omega, ?_⟩
                rw [et]
                simpa using ha
              | false =>
                rw [hk] at et
                refine iteT ⟨_, rfl, acc, hD, small1000 (by omega), hs.trans (sameX_upd List.mem_cons_self), acc ++ [x2], upd_same, by rw [List.length_append]; simp; omega, ?_⟩
                rw [et, List.map_append]
                exact dps_app ha (.cons hdp .nil)
            · rintro H2 ⟨hs, acc, hD, hacc, ha⟩
              have s2 := base hs
              rw [List.length_take] at hacc
              have em : ((rs.take n).take (xs.take n).length).filter (fun r => !ltA r) = membersA rs n := by
                rw [List.take_of_length_le (by rw [List.length_take, List.length_take]; omega)]
                rfl
              rw [em] at ha
              have ha2 := dps_same s2 ha
              have qq := fun H' (s' : Same H2 H') => q H' ((s1.trans s2).trans s')
              have g3' := same_seqT (s1.trans s2) g3
              have g1' := same_seqT (s1.trans s2) g1
              refine ⟨_, rfl, .inr (.inl ⟨p, _, 2, .ref b, rfl, rfl, g1', atI_nat (j := 2) rfl, b, _, rfl, .inr g3', rfl, flat_strs _, ?_⟩)⟩
              rw [in_strs, if_pos rfl]
              refine ⟨_, rfl, ?_⟩
              cases hdr : decide (Str.ofString "drain" ∈ r.words) with
              | false =>
                have q1 := qq H2 fun _ _ z => z
                rw [e3, hdr] at q1
                exact iteT q1
              | true =>
                rw [e3, hdr] at qq
                refine iteF ⟨_, rfl, by show 0 ≤ sizeLine; decide, fun t nt => ⟨.list ((membersA rs n).map rqa), .list [], .lst (SqL.of (same_upd nt _ _ hD)) (dps_same (same_upd nt) ha2), .lst (SqL.of upd_same) .nil, ?_, shaped_nilL, ?_⟩⟩
                · refine shaped_sub hf ?_ fun e he => ?_
                  · rw [List.length_map, List.length_map]
                    have z := List.length_filter_le (fun r => !ltA r) (rs.take n)
                    rw [List.length_take] at z
                    show (membersA rs n).length ≤ rs.length
                    unfold membersA
                    omega
                  · obtain ⟨r3, hr3, rfl⟩ := List.mem_map.mp he
                    exact List.mem_map.mpr ⟨r3, List.mem_of_mem_take (List.mem_filter.mp hr3).1, rfl⟩
                · rw [eqv_nilD]
                  have st := same_upd (o := HO.lst []) nt
                  refine ⟨_, rfl, ?_⟩
                  cases hm : (membersA rs n).getLast? with
                  | none =>
                    have e0 : membersA rs n = [] := List.getLast?_eq_none_iff.mp hm
                    have eb : beginsA rs n = true := by unfold beginsA; rw [hm]
                    have q1 := qq _ st
                    rw [eb] at q1
                    rw [e0]
                    exact iteT q1
                  | some r4 =>
                    have eb : beginsA rs n = !bindsA r4 := by unfold beginsA; rw [hm]
                    have q1 := qq _ st
                    rw [eb] at q1
                    have hg : ((membersA rs n).map rqa).getLast? = some (rqa r4) := by rw [List.getLast?_map, hm]; rfl
                    have hne : ((membersA rs n).map rqa).isEmpty = false := by
                      cases hq : (membersA rs n).map rqa with
                      | nil =>
                        rw [hq] at hg
                        exact nomatch hg
                      | cons _ _ => rfl
                    rw [hne]
                    obtain ⟨x4, ys4, rfl, dx4⟩ := dps_last ha2 hg
                    exact iteF ⟨_, rfl, _, rfl, .inl ⟨D, _, -1, x4, rfl, rfl, SqL.of (st _ _ hD), atI_last ys4 x4, x4, r4, rfl, dp_same st dx4, _, rfl, q1⟩⟩
end
end KV

namespace KV
open PySem PySem.Spec PyProof.Rows L2 RZ
abbrev sFlagsR : Stmt := topS 52
theorem eqv_texts : ∀ xs ts : List Str, PyData.eqv (.list (xs.map PyData.str)) (.list (ts.map PyData.str)) = decide (xs = ts) := by
  have key : ∀ xs ts : List Str, PyData.eqvAll (xs.map PyData.str) (ts.map PyData.str) = decide (xs = ts) := by
    intro xs
    induction xs with
    | nil => intro ts; cases ts <;> simp [PyData.eqvAll]
    | cons x xs ih =>
      intro ts
      cases ts with
      | nil => simp [PyData.eqvAll]
      | cons t ts =>
        rw [List.map_cons, List.map_cons]
        simp only [PyData.eqvAll, PyData.eqv, ih ts]
        rw [Bool.eq_iff_iff]
        simp
  intro xs ts
  simp only [PyData.eqv]
  exact key xs ts
theorem word_lay {x : Str} (h : isWordD (.str x) 8 = true) : PyData.strOk x = true := by
  have z : (decide (0 < x.length) && decide (x.length ≤ 8) && x.cps.toList.all isLet) = true := h
  rw [Bool.and_eq_true] at z
  unfold PyData.strOk
  rw [← Array.all_toList, List.all_eq_true]
  intro c hc
  have z2 := List.all_eq_true.mp z.2 c hc
  unfold isLet at z2
  rw [Bool.and_eq_true, decide_eq_true_eq, decide_eq_true_eq] at z2
  rw [decide_eq_true_eq]
  omega
theorem lay_of : ∀ ts : List Str, (∀ t ∈ ts, PyData.strOk t = true) → PyData.canLayAll0 (ts.map PyData.str) = true
  | [], _ => rfl
  | t :: ts, h => by
    simp only [List.map_cons, PyData.canLayAll0, PyData.canLay0, h t List.mem_cons_self, lay_of ts fun u hu => h u (List.mem_cons_of_mem _ hu), Bool.and_self]
theorem shaped_texts {ts : List Str} (h : ∀ t ∈ ts, PyData.strOk t = true) : SeqAt.shaped (.list (ts.map PyData.str)) = true := by
  show (PyData.canLay0 (.list _) && decide (PyData.depth (.list _) ≤ 64)) = true
  simp only [PyData.canLay0, PyData.depth, lay_of ts h, depth_strs]
  decide
theorem flag_ok : ∀ x ∈ flagWords, PyData.strOk x = true := by
  have h : flagWords.all PyData.strOk = true := by decide +kernel
  exact fun x hx => List.all_eq_true.mp h x hx
theorem rqa_partsD {K : PySem.W.Frag} {H : Hp} {v : V} {r : RqA} (h : Dp K H v (rqa r)) : ∃ (p a b : Addr) (xs : List V), v = .ref p ∧ SqT K H p [.str r.tag, .ref a, .ref b] ∧ SqT K H a (.str r.word :: xs) ∧ SqT K H b (r.words.map V.str) ∧ DpAll K H xs r.rest := by
  obtain ⟨p, x, y, z, rfl, hS, d1, d2, d3⟩ := dp_threeA h
  cases d1
  cases d2 with
  | tup h1 h2 =>
    cases h2 with
    | cons k1 k2 =>
      cases k1
      cases d3 with
      | tup g1 g2 =>
        have := dps_strV g2
        subst this
        exact ⟨_, _, _, _, rfl, hS, h1, g1, k2⟩
/-- what a deed of this shape is, if it may be silent -/
theorem quiet_nop {ds : List PyData} (h : shapedD (.tuple (.str "nop" :: ds)) = true) : inD quiets (.tuple (.str "nop" :: ds)) = true := by
  have h : fitAllD [] ds = true := h
  unfold fitAllD at h
  cases ds with
  | nil => decide +kernel
  | cons d ds => simp at h
theorem quiet_work {ds : List PyData} (h : shapedD (.tuple (.str "work" :: ds)) = true) : ∃ b : Bool, ds = [.bool b] ∧ inD quiets (.tuple (.str "work" :: ds)) = b := by
  have h : fitAllD ["b"] ds = true := h
  match ds, h with
  | [d], h =>
    unfold fitAllD at h
    have h : fitsD "b" d = true := by simpa using h
    rw [fd_b] at h
    cases d with
    | bool b =>
      refine ⟨b, rfl, ?_⟩
      cases b <;> decide +kernel
    | _ => exact nomatch h
  | [], h => exact nomatch h
  | _ :: _ :: _, h =>
    unfold fitAllD at h
    simp at h
theorem quiet_no {w : Str} {ds : List PyData} (h1 : w ≠ "nop") (h2 : w ≠ "work") : inD quiets (.tuple (.str w :: ds)) = false := by
  have e1 : ((Str.ofString "nop") == w) = false := beq_eq_false_iff_ne.mpr fun z => h1 z.symm
  have e2 : ((Str.ofString "work") == w) = false := beq_eq_false_iff_ne.mpr fun z => h2 z.symm
  show (PyData.eqv (.tuple [.str "nop"]) (.tuple (.str w :: ds)) || (PyData.eqv (.tuple [.str "work", .bool true]) (.tuple (.str w :: ds)) || false)) = false
  simp [PyData.eqv, PyData.eqvAll, e1, e2]
section
variable {P : Program} {w : World} {K : PySem.W.Frag} {mg : Str → Option Value} {base : Heap}
def spFlagsR (K : PySem.W.Frag) : Sp := fun vs H Q _ => ∃ (v : V) (r : RqA), vs = [v] ∧ Dp K H v (rqa r) ∧ fineD (rqa r) ∧ shapedD (.tuple (.str r.word :: r.rest)) = true ∧ (∀ x ∈ r.words, x ∈ flagWords) ∧ r.words.length ≤ 100 ∧ ∀ H', Same H H' → Q (.bl (flagsA r.word r.rest r.words)) H'
abbrev nFlagsR : List Str := ["_law_wish", "_law_deed_so", "_law_words"]
theorem scFlagsR : FnScope nFlagsR ["_law_wish"] (defScope sFlagsR) :=
  ⟨rfl, rfl, rfl, by decide +kernel, rfl, by decide +kernel, by decide +kernel⟩
theorem ok_flagsR {f : Addr} {fd : FuncData} {k : Nat} (F : Fun K "_law_flags_right" "_law_flags_right" sFlagsR f fd)
    (ml : mg "list" = none) (mso : mg "sorted" = none) (mst : mg "set" = none) : FnOk P w K mg base CX0 (k + 1) f fd ["_law_wish"] (spFlagsR K) := by
  refine F.ok scFlagsR (fun vs H Q E h => ?_) (fun cdv A outer s H vs Q E hr h => ?_)
  · obtain ⟨v, r, rfl, _⟩ := h
    rfl
  · obtain ⟨v, r, rfl, hd, hf, hsh, hw, hz, q⟩ := h
    refine ⟨_, pss_cons (ps_par (i := 1) (j := 2) rfl scFlagsR.nd rfl rfl (by decide) rfl rfl (pa_cons (pe_ix ix_seq (pv 0) pe_int (fun _ _ => rfl)) (pa_cons (pe_callTy call_list_of (by rfl) ml PyProof.Rows.boot_list (pa_cons (pe_ix ix_seq (pv 0) pe_int (fun _ _ => rfl)) pa_nil)) pa_nil)) (by rfl))
      (pss_cons (ps_if (PW.pt (pw_or (pt_cmpR (op_neD hr.units) (pv 2) (pe_callB (cr_sortedT rfl) (by rfl) mso boot_sorted (pa_cons (pe_callTy (cr_setL rfl) (by rfl) mst PyProof.Rows.boot_set (pa_cons (pv 2) pa_nil)) pa_nil)) (nomark _))
          (pw_or1 (PW.pt (pw_and (pt_cmpR (op_inK (K := K) rfl) pe_str (pv 2) (by rfl)) (pw_and1 (pt_cmpR (op_inK (K := K) rfl) pe_str (pv 2) (by rfl)))))))) (pss_one (ps_ret pe_bl)) pss_nil)
      (pss_cons (ps_if (pt_cmpR op_eq (pe_ix ix_seq (pv 1) pe_int (fun _ _ => rfl)) pe_str (nomark _)) (pss_one (ps_ret (pe_cmpR (op_eqD hr.units) (pv 2) (pe_lst pa_nil) (nomark _)))) pss_nil)
      (pss_cons (ps_if (PW.pt (pw_and (pt_cmpR (op_inK (K := K) rfl) pe_str (pv 2) (by rfl))
          (pw_and1 (PW.pt (pw_or (pt_cmpR (op_notInK (K := K) rfl) (pe_ix ix_seq (pv 1) pe_int (fun _ _ => rfl)) (pe_tup (pa_cons pe_str (pa_cons pe_str pa_nil))) (by rfl))
            (pw_or1 (PW.pt (pw_and (pt_cmpR op_eq (pe_ix ix_seq (pv 1) pe_int (fun _ _ => rfl)) pe_str (nomark _)) (pw_and1 (pt_not (pt_val (pe_ix ix_seq (pv 1) pe_int (fun _ _ => rfl))))))))))))) (pss_one (ps_ret pe_bl)) pss_nil)
      (pss_one (ps_ret (pe_or (pe_cmpR (op_notInK (K := K) rfl) pe_str (pv 2) (by rfl)) (pe_one (pe_cmpR (op_inK (K := K) rfl) (pe_ix ix_seq (pv 1) pe_int (fun _ _ => rfl)) (pe_tup (pa_cons pe_str (pa_cons pe_str pa_nil))) (by rfl))))))))), ?_⟩
    obtain ⟨p, a, b, xs, rfl, g1, g2, g3, g4⟩ := rqa_partsD hd
    have okS : ∀ t ∈ r.words, PyData.strOk t = true := fun t ht => flag_ok t (hw t ht)
    have ec : ∀ t : Str, decide (V.str r.word = V.str t) = decide (r.word = t) := fun t => by
      rw [Bool.eq_iff_iff, decide_eq_true_eq, decide_eq_true_eq]
      exact ⟨fun z => V.str.inj z, fun z => by rw [z]⟩
    refine ⟨_, rfl, .inr (.inl ⟨p, _, 1, .ref a, rfl, rfl, g1, atI_nat (j := 1) rfl, _, rfl, .inr (.inl ⟨p, _, 2, .ref b, rfl, rfl, g1, atI_nat (j := 2) rfl, b, _, rfl, .inr g3, fun l nl => ⟨_, _, rfl, ?_⟩⟩)⟩)⟩
    have sl : Same H (upd H l (.lst (r.words.map V.str))) := same_upd nl
    refine ⟨_, rfl, _, rfl, l, r.words, rfl, SqL.of upd_same, by omega, fun a2 l2 na nd hm => ⟨a2, l2, rfl, upd_same, ?_, fun ts p2 hs pm nd2 np => ?_⟩⟩
    · have z := (sub_perm l2 r.words nd fun x hx => (hm x).mp hx).1
      omega
    have sa := same_upd (o := TxO P w a2 l2) na
    have sp := same_upd (o := HO.lst (ts.map V.str)) np
    have hl8 := sp _ _ (sa _ _ (upd_same (H := H) (a := l) (o := HO.lst (r.words.map V.str))))
    have s8 := (sl.trans sa).trans sp
    have okT : ∀ t ∈ ts, PyData.strOk t = true := fun t ht => okS t ((hm t).mp (pm.mem_iff.mp ht))
    refine ⟨.list (r.words.map PyData.str), .list (ts.map PyData.str), .lst (SqL.of hl8) (dps_strs r.words), .lst (SqL.of upd_same) (dps_strs ts), shaped_texts okS, shaped_texts okT, _, rfl, ?_⟩
    have iff := sorted_set_iff hm nd hs pm
    rw [eqv_texts]
    by_cases e9 : r.words = ts
    · rw [decide_eq_true e9]
      have hasc := iff.mp e9
      refine iteF ⟨_, rfl, l, _, rfl, .inl (SqL.of hl8), rfl, flat_strs _, ?_⟩
      rw [in_strs, if_neg (by decide)]
      refine ⟨_, rfl, ?_⟩
      cases hh : decide (Str.ofString "hard" ∈ r.words) with
      | true =>
        refine iteT ⟨_, rfl, l, _, rfl, .inl (SqL.of hl8), rfl, flat_strs _, ?_⟩
        rw [in_strs, if_neg (by decide)]
        refine ⟨_, rfl, ?_⟩
        cases hk : decide (Str.ofString "link" ∈ r.words) with
        | true =>
          have e3 : flagsA r.word r.rest r.words = false := by
            show ((ascS r.words && !(decide (Str.ofString "hard" ∈ r.words) && decide (Str.ofString "link" ∈ r.words))) && mayAllA r.word r.rest r.words) = _
            rw [hasc, hh, hk]
            rfl
          have q1 := q _ s8
          rw [e3] at q1
          exact iteT q1
        | false =>
          have hhl : (decide (Str.ofString "hard" ∈ r.words) && decide (Str.ofString "link" ∈ r.words)) = false := by rw [hh, hk]; rfl
          refine iteF ?_
          have e3 : flagsA r.word r.rest r.words = mayAllA r.word r.rest r.words := by
            show ((ascS r.words && !(decide (Str.ofString "hard" ∈ r.words) && decide (Str.ofString "link" ∈ r.words))) && mayAllA r.word r.rest r.words) = _
            rw [hasc, hhl]
            rfl
          rw [e3] at q
          refine ⟨_, rfl, .inr (.inl ⟨a, _, 0, .str r.word, rfl, rfl, same_seqT s8 g2, atI_nat (j := 0) rfl, rfl, _, rfl, ?_⟩)⟩
          show if decide (V.str r.word = V.str "linktimeout") = true then _ else _
          rw [ec]
          by_cases hlt : r.word = "linktimeout"
          · rw [decide_eq_true hlt]
            refine iteT ⟨_, rfl, by show 0 ≤ sizeLine; decide, fun t nt => ⟨.list (r.words.map PyData.str), .list [], .lst (SqL.of (same_upd nt _ _ hl8)) (dps_strs _), .lst (SqL.of upd_same) .nil, shaped_texts okS, shaped_nilL, ?_⟩⟩
            rw [eqv_nil]
            have q1 := q _ (s8.trans (same_upd (o := HO.lst []) nt))
            have em : mayAllA r.word r.rest r.words = r.words.isEmpty := by
              unfold mayAllA
              rw [if_pos hlt]
              cases r.words <;> rfl
            rw [em] at q1
            exact q1
          · rw [decide_eq_false hlt]
            have em : mayAllA r.word r.rest r.words = ((!decide (Str.ofString "silent" ∈ r.words) || inD quiets (.tuple (.str r.word :: r.rest))) && (!decide (Str.ofString "pick" ∈ r.words) || inD readers (.str r.word))) := by
              unfold mayAllA
              rw [if_neg hlt]
            rw [em] at q
            refine iteF ⟨_, rfl, l, _, rfl, .inl (SqL.of hl8), rfl, flat_strs _, ?_⟩
            rw [in_strs, if_neg (by decide)]
            refine ⟨_, rfl, ?_⟩
            cases hsi : decide (Str.ofString "silent" ∈ r.words) with
            | false =>
              refine iteF ?_
              refine ⟨_, rfl, l, _, rfl, .inl (SqL.of hl8), rfl, flat_strs _, ?_⟩
              rw [in_strs, if_pos rfl]
              refine ⟨_, rfl, ?_⟩
              cases hpk : decide (Str.ofString "pick" ∈ r.words) with
              | false =>
                have q1 := q _ s8
                rw [hpk, hsi] at q1
                exact iteT q1
              | true =>
                refine iteF ⟨_, rfl, .inr (.inl ⟨a, _, 0, .str r.word, rfl, rfl, (same_seqT s8 g2), atI_nat (j := 0) rfl, by show 2 ≤ sizeLine; decide, fun p4 n4 => ⟨p4, _, rfl, .inr (SqT.of upd_same), rfl, rfl, ?_⟩⟩)⟩
                have q1 := q _ ((s8).trans (same_upd (o := HO.tup [V.str (Str.ofString "read"), V.str (Str.ofString "reads")]) n4))
                rw [hpk, hsi] at q1
                rw [if_neg (by decide)]
                have e5 : inV (.str r.word) [V.str (Str.ofString "read"), V.str (Str.ofString "reads")] = inD readers (.str r.word) := (in_strs r.word [Str.ofString "read", Str.ofString "reads"]).trans (eqv_pipe (.str r.word) [Str.ofString "read", Str.ofString "reads"]).symm
                rw [e5]
                exact q1
            | true =>
              refine iteT ⟨_, rfl, .inr (.inl ⟨a, _, 0, .str r.word, rfl, rfl, same_seqT s8 g2, atI_nat (j := 0) rfl, by show 2 ≤ sizeLine; decide, fun p3 n3 => ⟨p3, _, rfl, .inr (SqT.of upd_same), rfl, rfl, ?_⟩⟩)⟩
              have sp3 := same_upd (o := HO.tup [V.str (Str.ofString "nop"), V.str (Str.ofString "work")]) n3
              have s9 := s8.trans sp3
              have hl9 := sp3 _ _ hl8
              have e4 : inV (.str r.word) [V.str (Str.ofString "nop"), V.str (Str.ofString "work")] = decide (r.word ∈ [Str.ofString "nop", Str.ofString "work"]) := in_strs r.word [Str.ofString "nop", Str.ofString "work"]
              rw [if_pos rfl, e4]
              refine ⟨_, rfl, ?_⟩
              by_cases hnop : r.word = "nop"
              · have hq := quiet_nop (ds := r.rest) (hnop ▸ hsh)
                rw [← hnop] at hq
                rw [decide_eq_true (show r.word ∈ [Str.ofString "nop", Str.ofString "work"] by rw [hnop]; exact List.mem_cons_self)]
                refine iteF ⟨_, rfl, .inr (.inl ⟨a, _, 0, .str r.word, rfl, rfl, same_seqT s9 g2, atI_nat (j := 0) rfl, rfl, _, rfl, ?_⟩)⟩
                show if decide (V.str r.word = V.str "work") = true then _ else _
                rw [ec, decide_eq_false (fun z => absurd (hnop.symm.trans z) (by decide +kernel))]
                refine iteF ?_
                rw [hq] at q
                refine ⟨_, rfl, l, _, rfl, .inl (SqL.of hl9), rfl, flat_strs _, ?_⟩
                rw [in_strs, if_pos rfl]
                refine ⟨_, rfl, ?_⟩
                cases hpk : decide (Str.ofString "pick" ∈ r.words) with
                | false =>
                  have q1 := q _ s9
                  rw [hpk, hsi] at q1
                  exact iteT q1
                | true =>
                  refine iteF ⟨_, rfl, .inr (.inl ⟨a, _, 0, .str r.word, rfl, rfl, (same_seqT s9 g2), atI_nat (j := 0) rfl, by show 2 ≤ sizeLine; decide, fun p4 n4 => ⟨p4, _, rfl, .inr (SqT.of upd_same), rfl, rfl, ?_⟩⟩)⟩
                  have q1 := q _ ((s9).trans (same_upd (o := HO.tup [V.str (Str.ofString "read"), V.str (Str.ofString "reads")]) n4))
                  rw [hpk, hsi] at q1
                  rw [if_neg (by decide)]
                  have e5 : inV (.str r.word) [V.str (Str.ofString "read"), V.str (Str.ofString "reads")] = inD readers (.str r.word) := (in_strs r.word [Str.ofString "read", Str.ofString "reads"]).trans (eqv_pipe (.str r.word) [Str.ofString "read", Str.ofString "reads"]).symm
                  rw [e5]
                  exact q1
              · by_cases hwork : r.word = "work"
                · obtain ⟨b2, hb2, hq⟩ := quiet_work (ds := r.rest) (hwork ▸ hsh)
                  rw [← hwork] at hq
                  obtain ⟨x2, hx2⟩ : ∃ x2 : Unit, xs = [.bl b2] := by
                    rw [hb2] at g4
                    cases g4 with
                    | cons k1 k2 =>
                      cases k1
                      cases k2
                      exact ⟨(), rfl⟩
                  subst hx2
                  rw [decide_eq_true (show r.word ∈ [Str.ofString "nop", Str.ofString "work"] by rw [hwork]; exact List.mem_cons_of_mem _ List.mem_cons_self)]
                  refine iteF ⟨_, rfl, .inr (.inl ⟨a, _, 0, .str r.word, rfl, rfl, same_seqT s9 g2, atI_nat (j := 0) rfl, rfl, _, rfl, ?_⟩)⟩
                  show if decide (V.str r.word = V.str "work") = true then _ else _
                  rw [ec, decide_eq_true hwork]
                  refine iteT ⟨_, rfl, .inr (.inl ⟨a, _, 1, .bl b2, rfl, rfl, same_seqT s9 g2, atI_nat (j := 1) rfl, _, rfl, ?_⟩)⟩
                  cases b2 with
                  | false =>
                    have q1 := q _ s9
                    rw [hsi, hq] at q1
                    exact q1
                  | true =>
                    rw [hq] at q
                    refine ⟨_, rfl, l, _, rfl, .inl (SqL.of hl9), rfl, flat_strs _, ?_⟩
                    rw [in_strs, if_pos rfl]
                    refine ⟨_, rfl, ?_⟩
                    cases hpk : decide (Str.ofString "pick" ∈ r.words) with
                    | false =>
                      have q1 := q _ s9
                      rw [hpk, hsi] at q1
                      exact iteT q1
                    | true =>
                      refine iteF ⟨_, rfl, .inr (.inl ⟨a, _, 0, .str r.word, rfl, rfl, same_seqT s9 g2, atI_nat (j := 0) rfl, by show 2 ≤ sizeLine; decide, fun p4 n4 => ⟨p4, _, rfl, .inr (SqT.of upd_same), rfl, rfl, ?_⟩⟩)⟩
                      have q1 := q _ (s9.trans (same_upd (o := HO.tup [V.str (Str.ofString "read"), V.str (Str.ofString "reads")]) n4))
                      rw [hpk, hsi] at q1
                      rw [if_neg (by decide)]
                      have e5 : inV (.str r.word) [V.str (Str.ofString "read"), V.str (Str.ofString "reads")] = inD readers (.str r.word) := (in_strs r.word [Str.ofString "read", Str.ofString "reads"]).trans (eqv_pipe (.str r.word) [Str.ofString "read", Str.ofString "reads"]).symm
                      rw [e5]
                      exact q1
                · have hq := quiet_no (ds := r.rest) hnop hwork
                  rw [decide_eq_false (show ¬ r.word ∈ [Str.ofString "nop", Str.ofString "work"] by simp; exact ⟨hnop, hwork⟩)]
                  have q1 := q _ s9
                  rw [hsi, hq] at q1
                  exact iteT q1
      | false =>
        have hhl : (decide (Str.ofString "hard" ∈ r.words) && decide (Str.ofString "link" ∈ r.words)) = false := by rw [hh]; rfl
        refine iteF ?_
        have e3 : flagsA r.word r.rest r.words = mayAllA r.word r.rest r.words := by
          show ((ascS r.words && !(decide (Str.ofString "hard" ∈ r.words) && decide (Str.ofString "link" ∈ r.words))) && mayAllA r.word r.rest r.words) = _
          rw [hasc, hhl]
          rfl
        rw [e3] at q
        refine ⟨_, rfl, .inr (.inl ⟨a, _, 0, .str r.word, rfl, rfl, same_seqT s8 g2, atI_nat (j := 0) rfl, rfl, _, rfl, ?_⟩)⟩
        show if decide (V.str r.word = V.str "linktimeout") = true then _ else _
        rw [ec]
        by_cases hlt : r.word = "linktimeout"
        · rw [decide_eq_true hlt]
          refine iteT ⟨_, rfl, by show 0 ≤ sizeLine; decide, fun t nt => ⟨.list (r.words.map PyData.str), .list [], .lst (SqL.of (same_upd nt _ _ hl8)) (dps_strs _), .lst (SqL.of upd_same) .nil, shaped_texts okS, shaped_nilL, ?_⟩⟩
          rw [eqv_nil]
          have q1 := q _ (s8.trans (same_upd (o := HO.lst []) nt))
          have em : mayAllA r.word r.rest r.words = r.words.isEmpty := by
            unfold mayAllA
            rw [if_pos hlt]
            cases r.words <;> rfl
          rw [em] at q1
          exact q1
        · rw [decide_eq_false hlt]
          have em : mayAllA r.word r.rest r.words = ((!decide (Str.ofString "silent" ∈ r.words) || inD quiets (.tuple (.str r.word :: r.rest))) && (!decide (Str.ofString "pick" ∈ r.words) || inD readers (.str r.word))) := by
            unfold mayAllA
            rw [if_neg hlt]
          rw [em] at q
          refine iteF ⟨_, rfl, l, _, rfl, .inl (SqL.of hl8), rfl, flat_strs _, ?_⟩
          rw [in_strs, if_neg (by decide)]
          refine ⟨_, rfl, ?_⟩
          cases hsi : decide (Str.ofString "silent" ∈ r.words) with
          | false =>
            refine iteF ?_
            refine ⟨_, rfl, l, _, rfl, .inl (SqL.of hl8), rfl, flat_strs _, ?_⟩
            rw [in_strs, if_pos rfl]
            refine ⟨_, rfl, ?_⟩
            cases hpk : decide (Str.ofString "pick" ∈ r.words) with
            | false =>
              have q1 := q _ s8
              rw [hpk, hsi] at q1
              exact iteT q1
            | true =>
              refine iteF ⟨_, rfl, .inr (.inl ⟨a, _, 0, .str r.word, rfl, rfl, (same_seqT s8 g2), atI_nat (j := 0) rfl, by show 2 ≤ sizeLine; decide, fun p4 n4 => ⟨p4, _, rfl, .inr (SqT.of upd_same), rfl, rfl, ?_⟩⟩)⟩
              have q1 := q _ ((s8).trans (same_upd (o := HO.tup [V.str (Str.ofString "read"), V.str (Str.ofString "reads")]) n4))
              rw [hpk, hsi] at q1
              rw [if_neg (by decide)]
              have e5 : inV (.str r.word) [V.str (Str.ofString "read"), V.str (Str.ofString "reads")] = inD readers (.str r.word) := (in_strs r.word [Str.ofString "read", Str.ofString "reads"]).trans (eqv_pipe (.str r.word) [Str.ofString "read", Str.ofString "reads"]).symm
              rw [e5]
              exact q1
          | true =>
            refine iteT ⟨_, rfl, .inr (.inl ⟨a, _, 0, .str r.word, rfl, rfl, same_seqT s8 g2, atI_nat (j := 0) rfl, by show 2 ≤ sizeLine; decide, fun p3 n3 => ⟨p3, _, rfl, .inr (SqT.of upd_same), rfl, rfl, ?_⟩⟩)⟩
            have sp3 := same_upd (o := HO.tup [V.str (Str.ofString "nop"), V.str (Str.ofString "work")]) n3
            have s9 := s8.trans sp3
            have hl9 := sp3 _ _ hl8
            have e4 : inV (.str r.word) [V.str (Str.ofString "nop"), V.str (Str.ofString "work")] = decide (r.word ∈ [Str.ofString "nop", Str.ofString "work"]) := in_strs r.word [Str.ofString "nop", Str.ofString "work"]
            rw [if_pos rfl, e4]
            refine ⟨_, rfl, ?_⟩
            by_cases hnop : r.word = "nop"
            · have hq := quiet_nop (ds := r.rest) (hnop ▸ hsh)
              rw [← hnop] at hq
              rw [decide_eq_true (show r.word ∈ [Str.ofString "nop", Str.ofString "work"] by rw [hnop]; exact List.mem_cons_self)]
              refine iteF ⟨_, rfl, .inr (.inl ⟨a, _, 0, .str r.word, rfl, rfl, same_seqT s9 g2, atI_nat (j := 0) rfl, rfl, _, rfl, ?_⟩)⟩
              show if decide (V.str r.word = V.str "work") = true then _ else _
              rw [ec, decide_eq_false (fun z => absurd (hnop.symm.trans z) (by decide +kernel))]
              refine iteF ?_
              rw [hq] at q
              refine ⟨_, rfl, l, _, rfl, .inl (SqL.of hl9), rfl, flat_strs _, ?_⟩
              rw [in_strs, if_pos rfl]
              refine ⟨_, rfl, ?_⟩
              cases hpk : decide (Str.ofString "pick" ∈ r.words) with
              | false =>
                have q1 := q _ s9
                rw [hpk, hsi] at q1
                exact iteT q1
              | true =>
                refine iteF ⟨_, rfl, .inr (.inl ⟨a, _, 0, .str r.word, rfl, rfl, (same_seqT s9 g2), atI_nat (j := 0) rfl, by show 2 ≤ sizeLine; decide, fun p4 n4 => ⟨p4, _, rfl, .inr (SqT.of upd_same), rfl, rfl, ?_⟩⟩)⟩
                have q1 := q _ ((s9).trans (same_upd (o := HO.tup [V.str (Str.ofString "read"), V.str (Str.ofString "reads")]) n4))
                rw [hpk, hsi] at q1
                rw [if_neg (by decide)]
                have e5 : inV (.str r.word) [V.str (Str.ofString "read"), V.str (Str.ofString "reads")] = inD readers (.str r.word) := (in_strs r.word [Str.ofString "read", Str.ofString "reads"]).trans (eqv_pipe (.str r.word) [Str.ofString "read", Str.ofString "reads"]).symm
                rw [e5]
                exact q1
            · by_cases hwork : r.word = "work"
              · obtain ⟨b2, hb2, hq⟩ := quiet_work (ds := r.rest) (hwork ▸ hsh)
                rw [← hwork] at hq
                obtain ⟨x2, hx2⟩ : ∃ x2 : Unit, xs = [.bl b2] := by
                  rw [hb2] at g4
                  cases g4 with
                  | cons k1 k2 =>
                    cases k1
                    cases k2
                    exact ⟨(), rfl⟩
                subst hx2
                rw [decide_eq_true (show r.word ∈ [Str.ofString "nop", Str.ofString "work"] by rw [hwork]; exact List.mem_cons_of_mem _ List.mem_cons_self)]
                refine iteF ⟨_, rfl, .inr (.inl ⟨a, _, 0, .str r.word, rfl, rfl, same_seqT s9 g2, atI_nat (j := 0) rfl, rfl, _, rfl, ?_⟩)⟩
                show if decide (V.str r.word = V.str "work") = true then _ else _
                rw [ec, decide_eq_true hwork]
                refine iteT ⟨_, rfl, .inr (.inl ⟨a, _, 1, .bl b2, rfl, rfl, same_seqT s9 g2, atI_nat (j := 1) rfl, _, rfl, ?_⟩)⟩
                cases b2 with
                | false =>
                  have q1 := q _ s9
                  rw [hsi, hq] at q1
                  exact q1
                | true =>
                  rw [hq] at q
                  refine ⟨_, rfl, l, _, rfl, .inl (SqL.of hl9), rfl, flat_strs _, ?_⟩
                  rw [in_strs, if_pos rfl]
                  refine ⟨_, rfl, ?_⟩
                  cases hpk : decide (Str.ofString "pick" ∈ r.words) with
                  | false =>
                    have q1 := q _ s9
                    rw [hpk, hsi] at q1
                    exact iteT q1
                  | true =>
                    refine iteF ⟨_, rfl, .inr (.inl ⟨a, _, 0, .str r.word, rfl, rfl, same_seqT s9 g2, atI_nat (j := 0) rfl, by show 2 ≤ sizeLine; decide, fun p4 n4 => ⟨p4, _, rfl, .inr (SqT.of upd_same), rfl, rfl, ?_⟩⟩)⟩
                    have q1 := q _ (s9.trans (same_upd (o := HO.tup [V.str (Str.ofString "read"), V.str (Str.ofString "reads")]) n4))
                    rw [hpk, hsi] at q1
                    rw [if_neg (by decide)]
                    have e5 : inV (.str r.word) [V.str (Str.ofString "read"), V.str (Str.ofString "reads")] = inD readers (.str r.word) := (in_strs r.word [Str.ofString "read", Str.ofString "reads"]).trans (eqv_pipe (.str r.word) [Str.ofString "read", Str.ofString "reads"]).symm
                    rw [e5]
                    exact q1
              · have hq := quiet_no (ds := r.rest) hnop hwork
                rw [decide_eq_false (show ¬ r.word ∈ [Str.ofString "nop", Str.ofString "work"] by simp; exact ⟨hnop, hwork⟩)]
                have q1 := q _ s9
                rw [hsi, hq] at q1
                exact iteT q1
    · rw [decide_eq_false e9]
      have hasc : ascS r.words = false := by
        cases hx : ascS r.words with
        | false => rfl
        | true => exact absurd (iff.mpr hx) e9
      have e3 : flagsA r.word r.rest r.words = false := by
        show ((ascS r.words && !(decide (Str.ofString "hard" ∈ r.words) && decide (Str.ofString "link" ∈ r.words))) && mayAllA r.word r.rest r.words) = _
        rw [hasc]
        rfl
      have q1 := q _ s8
      rw [e3] at q1
      exact iteT q1
end
end KV

namespace PySem
open Sem (wp)
/-- enumerate(v) is made, of anything whose iterator begins so -/
theorem enum_new1 {v : Value} {o : Obj} {Hv : Heap → Prop} (B : Begins v o Hv) :
    Meets (Builtin.«enumerate.__new__» ⟨[.type "enumerate", v], []⟩) (fun _ R s =>
      Hv s.heap ∧ R (.ok (.ret (.ref (s.heap.push o).objs.size)))
        { s with heap := (s.heap.push o).push ⟨.type "enumerate", none, .fields #[.none, .bool false, .ref s.heap.objs.size, rawInt 0, .none, .none], #[]⟩ }) :=
  .of_wp fun prog w A R s h => by
    obtain ⟨hh, gg, dd, tt, oo⟩ := s
    obtain ⟨hv, hr⟩ := h
    have hsub := sub_enumerate
    have begin_ : ∀ {A' : Around} {E Q : Value → Shared → Prop}, Q (.ref hh.objs.size) ⟨hh.push o, gg, dd, tt, oo⟩ → wpAny (model prog w) A' (pyIter v) Q E ⟨hh, gg, dd, tt, oo⟩ := fun z =>
      B.iter prog w _ _ ⟨hh, gg, dd, tt, oo⟩ _ hv z
    wp_walk using begin_
    refine wpAny_stack_any fun st => wpAny_pure ?_
    split
    · rename_i c _ _ _ _ _
      cases (c == Value.type "enumerate") <;> (wp_walk using begin_; exact ⟨_, rfl, hr⟩)
    · wp_walk using begin_
      exact ⟨_, rfl, hr⟩
theorem call_enum1 {prog : Program} {w : World} {A : Around} {E : Value → Shared → Prop} {s : Shared} {v : Value} {o : Obj} {Hv : Heap → Prop} {Q : Value → Shared → Prop} (B : Begins v o Hv) (hv : Hv s.heap)
    (h : ∀ h', IsEnum h' (s.heap.objs.size + 1) s.heap.objs.size 0 .none → h'.get? s.heap.objs.size = some o →
      (∀ b ob, s.heap.get? b = some ob → h'.get? b = some ob) → Q (.ref (s.heap.objs.size + 1)) { s with heap := h' }) :
    wpAny (model prog w) A (call (.type "enumerate") [v]) Q E s := by
  refine callType_new F.called_enumerate (by decide) (F.typeCall_enumerate_1 _) (F.newCall_enumerate_1 _) (fun obj => F.args_object_init_2 obj _) F.entry_enumerate_new (enum_new1 B) ⟨hv, ?_⟩
  have size1 : (s.heap.push o).objs.size = s.heap.objs.size + 1 := Heap.size_push ..
  show _ ∧ _
  rw [size1]
  have here : IsEnum ((s.heap.push o).push ⟨.type "enumerate", none, .fields #[.none, .bool false, .ref s.heap.objs.size, rawInt 0, .none, .none], #[]⟩) (s.heap.objs.size + 1) s.heap.objs.size 0 .none := by
    have z := Heap.get?_push_size (s.heap.push o) (o := ⟨.type "enumerate", none, .fields #[.none, .bool false, .ref s.heap.objs.size, rawInt 0, .none, .none], #[]⟩) rfl
    rw [size1] at z
    exact z
  exact ⟨⟨_, here, rfl⟩, h _ here (Heap.get?_push_of_some _ (Heap.get?_push_size _ B.free)) fun b ob x => Heap.get?_push_of_some _ (Heap.get?_push_of_some _ x)⟩
end PySem
namespace KV
open PySem PySem.Spec PyProof.Rows L2 RZ
/-- enumerate over the tuple at a: at each turn a new pair -/
def IteT (K : PySem.W.Frag) (a : Addr) : L2.It where
  go := fun i H => ∃ xs x, SqT K H a xs ∧ xs[i]? = some x
  yld := fun i H v H' => ∃ T x, v = .ref T ∧ H T = none ∧ H' = upd H T (.tup [.int (i : Nat), x]) ∧ ∀ xs, SqT K H a xs → xs[i]? = some x
  stop := fun i H => ∃ xs, SqT K H a xs ∧ xs.length = i
theorem turn_enumT {P : Program} {w : World} {K : PySem.W.Frag} {elts : List Expr} {kk : Nat} {tpos : Pos} (a e it : Addr) (hae : a ≠ it) (hea : e ≠ a) :
    Turn P w K (.Tuple elts kk tpos) (IteT K a) [e, it] e (fun i h => (∃ old, IsEnum h e it ((i : Nat) : Int) old) ∧ h.IsTupleIter it a i ∧ e ≠ it) where
  mem := by simp
  obj := fun i h st b hb => by
    obtain ⟨⟨old, he⟩, ⟨o, ho, hc, hd⟩, _⟩ := st
    rcases (show b = e ∨ b = it by simpa using hb) with z | z
    · subst z
      exact ⟨_, he, fun v q => nomatch q⟩
    · subst z
      exact ⟨o, ho, fun v q => by rw [hd] at q; cases q⟩
  keep := fun i h h' st k => by
    obtain ⟨⟨old, he⟩, hi, hne⟩ := st
    exact ⟨⟨old, k e (by simp) _ he⟩, hi.at fun o q => k it (by simp) o q, hne⟩
  item := by
    intro X hP hw hK hc i pins s σ H E I hf st hg
    subst hP hw hK
    obtain ⟨⟨old, he⟩, hit, hne⟩ := st
    obtain ⟨xs, x, hq, hx⟩ := hg
    obtain ⟨its, rv, p, hz⟩ := I.tuple hq
    obtain ⟨u, hu, ru⟩ := rv.get hx
    have le : e < s.heap.objs.size := Heap.lt_size he
    have li : it < s.heap.objs.size := by
      obtain ⟨_, q, _⟩ := hit
      exact Heap.lt_size q
    have hlt : i < its.toArray.size := by
      have h1 := (List.getElem?_eq_some_iff.mp hu).1
      simpa using h1
    refine wpAny_pyNext_enum_itemD (Draws.tuple (prog := X.prog) (w := X.w) (A := X.A.in1) (I.ok.hd hc) it a hae its.toArray) he ⟨hit, (show s.heap.IsTuple a its.toArray from p)⟩ hlt hne
      (fun z => by
        rcases List.mem_cons.mp z with z | z
        · exact hne z
        · exact hea (List.mem_singleton.mp z)) fun u' h' tk hu' ho hst hT hsz hk => ?_
    have eu : u' = u := by
      have h1 : its.toArray[i]? = some u := by simpa using hu
      rw [h1] at hu'
      exact (Option.some.inj hu').symm
    subst eu
    refine ⟨_, rfl, wpAny_letOwnedTupleGo_enum (s := { s with heap := h', toks := tk + 1 }) ho fun h'' he' sb => ?_⟩
    have hT2 : h''.get? s.heap.objs.size = some { cls := .type "tuple", data := .seq #[.int i tk, u'] } := (sb.2 _ (Nat.ne_of_gt le)).trans hT
    have new : ObjOk X.prog X.w (upd H s.heap.objs.size (.tup [.int (i : Nat), x])) h'' s.heap.objs.size (.tup [.int (i : Nat), x]) :=
      ⟨by show 2 ≤ sizeLine; decide, [.int i tk, u'], .cons ⟨_, rfl⟩ (.cons ru .nil), ⟨_, hT2, rfl, _, rfl⟩⟩
    have I1 : Inv X pins σ (upd H s.heap.objs.size (.tup [.int (i : Nat), x])) { s with heap := h'', toks := tk + 1 } :=
      I.turnedNew (ch := [e, it]) (fun b ob hb q => (sb.2 b (fun z => hb (by simp [z]))).trans (hk b ob (fun z => hb (by simp [z])) (fun z => hb (by simp [z])) q)) hf (Nat.le_refl _) new
    refine ⟨.ref s.heap.objs.size, _, I1, rfl, ⟨_, x, rfl, I.hok.fresh (Nat.le_refl _), rfl, fun ys hy => ?_⟩, ⟨⟨u', ?_⟩, hst.1.at fun o q => (sb.2 it (Ne.symm hne)).trans q, hne⟩, fun b hb => ?_⟩
    · rw [I.tuple_inj hy hq]
      exact hx
    · have e1 : ((i + 1 : Nat) : Int) = (i : Int) + 1 := by omega
      rw [e1]
      exact he'
    · have hb' : b < s.heap.objs.size := by
        rcases (show b = e ∨ b = it by simpa using hb) with z | z
        · rw [z]; exact le
        · rw [z]; exact li
      rw [upd_ne (Nat.ne_of_lt hb')]
      exact (hf b hb).1
  done := by
    intro X hP hw hK hc i pins s σ H E I hf st hg
    subst hP hw hK
    obtain ⟨⟨old, he⟩, hit, hne⟩ := st
    obtain ⟨xs, hq, hx⟩ := hg
    obtain ⟨its, rv, p, hz⟩ := I.tuple hq
    obtain ⟨f0, f1, f2, f3, f4, f5⟩ := hf it (by simp)
    have hl := rv.length
    have en : i = its.toArray.size := by
      rw [List.size_toArray]
      omega
    subst en
    exact wpAny_pyNext_enum_endD (Draws.tuple (prog := X.prog) (w := X.w) (A := X.A.in1) (I.ok.hd hc) it a hae its.toArray) he ⟨hit, (show s.heap.IsTuple a its.toArray from p)⟩ fun h' eb =>
      ⟨rfl, I.turned (t' := s.toks) (fun b o hb q => eb b o hb q) f0 f1 f3 f4 f5⟩
  self := fun A i s Q E st h => let ⟨⟨_, he⟩, _⟩ := st; wpAny_pyIter_enum he h
def iEnumT (K : PySem.W.Frag) (ta : TA) : TI := fun σ H R => ta σ H fun vs H1 => ∃ a xs, vs = [.ref a] ∧ SqT K H1 a xs ∧ R (IteT K a) H1
theorem pi_enumT {X : Cx} {e : Expr} {ta : TA} {p pos tpos : Pos} {elts : List Expr} {kk : Nat} (hg : Gl X "enumerate") (hm : X.mg "enumerate" = none) (ha : PA X [e] ta) (hs : starEach [e] X.env = [(false, eval e X.env)] := by rfl) :
    PI X (.Tuple elts kk tpos) (.Call (.Name "enumerate" p) [e] [] pos) (iEnumT X.K ta) := by
  refine ⟨fun pins s σ H R I h => Call_ (ld_blt I hg hm boot_enumerate (PyProof.Rows.callWith_type1 (thn (ha.run pos pins s σ H _ I h) fun us s1 hv => ?_) hs rfl))⟩
  obtain ⟨vs, H1, I1, r1, a, xs, rfl, hq, q⟩ := hv
  cases r1 with
  | cons r rr =>
    cases rr
    cases r
    obtain ⟨its, rv, p', hz⟩ := I1.tuple hq
    have la : a < s1.heap.objs.size := by
      obtain ⟨o, ho, _⟩ := p'
      exact Heap.lt_size ho
    refine call_enum1 (begins_tuple a its.toArray) (show s1.heap.IsTuple a its.toArray from p') fun h' he hit hk => wpAny_pyIter_enum he ?_
    have I2 : Inv X pins σ H1 { s1 with heap := h' } := I1.kept (t' := s1.toks) hk
    refine ⟨s1.heap.objs.size + 1, [s1.heap.objs.size + 1, s1.heap.objs.size], _, _, H1, rfl, I2, turn_enumT a (s1.heap.objs.size + 1) s1.heap.objs.size (Nat.ne_of_lt la) (Nat.ne_of_gt (Nat.lt_succ_of_lt la)), ⟨⟨.none, he⟩, ⟨_, hit, rfl, rfl⟩, Nat.succ_ne_self _⟩, fun b hb => ?_, q⟩
    have hle : s1.heap.objs.size ≤ b := by
      rcases (show b = s1.heap.objs.size + 1 ∨ b = s1.heap.objs.size by simpa using hb) with z | z
      · rw [z]; exact Nat.le_add_right _ _
      · rw [z]; exact Nat.le_refl _
    exact I1.fpOk hle (I1.hok.fresh hle)
theorem walk_enumT {K : PySem.W.Frag} {a : Addr} {xs : List V} : Walk (IteT K a) xs.length (fun H => SqT K H a xs) (YPair (fun i => some (.int (i : Nat))) (fun i => xs[i]?)) := by
  refine ⟨fun i _ hi q => ⟨xs, xs[i], q, by simp [hi]⟩, fun _ q => ⟨xs, q, rfl⟩, fun i H v H' _ q y => ?_⟩
  obtain ⟨T, x, h1, h2, h3, h4⟩ := y
  exact ⟨T, .int (i : Nat), x, h1, h2, h3, rfl, h4 xs q⟩
end KV

namespace KV
open PySem PySem.Spec PyProof.Rows L2 RZ
abbrev sShapes : Stmt := topS 49
/-! ### d.update(d2) -/
section
variable {X : Cx} {pins : List (Addr × Obj)} {σ : L2.St} {H : Hp} {s : Shared} {a b : Addr} {kvs more : List (Key × V)} {A : Around} {E : Value → Shared → Prop}
theorem d_update {Q : Value → Shared → Prop} (I : Inv X pins σ H s) (e : H a = some (.dK kvs)) (e2 : Rd H b (.dK more)) (hab : a ≠ b) (hz : kvs.length + more.length ≤ sizeLine)
    (h : ∀ s', Inv X pins σ (upd H a (.dK (mergeK kvs more))) s' → Q .none s') : wpAny (model X.prog X.w) A (call (.builtin "dict.update") [.ref a, .ref b]) Q E s := by
  obtain ⟨z, hd, vs, rel, dd⟩ := dk_of I.hok e
  obtain ⟨z2, hd2, vs2, rel2, dd2⟩ := dk_rd I.hok e2
  refine call_meetsIn PySem.F.slot_dict_update dd.typeIs PySem.F.entry_dict_update (PySem.F.args_dict_update_2 _ _) (meets_dict_update (mixKind X.prog X.w) a b hab hd2)
    ⟨vs, vs2, dd, dd2, by rw [← rel.length, ← rel2.length]; exact hz, fun h' dd' _ hs => h _ ?_⟩
  have he : ∃ q, h'.get? a = some q := let ⟨q, _, _, hq, _⟩ := dd'; ⟨q, hq⟩
  exact d_write (t' := s.toks) I (by rw [e]; exact True.intro) hs he (dk_new (by have := length_mergeK more kvs; omega) hd (L2.KV.merge rel2 rel) dd')
end
def tDUpd (td ty : TE) : TE := fun σ H Q => td σ H fun x H1 => ∃ a, x = .ref a ∧ IsD H1 a ∧ ty σ H1 fun y H2 => ∃ b kvs more, y = .ref b ∧ H2 a = some (.dK kvs) ∧ Rd H2 b (.dK more) ∧ a ≠ b ∧ kvs.length + more.length ≤ sizeLine ∧ Q .non (upd H2 a (.dK (mergeK kvs more)))
theorem pe_dupd {X : Cx} {o e : Expr} {apos cpos : Pos} {td ty : TE} (ho : PE X o td) (he : PE X e ty) (m : M1 X o "update" apos e cpos) : PE X (.Call (.Attribute o "update" apos) [e] [] cpos) (tDUpd td ty) := by
  refine ⟨fun pins s σ H Q I h => ?_⟩
  refine wpAny_Call_method m.base m.few m.line PySem.F.plainAttrs_dict PySem.F.slot_dict_update PySem.F.type_dict_update (thn (ho.run pins s σ H _ I h) fun u s1 ⟨x, H1, I1, rx, a, ex, d, q1⟩ => ?_)
  subst ex
  obtain rfl : u = Value.ref a := rx
  obtain ⟨t1, t2, _⟩ := isD_at I1 d
  refine ⟨t1, t2, ?_⟩
  rw [m.trees]
  refine Calls.callWith_builtin rfl (Calls.evalArgs_plain (Calls.spliced_cons (thn (he.run pins s1 σ H1 _ I1 q1) fun iv s2 ⟨y, H2, I2, ry, b, kvs, more, ey, ea, eb, hab, hz, q2⟩ => Calls.spliced_nil ?_)))
  subst ey
  obtain rfl : iv = Value.ref b := ry
  exact d_update I2 ea eb hab hz fun s3 I3 => ⟨.non, _, I3, rfl, q2⟩
/-! ### _law_shapes -/
def law7 : List (Key × V) := [(.inr "nop", .str ""), (.inr "work", .str "b"), (.inr "read", .str "wm"), (.inr "reads", .str "wm"), (.inr "write", .str "wt"), (.inr "shut", .str "w"), (.inr "timeout", .str "p")]
def law4 : List (Key × V) := [(.inr "linktimeout", .str "p"), (.inr "cancel", .str "n"), (.inr "cancelall", .str ""), (.inr "update", .str "po")]
def lawAll : List (Key × V) := law7 ++ law4
theorem merge7 : mergeK [] law7 = law7 := by rfl
theorem merge4 : mergeK [] law4 = law4 := by rfl
theorem mergeAll : mergeK law7 law4 = lawAll := by rfl
def lawStr (z : Str) : Option Str :=
  if z = "nop" then some "" else if z = "work" then some "b" else if z = "read" then some "wm" else if z = "reads" then some "wm"
  else if z = "write" then some "wt" else if z = "shut" then some "w" else if z = "timeout" then some "p" else if z = "linktimeout" then some "p"
  else if z = "cancel" then some "n" else if z = "cancelall" then some "" else if z = "update" then some "po" else none
theorem law_val (z : Str) : valV lawAll (.inr z) = (lawStr z).map V.str := by
  have key : ∀ (t : Str) (v : V) (r : List (Key × V)) (o : Option Str), (valV r (.inr z) = o.map V.str) → ∀ u : Str, v = V.str u → valV ((.inr t, v) :: r) (.inr z) = (if z = t then some u else o).map V.str := by
    intro t v r o h u e
    by_cases hz : z = t
    · rw [if_pos hz, hz, valV_pos rfl, e]
      rfl
    · rw [if_neg hz, valV_neg (fun y => hz (Sum.inr.inj y).symm), h]
  unfold lawStr
  exact key _ _ _ _ (key _ _ _ _ (key _ _ _ _ (key _ _ _ _ (key _ _ _ _ (key _ _ _ _ (key _ _ _ _ (key _ _ _ _ (key _ _ _ _ (key _ _ _ _ (key _ _ _ _ rfl _ rfl) _ rfl) _ rfl) _ rfl) _ rfl) _ rfl) _ rfl) _ rfl) _ rfl) _ rfl) _ rfl
/-- the letters of a text, each a text -/
def lettersS (t : Str) : List Str := t.cps.toList.map fun c => ⟨#[c]⟩
theorem law_str (z : Str) : (lawStr z = none ∧ lawTab z = none) ∨ ∃ t ls, lawStr z = some t ∧ lawTab z = some ls ∧ lettersS t = ls ∧ (∀ y ∈ ls, okL y) ∧ t.length ≤ 2 := by
  have go : ∀ (w t : Str) (ls : List Str) (o : Option Str) (p : Option (List Str)), lettersS t = ls → (∀ y ∈ ls, okL y) → t.length ≤ 2 →
      ((o = none ∧ p = none) ∨ ∃ t ls, o = some t ∧ p = some ls ∧ lettersS t = ls ∧ (∀ y ∈ ls, okL y) ∧ t.length ≤ 2) →
      (((if z = w then some t else o) = none ∧ (if z = w then some ls else p) = none) ∨ ∃ t' ls', (if z = w then some t else o) = some t' ∧ (if z = w then some ls else p) = some ls' ∧ lettersS t' = ls' ∧ (∀ y ∈ ls', okL y) ∧ t'.length ≤ 2) := by
    intro w t ls o p h1 h2 h3 h4
    by_cases hz : z = w
    · rw [if_pos hz, if_pos hz]
      exact .inr ⟨t, ls, rfl, rfl, h1, h2, h3⟩
    · rw [if_neg hz, if_neg hz]
      exact h4
  unfold lawStr lawTab
  have o0 : ∀ y ∈ ([] : List Str), okL y := fun y hy => absurd hy List.not_mem_nil
  have ob : ∀ y ∈ (["b"] : List Str), okL y := by unfold okL; simp
  have om : ∀ y ∈ (["w", "m"] : List Str), okL y := by unfold okL; simp
  have ot : ∀ y ∈ (["w", "t"] : List Str), okL y := by unfold okL; simp
  have ow : ∀ y ∈ (["w"] : List Str), okL y := by unfold okL; simp
  have op : ∀ y ∈ (["p"] : List Str), okL y := by unfold okL; simp
  have on : ∀ y ∈ (["n"] : List Str), okL y := by unfold okL; simp
  have oo : ∀ y ∈ (["p", "o"] : List Str), okL y := by unfold okL; simp
  have d : ∀ {t : Str} {ls : List Str}, (decide (lettersS t = ls) && decide (t.length ≤ 2)) = true → lettersS t = ls ∧ t.length ≤ 2 := by
    intro t ls h
    rw [Bool.and_eq_true, decide_eq_true_eq, decide_eq_true_eq] at h
    exact h
  have d0 := d (t := "") (ls := []) (by decide +kernel)
  have db := d (t := "b") (ls := ["b"]) (by decide +kernel)
  have dm := d (t := "wm") (ls := ["w", "m"]) (by decide +kernel)
  have dt := d (t := "wt") (ls := ["w", "t"]) (by decide +kernel)
  have dw := d (t := "w") (ls := ["w"]) (by decide +kernel)
  have dp := d (t := "p") (ls := ["p"]) (by decide +kernel)
  have dn := d (t := "n") (ls := ["n"]) (by decide +kernel)
  have do_ := d (t := "po") (ls := ["p", "o"]) (by decide +kernel)
  exact go _ _ _ _ _ d0.1 o0 d0.2 (go _ _ _ _ _ db.1 ob db.2 (go _ _ _ _ _ dm.1 om dm.2 (go _ _ _ _ _ dm.1 om dm.2 (go _ _ _ _ _ dt.1 ot dt.2 (go _ _ _ _ _ dw.1 ow dw.2 (go _ _ _ _ _ dp.1 op dp.2 (go _ _ _ _ _ dp.1 op dp.2 (go _ _ _ _ _ dn.1 on dn.2 (go _ _ _ _ _ d0.1 o0 d0.2 (go _ _ _ _ _ do_.1 oo do_.2 (.inl ⟨rfl, rfl⟩)))))))))))
section
variable {P : Program} {w : World} {K : PySem.W.Frag} {mg : Str → Option Value} {base : Heap}
def spShapes : Sp := fun vs H Q _ => vs = [] ∧ ∀ p H', Same H H' → H' p = some (.dK lawAll) → Q (.ref p) H'
theorem scShapes : FnScope ["_law_found"] [] (defScope sShapes) :=
  ⟨rfl, rfl, rfl, by decide +kernel, rfl, by decide +kernel, by decide +kernel⟩
theorem ok_shapes {f : Addr} {fd : FuncData} {k : Nat} (F : Fun K "_law_shapes" "_law_shapes" sShapes f fd) : FnOk P w K mg base CX0 (k + 1) f fd [] spShapes := by
  refine F.ok scShapes (fun vs H Q E h => ?_) (fun cdv A outer s H vs Q E hr h => ?_)
  · obtain ⟨rfl, _⟩ := h
    rfl
  · obtain ⟨rfl, q⟩ := h
    refine ⟨_, pss_cons (ps_set (i := 0) scShapes.nd rfl (.inl rfl) (pe_disp (pps_cons pe_str pe_str (pps_cons pe_str pe_str (pps_cons pe_str pe_str (pps_cons pe_str pe_str (pps_cons pe_str pe_str (pps_cons pe_str pe_str (pps_cons pe_str pe_str pps_nil))))))) (by rfl) (by rfl) (fun z => by cases z) (by decide)))
      (pss_cons (ps_expr (pe_dupd (pv 0) (pe_disp (pps_cons pe_str pe_str (pps_cons pe_str pe_str (pps_cons pe_str pe_str (pps_cons pe_str pe_str pps_nil)))) (by rfl) (by rfl) (fun z => by cases z) (by decide)) ⟨rfl, rfl, rfl, rfl⟩))
      (pss_one (ps_ret (pv 0)))), ?_⟩
    intro p np
    refine ⟨upd_same, law7, rfl, by decide, ?_⟩
    rw [merge7]
    have s1 : Same H (upd (upd H p (.dK [])) p (.dK law7)) := fun c o e => by
      have hc := ne_of_none e np
      rw [upd_ne hc, upd_ne hc]
      exact e
    have h7 : (upd (upd H p (.dK [])) p (.dK law7)) p = some (.dK law7) := upd_same
    generalize upd (upd H p (.dK [])) p (.dK law7) = H1 at s1 h7
    refine ⟨_, rfl, p, rfl, .inl ⟨_, .inl h7⟩, fun p2 np2 => ⟨upd_same, law4, rfl, by decide, ?_⟩⟩
    rw [merge4]
    have hne : p ≠ p2 := ne_of_none h7 np2
    refine ⟨p2, law7, law4, rfl, ?_, .inl upd_same, hne, by decide, ?_⟩
    · rw [upd_ne hne, upd_ne hne]
      exact h7
    · rw [mergeAll]
      refine ⟨_, rfl, q p _ (fun c o e => ?_) upd_same⟩
      have hc := ne_of_none e np
      have hc2 := ne_of_none (s1 c o e) np2
      rw [upd_ne hc, upd_ne hc2, upd_ne hc2]
      exact s1 c o e
end
end KV

namespace KV
open PySem PySem.Spec PyProof.Rows L2 RZ
abbrev sShaped : Stmt := topS 48
theorem shaped_none {d : PyData} (h : lawTab (wordOfD d) = none) : shapedD d = false := by
  unfold shapedD
  rw [h]
theorem shaped_some {w : Str} {ds : List PyData} {ls : List Str} (h : lawTab w = some ls) : shapedD (.tuple (.str w :: ds)) = fitAllD ls ds := by
  unfold shapedD
  have e : wordOfD (.tuple (.str w :: ds)) = w := rfl
  rw [e, h]
theorem lawTab_empty : lawTab Str.empty = none := by decide +kernel
theorem letters_len (t : Str) : (lettersS t).length = t.length := by
  unfold lettersS
  rw [List.length_map]
  rfl
theorem fit_range (ls : List Str) (ds : List PyData) (h : ds.length = ls.length) : ((List.range ls.length).all fun j => match ls[j]?, ds[j]? with | some z, some d => fitsD z d | _, _ => true) = fitAllD ls ds := by
  unfold fitAllD
  rw [decide_eq_true h, Bool.true_and, Bool.eq_iff_iff, List.all_eq_true, List.all_eq_true]
  constructor
  · intro g b hb
    obtain ⟨j, hj, e⟩ := List.mem_iff_getElem.mp hb
    rw [List.length_zipWith] at hj
    have z := g j (List.mem_range.mpr (by omega))
    rw [List.getElem?_eq_getElem (show j < ls.length by omega), List.getElem?_eq_getElem (show j < ds.length by omega)] at z
    rw [List.getElem_zipWith] at e
    rw [← e]
    exact z
  · intro g j hj
    have hj := List.mem_range.mp hj
    rw [List.getElem?_eq_getElem hj, List.getElem?_eq_getElem (show j < ds.length by omega)]
    refine g _ (List.mem_iff_getElem.mpr ⟨j, by rw [List.length_zipWith]; omega, ?_⟩)
    rw [List.getElem_zipWith]
    rfl
section
variable {P : Program} {w : World} {K : PySem.W.Frag} {mg : Str → Option Value} {base : Heap}
def spShaped (K : PySem.W.Frag) : Sp := fun vs H Q _ => ∃ (p : Addr) (v : V) (d : PyData), vs = [.ref p, v] ∧ H p = some (.dK lawAll) ∧ Dp K H v d ∧ fineD d ∧ ∀ H', Same H H' → Q (.bl (shapedD d)) H'
abbrev nShaped : List Str := ["_law_shapes_so", "_law_matter", "_law_kinds_so", "_law_k"]
theorem scShaped : FnScope nShaped ["_law_shapes_so", "_law_matter"] (defScope sShaped) :=
  ⟨rfl, rfl, rfl, by decide +kernel, rfl, by decide +kernel, by decide +kernel⟩
theorem ok_shaped {f fF : Addr} {fd fdF : FuncData} {k : Nat} (F : Fun K "_law_shaped" "_law_shaped" sShaped f fd)
    (FF : Fun K "_law_part_fits" "_law_part_fits" sPartFits fF fdF) (bF : Binds K fdF ["_law_kind_so", "_law_bit"] []) (mF : mg "_law_part_fits" = some (.ref fF)) (GF : FnOk P w K mg base CX0 k fF fdF ["_law_kind_so", "_law_bit"] (spFits K))
    (mi : mg "isinstance" = none) (mt : mg "tuple" = none) (ms : mg "str" = none) (me : mg "len" = none) (ma : mg "all" = none) (mr : mg "range" = none) : FnOk P w K mg base CX0 (k + 1) f fd ["_law_shapes_so", "_law_matter"] (spShaped K) := by
  refine F.ok scShaped (fun vs H Q E h => ?_) (fun cdv A outer s H vs Q E hr h => ?_)
  · obtain ⟨p, v, d, rfl, _⟩ := h
    rfl
  · obtain ⟨p, v, d, rfl, hp, hd, hf, q⟩ := h
    refine ⟨_, pss_cons (ps_if (PW.pt (pw_or (pt_not (pt_val (pe_callB (cr_isOne "tuple") (by rfl) mi boot_isinstance (pa_cons (pv 1) (pa_cons (pe_bltn (v := .ty "tuple") (by rfl) mt (by decide +kernel) rfl) pa_nil)))))
        (pw_or (pt_cmpR op_eq (pe_callB call_len_seq (by rfl) me PySem.boot_len (pa_cons (pv 1) pa_nil)) pe_int (nomark _))
        (pw_or1 (pt_not (pt_val (pe_callB (cr_isOne "str") (by rfl) mi boot_isinstance (pa_cons (pe_ix ix_seq (pv 1) pe_int (fun _ _ => rfl)) (pa_cons (pe_bltn (v := .ty "str") (by rfl) ms (by decide +kernel) rfl) pa_nil))))))))) (pss_one (ps_ret pe_bl)) pss_nil)
      (pss_cons (ps_set (i := 2) scShaped.nd rfl (.inr rfl) (pe_dget1 (Nat.lt_of_le_of_lt (Nat.add_le_add_left (by decide : 1 ≤ 64) _) hr.units) (pv 0) (pe_ix ix_seq (pv 1) pe_int (fun _ _ => rfl)) ⟨rfl, rfl, rfl, rfl⟩))
      (pss_cons (ps_if (PW.pt (pw_or (pt_cmpR op_isN (pv 2) pe_non (nomark _))
          (pw_or1 (pt_cmpR op_ne (pe_callB call_len_seq (by rfl) me PySem.boot_len (pa_cons (pv 1) pa_nil)) (pe_op op_add pe_int (pe_callB call_len_str (by rfl) me PySem.boot_len (pa_cons (pv 2) pa_nil))) (nomark _))))) (pss_one (ps_ret pe_bl)) pss_nil)
      (pss_one (ps_ret (pe_callB (cr_all rfl) (by rfl) ma boot_all (pa_cons
        (pe_lc (own := [("_law_k", 3)]) (g := gName 3) (tt := tYes) rfl scShaped.nd (pi_range1 (by rfl) mr (pa_cons (pe_callB call_len_str (by rfl) me PySem.boot_len (pa_cons (pv 2) pa_nil)) pa_nil)) (blkOk_by (N := nShaped) (sc := defScope sShaped) (by decide +kernel))
          (fun _ _ _ _ _ => pg_name (i := 3) scShaped.nd rfl (Or.inl rfl)) (fun _ _ _ _ _ => pts_nil)
          (fun _ _ _ _ _ => pe_call GF hr (by rfl) mF FF.kp bF .nil pass0 (pa_cons (pe_ix (ix_seqL (K := K) rfl) (pv 2) (pv 3) (fun _ _ => rfl)) (pa_cons (pe_ix (ix_seqL (K := K) rfl) (pv 1) (pe_op op_add (pv 3) pe_int) (fun _ _ => rfl)) pa_nil)))) pa_nil)))))), ?_⟩
    have hv := hd
    have q0 : shapedD d = false → Q (.bl false) H := fun e => by
      have := q H fun _ _ z => z
      rw [e] at this
      exact this
    cases hd with
    | non => exact ⟨_, rfl, ⟨_, _, rfl, hv, false, (show kitB "NoneType" "tuple" = some false by decide +kernel), _, rfl, iteT (iteT (q0 rfl))⟩⟩
    | bl c => exact ⟨_, rfl, ⟨_, _, rfl, hv, false, (show kitB "bool" "tuple" = some false by decide +kernel), _, rfl, iteT (iteT (q0 rfl))⟩⟩
    | int c => exact ⟨_, rfl, ⟨_, _, rfl, hv, false, (show kitB "int" "tuple" = some false by decide +kernel), _, rfl, iteT (iteT (q0 rfl))⟩⟩
    | str c => exact ⟨_, rfl, ⟨_, _, rfl, hv, false, (show kitB "str" "tuple" = some false by decide +kernel), _, rfl, iteT (iteT (q0 rfl))⟩⟩
    | lst h1 h2 => exact ⟨_, rfl, ⟨_, _, rfl, hv, false, (show kitB "list" "tuple" = some false by decide +kernel), _, rfl, iteT (iteT (q0 rfl))⟩⟩
    | tup h1 h2 =>
      rename_i a xs ds
      refine ⟨_, rfl, ⟨_, _, rfl, hv, true, (show kitB "tuple" "tuple" = some true by decide +kernel), _, rfl, iteF ?_⟩⟩
      refine ⟨_, rfl, a, xs, rfl, .inr h1, rfl, _, rfl, ?_⟩
      cases h2 with
      | nil => exact iteT (iteT (q0 (shaped_none lawTab_empty)))
      | cons k1 k2 =>
        rename_i x xs d ds
        have hx := k1
        have i0 : ∀ (Q : VK), Q x H → rIx K (.ref a) (.int 0) H Q := fun Q q => .inr (.inl ⟨a, _, 0, x, rfl, rfl, h1, atI_nat (j := 0) rfl, q⟩)
        refine ite2 (fun z => absurd (of_decide_eq_true z) (by intro e; have e := V.int.inj e; rw [List.length_cons] at e; omega)) (fun _ => ⟨_, rfl, i0 _ ?_⟩)
        cases k1 with
        | non => exact ⟨_, _, rfl, hx, false, (show kitB "NoneType" "str" = some false by decide +kernel), _, rfl, iteT (q0 (shaped_none lawTab_empty))⟩
        | bl c => exact ⟨_, _, rfl, hx, false, (show kitB "bool" "str" = some false by decide +kernel), _, rfl, iteT (q0 (shaped_none lawTab_empty))⟩
        | int c => exact ⟨_, _, rfl, hx, false, (show kitB "int" "str" = some false by decide +kernel), _, rfl, iteT (q0 (shaped_none lawTab_empty))⟩
        | lst _ _ => exact ⟨_, _, rfl, hx, false, (show kitB "list" "str" = some false by decide +kernel), _, rfl, iteT (q0 (shaped_none lawTab_empty))⟩
        | tup _ _ => exact ⟨_, _, rfl, hx, false, (show kitB "tuple" "str" = some false by decide +kernel), _, rfl, iteT (q0 (shaped_none lawTab_empty))⟩
        | str c =>
          refine ⟨_, _, rfl, hx, true, (show kitB "str" "str" = some true by decide +kernel), _, rfl, iteF ?_⟩
          refine ⟨_, rfl, p, rfl, .inl ⟨_, .inl hp⟩, _, rfl, i0 _ ⟨_, DGet.k (k := Sum.inr c) hp, ?_⟩⟩
          rw [law_val]
          rcases law_str c with ⟨e1, e2⟩ | ⟨t, ls, e1, e2, e3, e4, e5⟩
          · rw [e1]
            refine ⟨_, rfl, rfl, _, rfl, iteT (iteT (q0 (shaped_none e2)))⟩
          · rw [e1]
            have hlen := hf.len
            rw [List.length_cons] at hlen
            have hxl := dps_len k2
            have hll : ls.length = t.length := by rw [← e3, letters_len]
            have ez : t.length ≤ sizeLine := Nat.le_of_lt (small1000 (by omega))
            refine ⟨_, rfl, rfl, _, rfl, iteF ?_⟩
            refine ⟨_, rfl, a, _, rfl, .inr h1, _, rfl, t, rfl, ez, _, _, rfl, rfl, rfl, ?_⟩
            by_cases hkl : ds.length = ls.length
            · have e : (!decide (V.int ((V.str c :: xs).length : Int) = V.int (1 + (t.length : Int)))) = false := by
                rw [List.length_cons, decide_eq_true (congrArg V.int (by omega))]
                rfl
              rw [e]
              refine ⟨_, rfl, iteF ?_⟩
              rw [shaped_some e2] at q
              refine ⟨_, rfl, t, rfl, ez, _, rfl, by omega, by omega, fun D nD => lc_rng (K := K) (n := t.length) nD (by omega) (fun j => match ls[j]?, ds[j]? with | some z, some d => fitsD z d | _, _ => true)
                (fun j H2 Q2 hj s2 k3 => ?_) fun H2 s2 hD2 => ⟨D, _, rfl, SqL.of hD2, ?_⟩⟩
              · obtain ⟨z, hz⟩ : ∃ z, ls[j]? = some z := ⟨_, List.getElem?_eq_getElem (by omega)⟩
                obtain ⟨e9, he9⟩ : ∃ e9, ds[j]? = some e9 := ⟨_, List.getElem?_eq_getElem (by omega)⟩
                have hk3 : ∀ H', Same H2 H' → Q2 (.bl (fitsD z e9)) H' := fun H' s' => by
                  have := k3 H' s'
                  rw [hz, he9] at this
                  exact this
                obtain ⟨x9, hx9⟩ : ∃ x9, xs[j]? = some x9 := ⟨_, List.getElem?_eq_getElem (by omega)⟩
                obtain ⟨d9, hd9, dx9⟩ := dps_get k2 hx9
                rw [he9] at hd9
                cases hd9
                have ec : ∃ cc, t.cps.toList[j]? = some cc ∧ z = ⟨#[cc]⟩ := by
                  have hz2 := hz
                  rw [← e3] at hz2
                  unfold lettersS at hz2
                  rw [List.getElem?_map] at hz2
                  obtain ⟨cc, h1, h2⟩ := Option.map_eq_some_iff.mp hz2
                  exact ⟨cc, h1, h2.symm⟩
                obtain ⟨cc, hcc, ezz⟩ := ec
                subst ezz
                exact ⟨_, rfl, _, rfl, .inr (.inr ⟨t, _, cc, rfl, rfl, ez, atI_nat hcc, _, rfl, _, rfl, _, _, rfl, rfl, .inr (.inl ⟨a, _, ((j + 1 : Nat) : Int), x9, rfl, congrArg V.int (by omega), same_seqT s2 h1, atI_nat (j := j + 1) hx9,
                  x9, _, e9, rfl, dp_same s2 dx9, hf.mem (List.mem_cons_of_mem _ (List.mem_of_getElem? he9)), e4 _ (List.mem_of_getElem? hz), hk3⟩)⟩)⟩
              · rw [List.all_map, ← hll]
                have z := fit_range ls ds hkl
                have q1 := q _ s2
                rw [← z] at q1
                exact q1
            · have e : (!decide (V.int ((V.str c :: xs).length : Int) = V.int (1 + (t.length : Int)))) = true := by
                rw [List.length_cons, decide_eq_false (fun z => hkl (by injection z with z; omega))]
                rfl
              rw [e]
              refine ⟨_, rfl, iteT (q0 ?_)⟩
              rw [shaped_some e2]
              unfold fitAllD
              rw [decide_eq_false hkl, Bool.false_and]
end
end KV

namespace KV
open PySem PySem.Spec PyProof.Rows L2 RZ
abbrev sIsWish : Stmt := topS 50
theorem cr_isOneK {X : Cx} {K : PySem.W.Frag} (h : X.K = K) (n : String) : CallR X (.builtin "isinstance") (rIsOne K n) := by
  subst h
  exact cr_isOne n
theorem wish_row : ∀ {d : PyData}, isRowD d 3 = false → wishD d = false
  | .tuple [a, b, c], h => nomatch h
  | .tuple [], _ => rfl
  | .tuple [_], _ => rfl
  | .tuple [_, _], _ => rfl
  | .tuple (_ :: _ :: _ :: _ :: _), _ => by simp [wishD]
  | .none, _ => rfl
  | .bool _, _ => rfl
  | .int _, _ => rfl
  | .str _, _ => rfl
  | .list _, _ => rfl
  | .dict _, _ => rfl
theorem row_threeA : ∀ {d : PyData}, isRowD d 3 = true → ∃ a b c, d = .tuple [a, b, c]
  | .tuple [a, b, c], _ => ⟨a, b, c, rfl⟩
  | .tuple [], h => nomatch h
  | .tuple [_], h => nomatch h
  | .tuple [_, _], h => nomatch h
  | .tuple (a :: b :: c :: e :: r), h => by
    have z : decide ((a :: b :: c :: e :: r : List PyData).length = 3) = true := h
    simp at z
  | .none, h => nomatch h
  | .bool _, h => nomatch h
  | .int _, h => nomatch h
  | .str _, h => nomatch h
  | .list _, h => nomatch h
  | .dict _, h => nomatch h
def flags5 : List PyData := [.str "drain", .str "hard", .str "link", .str "pick", .str "silent"]
theorem flags5_any (x : Str) : (flags5.any fun z => PyData.eqv z (.str x)) = flagStrD (.str x) := by
  have e : flags5 = flagWords.map PyData.str := rfl
  rw [e]
  show inD (flagWords.map PyData.str) (.str x) = _
  rw [in_strsD]
  rfl
section
variable {P : Program} {w : World} {K : PySem.W.Frag} {mg : Str → Option Value} {base : Heap}
def spWish (K : PySem.W.Frag) : Sp := fun vs H Q _ => ∃ (v : V) (d : PyData), vs = [v] ∧ Dp K H v d ∧ fineD d ∧ ∀ H', Same H H' → Q (.bl (wishD d)) H'
abbrev nWish : List Str := ["_law_matter", "_law_bit"]
theorem scWish : FnScope nWish ["_law_matter"] (defScope sIsWish) :=
  ⟨rfl, rfl, rfl, by decide +kernel, rfl, by decide +kernel, by decide +kernel⟩
theorem ok_isWish {f fR fW fS fD : Addr} {fd fdR fdW fdS fdD : FuncData} {k : Nat} (F : Fun K "_law_is_wish" "_law_is_wish" sIsWish f fd)
    (FR : Fun K "_law_row_of" "_law_row_of" sRowOf fR fdR) (bR : Binds K fdR ["_law_matter", "_law_size"] []) (mR : mg "_law_row_of" = some (.ref fR)) (GR : FnOk P w K mg base CX0 k fR fdR ["_law_matter", "_law_size"] (spRow K))
    (FW : Fun K "_law_is_word" "_law_is_word" sIsWord fW fdW) (bW : Binds K fdW ["_law_matter", "_law_most_so"] []) (mW : mg "_law_is_word" = some (.ref fW)) (GW : FnOk P w K mg base CX0 k fW fdW ["_law_matter", "_law_most_so"] (spIsWord K))
    (FS : Fun K "_law_shapes" "_law_shapes" sShapes fS fdS) (bS : Binds K fdS [] []) (mS : mg "_law_shapes" = some (.ref fS)) (GS : FnOk P w K mg base CX0 k fS fdS [] spShapes)
    (FD : Fun K "_law_shaped" "_law_shaped" sShaped fD fdD) (bD : Binds K fdD ["_law_shapes_so", "_law_matter"] []) (mD : mg "_law_shaped" = some (.ref fD)) (GD : FnOk P w K mg base CX0 k fD fdD ["_law_shapes_so", "_law_matter"] (spShaped K))
    (mi : mg "isinstance" = none) (mt : mg "tuple" = none) (ms : mg "str" = none) (ma : mg "all" = none) : FnOk P w K mg base CX0 (k + 1) f fd ["_law_matter"] (spWish K) := by
  refine F.ok scWish (fun vs H Q E h => ?_) (fun cdv A outer s H vs Q E hr h => ?_)
  · obtain ⟨v, d, rfl, _⟩ := h
    rfl
  · obtain ⟨v, d, rfl, hd, hf, q⟩ := h
    refine ⟨_, pss_cons (ps_if (PW.pt (pw_or (pt_not (pt_val (pe_call GR hr (by rfl) mR FR.kp bR .nil pass0 (pa_cons (pv 0) (pa_cons pe_int pa_nil)))))
        (pw_or (pt_not (pt_val (pe_call GW hr (by rfl) mW FW.kp bW .nil pass0 (pa_cons (pe_ix ix_seq (pv 0) pe_int (fun _ _ => rfl)) (pa_cons pe_int pa_nil)))))
        (pw_or1 (pt_not (pt_val (pe_call GD hr (by rfl) mD FD.kp bD .nil pass0 (pa_cons (pe_call0 GS hr (by rfl) mS FS.kp bS .nil pass0) (pa_cons (pe_ix ix_seq (pv 0) pe_int (fun _ _ => rfl)) pa_nil))))))))) (pss_one (ps_ret pe_bl)) pss_nil)
      (pss_cons (ps_if (pt_not (pt_val (pe_callB (cr_isOne "tuple") (by rfl) mi boot_isinstance (pa_cons (pe_ix ix_seq (pv 0) pe_int (fun _ _ => rfl)) (pa_cons (pe_bltn (v := .ty "tuple") (by rfl) mt (by decide +kernel) rfl) pa_nil))))) (pss_one (ps_ret pe_bl)) pss_nil)
      (pss_one (ps_ret (pe_callB (cr_all rfl) (by rfl) ma boot_all (pa_cons
        (pe_lc (own := [("_law_bit", 1)]) (g := gName 1) (tt := tYes) rfl scWish.nd (pi_tup (pe_ix ix_seq (pv 0) pe_int (fun _ _ => rfl))) (blkOk_by (N := nWish) (sc := defScope sIsWish) (by decide +kernel))
          (fun _ _ _ _ _ => pg_name (i := 1) scWish.nd rfl (Or.inl rfl)) (fun _ _ _ _ _ => pts_nil)
          (fun _ _ _ _ _ => pe_and (pe_callB (cr_isOneK (K := K) rfl "str") (by rfl) mi boot_isinstance (pa_cons (pv 1) (pa_cons (pe_bltn (v := .ty "str") (by rfl) ms (by decide +kernel) rfl) pa_nil)))
            (pe_one (pe_cmpR (op_inT2 (K := K) rfl hr.units) (pv 1) (pl_tup (K := K) (pls_cons pl_str (pls_cons pl_str (pls_cons pl_str (pls_cons pl_str (pls_cons pl_str pls_nil)))))) (by rfl))))) pa_nil))))), ?_⟩
    have q0 : wishD d = false → ∀ H', Same H H' → Q (.bl false) H' := fun e H' s' => by
      have := q H' s'
      rw [e] at this
      exact this
    refine ⟨_, rfl, v, d, 3, rfl, hd, _, rfl, ?_⟩
    cases h3 : isRowD d 3 with
    | false => exact iteT (iteT (q0 (wish_row h3) H fun _ _ z => z))
    | true =>
      refine iteF ?_
      obtain ⟨ta, e, g, rfl⟩ := row_threeA h3
      obtain ⟨p, x, y, z, rfl, hS, d1, d2, d3⟩ := dp_threeA hd
      have f1 : fineD ta := hf.mem List.mem_cons_self
      have f2 : fineD e := hf.mem (List.mem_cons_of_mem _ List.mem_cons_self)
      have f3 : fineD g := hf.mem (List.mem_cons_of_mem _ (List.mem_cons_of_mem _ List.mem_cons_self))
      refine ⟨_, rfl, .inr (.inl ⟨p, _, 0, x, rfl, rfl, hS, atI_nat (j := 0) rfl, x, ta, 8, rfl, by decide, d1, f1.word, fun H1 s1 => ?_⟩)⟩
      refine ⟨_, rfl, ?_⟩
      cases hw : isWordD ta 8 with
      | false =>
        refine iteT (iteT (q0 ?_ H1 s1))
        cases g with
        | tuple fs =>
          show (isWordD ta 8 && _) = false
          rw [hw, Bool.false_and]
        | _ => rfl
      | true =>
        refine iteF ?_
        refine ⟨rfl, fun p2 H2 s2 hp2 => ⟨_, rfl, .inr (.inl ⟨p, _, 1, y, rfl, rfl, same_seqT (s1.trans s2) hS, atI_nat (j := 1) rfl, p2, y, e, rfl, hp2, dp_same (s1.trans s2) d2, f2, fun H3 s3 => ⟨_, rfl, ?_⟩⟩)⟩⟩
        have s03 := (s1.trans s2).trans s3
        cases hsh : shapedD e with
        | false =>
          refine iteT (q0 ?_ H3 s03)
          cases g with
          | tuple fs =>
            show (isWordD ta 8 && (shapedD e && _)) = false
            rw [hsh, Bool.false_and, Bool.and_false]
          | _ => rfl
        | true =>
          have hS3 := same_seqT s03 hS
          have d33 := dp_same s03 d3
          refine iteF ⟨_, rfl, .inr (.inl ⟨p, _, 2, z, rfl, rfl, hS3, atI_nat (j := 2) rfl, ?_⟩)⟩
          have hv := d33
          cases d33 with
          | non => exact ⟨_, _, rfl, hv, false, (show kitB "NoneType" "tuple" = some false by decide +kernel), _, rfl, iteT (q0 rfl H3 s03)⟩
          | bl c => exact ⟨_, _, rfl, hv, false, (show kitB "bool" "tuple" = some false by decide +kernel), _, rfl, iteT (q0 rfl H3 s03)⟩
          | int c => exact ⟨_, _, rfl, hv, false, (show kitB "int" "tuple" = some false by decide +kernel), _, rfl, iteT (q0 rfl H3 s03)⟩
          | str c => exact ⟨_, _, rfl, hv, false, (show kitB "str" "tuple" = some false by decide +kernel), _, rfl, iteT (q0 rfl H3 s03)⟩
          | lst h1 h2 => exact ⟨_, _, rfl, hv, false, (show kitB "list" "tuple" = some false by decide +kernel), _, rfl, iteT (q0 rfl H3 s03)⟩
          | tup h1 h2 =>
            rename_i a xs fs
            have hl := dps_len h2
            have hlen := f3.len
            refine ⟨_, _, rfl, hv, true, (show kitB "tuple" "tuple" = some true by decide +kernel), _, rfl, iteF ?_⟩
            refine ⟨_, rfl, .inr (.inl ⟨p, _, 2, .ref a, rfl, rfl, hS3, atI_nat (j := 2) rfl, a, rfl, ⟨xs, h1⟩, fun D nD => lc_flags (K := K) (walk_tup (xs := xs)) h2 nD (by omega) (fun H4 s4 => same_seqT s4 h1) flagStrD
              (fun j x9 e9 H4 Q4 he s4 dx k4 => ⟨_, rfl, ?_⟩) fun H4 s4 hD4 => ⟨D, _, rfl, SqL.of hD4, ?_⟩⟩)⟩
            · have hx9 := dx
              cases dx with
              | non => exact ⟨_, _, rfl, hx9, false, (show kitB "NoneType" "str" = some false by decide +kernel), _, rfl, iteF (k4 H4 fun _ _ z => z)⟩
              | bl c => exact ⟨_, _, rfl, hx9, false, (show kitB "bool" "str" = some false by decide +kernel), _, rfl, iteF (k4 H4 fun _ _ z => z)⟩
              | int c => exact ⟨_, _, rfl, hx9, false, (show kitB "int" "str" = some false by decide +kernel), _, rfl, iteF (k4 H4 fun _ _ z => z)⟩
              | lst _ _ => exact ⟨_, _, rfl, hx9, false, (show kitB "list" "str" = some false by decide +kernel), _, rfl, iteF (k4 H4 fun _ _ z => z)⟩
              | tup _ _ => exact ⟨_, _, rfl, hx9, false, (show kitB "tuple" "str" = some false by decide +kernel), _, rfl, iteF (k4 H4 fun _ _ z => z)⟩
              | str c =>
                refine ⟨_, _, rfl, hx9, true, (show kitB "str" "str" = some true by decide +kernel), _, rfl, iteT ⟨_, rfl, fun y9 H5 s5 dy => ⟨.str c, _, .str c, dy, by decide +kernel, (f3.mem (List.mem_of_getElem? he)).lay, by decide +kernel, ?_⟩⟩⟩
                have := k4 H5 s5
                rw [← flags5_any] at this
                exact this
            · rw [List.all_map]
              have q1 := q _ (s03.trans s4)
              have ew : wishD (.tuple [ta, e, .tuple fs]) = (isWordD ta 8 && (shapedD e && fs.all flagStrD)) := rfl
              rw [ew, hw, hsh, Bool.true_and, Bool.true_and] at q1
              exact q1
end
end KV

namespace KV
open PySem PySem.Spec PyProof.Rows L2 RZ
abbrev sSpots : Stmt := topS 51
/-- the pipes and the slots that a deed names -/
def spotsA (w : Str) (ds : List PyData) : List Str × List Int :=
  if w = "update" then (match ds with | [.int s, .str p] => ([p], [s]) | [.int s, _] => ([], [s]) | _ => ([], []))
  else if w = "read" ∨ w = "reads" ∨ w = "write" ∨ w = "shut" then (match ds with | .tuple [.str k, .str q] :: _ => ([q], []) | .tuple [.str k, .int i] :: _ => ([], [i]) | _ => ([], [])) else ([], [])
theorem num_int {d : PyData} (h : isNumD d 0 = true) : ∃ i, d = .int i ∧ 0 ≤ i := by
  cases d with
  | int i => exact ⟨i, rfl, of_decide_eq_true h⟩
  | _ => exact nomatch h
theorem fit_two {a b : Str} {ds : List PyData} (h : fitAllD [a, b] ds = true) : ∃ x y, ds = [x, y] ∧ fitsD a x = true ∧ fitsD b y = true := by
  unfold fitAllD at h
  rw [Bool.and_eq_true, decide_eq_true_eq] at h
  obtain ⟨h1, h2⟩ := h
  match ds, h1, h2 with
  | [x, y], _, h2 =>
    have h2 : (fitsD a x && (fitsD b y && true)) = true := h2
    rw [Bool.and_true, Bool.and_eq_true] at h2
    exact ⟨x, y, rfl, h2.1, h2.2⟩
theorem fit_one {a : Str} {ds : List PyData} (h : fitAllD [a] ds = true) : ∃ x, ds = [x] ∧ fitsD a x = true := by
  unfold fitAllD at h
  rw [Bool.and_eq_true, decide_eq_true_eq] at h
  obtain ⟨h1, h2⟩ := h
  match ds, h1, h2 with
  | [x], _, h2 =>
    have h2 : (fitsD a x && true) = true := h2
    rw [Bool.and_true] at h2
    exact ⟨x, rfl, h2⟩
theorem shaped_upd {ds : List PyData} (h : shapedD (.tuple (.str "update" :: ds)) = true) : ∃ (i : Int) (p : PyData), ds = [.int i, p] ∧ 0 ≤ i ∧ (p = .none ∨ ∃ z, p = .str z ∧ isWordD (.str z) 8 = true) := by
  rw [shaped_some (ls := ["p", "o"]) (by decide +kernel)] at h
  obtain ⟨x, y, rfl, h1, h2⟩ := fit_two h
  rw [fd_p] at h1
  rw [fd_o] at h2
  obtain ⟨i, rfl, hi⟩ := num_int h1
  refine ⟨i, y, rfl, hi, ?_⟩
  cases y with
  | none => exact .inl rfl
  | str z => exact .inr ⟨z, rfl, h2⟩
  | _ => exact nomatch h2
theorem where_shape {x : PyData} (h : lwhereD x = true) : (∃ z, x = .tuple [.str "pipe", .str z] ∧ isWordD (.str z) 8 = true) ∨ ∃ i : Int, x = .tuple [.str "slot", .int i] ∧ 0 ≤ i := by
  match x, h with
  | .tuple [.str k, q], h =>
    have h : (if decide (k = "pipe") = true then isWordD q 8 else decide (k = "slot") && isNumD q 0) = true := h
    cases h1 : decide (k = "pipe") with
    | true =>
      rw [h1, if_pos rfl] at h
      have := of_decide_eq_true h1
      subst this
      cases q with
      | str z => exact .inl ⟨z, rfl, h⟩
      | _ => exact nomatch h
    | false =>
      rw [h1, if_neg Bool.false_ne_true, Bool.and_eq_true] at h
      have := of_decide_eq_true h.1
      subst this
      obtain ⟨i, rfl, hi⟩ := num_int h.2
      exact .inr ⟨i, rfl, hi⟩
def isSpotW (w : Str) : Prop := w = "read" ∨ w = "reads" ∨ w = "write" ∨ w = "shut"
instance (w : Str) : Decidable (isSpotW w) := by unfold isSpotW; infer_instance
theorem shaped_spot {w : Str} {ds : List PyData} (hw : isSpotW w) (h : shapedD (.tuple (.str w :: ds)) = true) : ∃ x rest, ds = x :: rest ∧ lwhereD x = true := by
  unfold isSpotW at hw
  rcases hw with rfl | rfl | rfl | rfl
  · rw [shaped_some (ls := ["w", "m"]) (by decide +kernel)] at h
    obtain ⟨x, y, rfl, h1, _⟩ := fit_two h
    exact ⟨x, _, rfl, fd_w (d := x) ▸ h1⟩
  · rw [shaped_some (ls := ["w", "m"]) (by decide +kernel)] at h
    obtain ⟨x, y, rfl, h1, _⟩ := fit_two h
    exact ⟨x, _, rfl, fd_w (d := x) ▸ h1⟩
  · rw [shaped_some (ls := ["w", "t"]) (by decide +kernel)] at h
    obtain ⟨x, y, rfl, h1, _⟩ := fit_two h
    exact ⟨x, _, rfl, fd_w (d := x) ▸ h1⟩
  · rw [shaped_some (ls := ["w"]) (by decide +kernel)] at h
    obtain ⟨x, rfl, h1⟩ := fit_one h
    exact ⟨x, _, rfl, fd_w (d := x) ▸ h1⟩
theorem law_w {w t : Str} (h : lawStr w = some t) : decide (119 ∈ t.cps.toList) = decide (isSpotW w) := by
  unfold lawStr at h
  have go : ∀ (a b : Str) (o : Option Str), decide (119 ∈ b.cps.toList) = decide (isSpotW a) → (o = some t → decide (119 ∈ t.cps.toList) = decide (isSpotW w)) → (if w = a then some b else o) = some t → decide (119 ∈ t.cps.toList) = decide (isSpotW w) := by
    intro a b o h1 h2 h3
    by_cases e : w = a
    · rw [if_pos e] at h3
      rw [← Option.some.inj h3, e]
      exact h1
    · rw [if_neg e] at h3
      exact h2 h3
  refine go _ _ _ ?_ (fun h => ?_) h
  · decide +kernel
  refine go _ _ _ ?_ (fun h => ?_) h
  · decide +kernel
  refine go _ _ _ ?_ (fun h => ?_) h
  · decide +kernel
  refine go _ _ _ ?_ (fun h => ?_) h
  · decide +kernel
  refine go _ _ _ ?_ (fun h => ?_) h
  · decide +kernel
  refine go _ _ _ ?_ (fun h => ?_) h
  · decide +kernel
  refine go _ _ _ ?_ (fun h => ?_) h
  · decide +kernel
  refine go _ _ _ ?_ (fun h => ?_) h
  · decide +kernel
  refine go _ _ _ ?_ (fun h => ?_) h
  · decide +kernel
  refine go _ _ _ ?_ (fun h => ?_) h
  · decide +kernel
  refine go _ _ _ ?_ (fun h => ?_) h
  · decide +kernel
  exact nomatch h
theorem upd_notspot : ¬ isSpotW "update" := by decide +kernel
theorem spots_other {w : Str} {ds : List PyData} (h1 : w ≠ "update") (h2 : ¬ isSpotW w) : spotsA w ds = ([], []) := by
  unfold spotsA
  rw [if_neg h1, if_neg (show ¬ (w = "read" ∨ w = "reads" ∨ w = "write" ∨ w = "shut") from h2)]
theorem spots_pipe {w z : Str} {rest : List PyData} (h1 : w ≠ "update") (h2 : isSpotW w) : spotsA w (.tuple [.str "pipe", .str z] :: rest) = ([z], []) := by
  unfold spotsA
  rw [if_neg h1, if_pos (show (w = "read" ∨ w = "reads" ∨ w = "write" ∨ w = "shut") from h2)]
theorem spots_slot {w : Str} {i : Int} {rest : List PyData} (h1 : w ≠ "update") (h2 : isSpotW w) : spotsA w (.tuple [.str "slot", .int i] :: rest) = ([], [i]) := by
  unfold spotsA
  rw [if_neg h1, if_pos (show (w = "read" ∨ w = "reads" ∨ w = "write" ∨ w = "shut") from h2)]
theorem spot_ne {w : Str} (h : isSpotW w) : w ≠ "update" := fun e => upd_notspot (e ▸ h)
/-- what the law asks of the spots, over the lists that it makes -/
theorem spots_eq {ps : List Str} {m : Nat} {w : Str} {ds : List PyData} (h : shapedD (.tuple (.str w :: ds)) = true) : spotsD ps m w ds = ((spotsA w ds).1.all (fun x => decide (x ∈ ps)) && (spotsA w ds).2.all (fun i => decide (i < (m : Int)))) := by
  by_cases h1 : w = "update"
  · subst h1
    obtain ⟨i, p, rfl, hi, hp⟩ := shaped_upd h
    have e1 : spotsD ps m "update" [.int i, p] = (optInD ps p && ltNumD m (.int i)) := by
      unfold spotsD
      rw [if_pos rfl]
    rw [e1]
    rcases hp with rfl | ⟨z, rfl, hz⟩
    · have e2 : spotsA "update" [.int i, .none] = ([], [i]) := by unfold spotsA; rw [if_pos rfl]
      rw [e2]
      show (true && decide (i < (m : Int))) = (true && (decide (i < (m : Int)) && true))
      rw [Bool.and_true]
    · have e2 : spotsA "update" [.int i, .str z] = ([z], [i]) := by unfold spotsA; rw [if_pos rfl]
      rw [e2]
      show (decide (z ∈ ps) && decide (i < (m : Int))) = ((decide (z ∈ ps) && true) && (decide (i < (m : Int)) && true))
      rw [Bool.and_true, Bool.and_true]
  · by_cases h2 : isSpotW w
    · obtain ⟨x, rest, rfl, hx⟩ := shaped_spot h2 h
      have e1 : spotsD ps m w (x :: rest) = spotOkD ps m x := by
        unfold spotsD
        rw [if_neg h1, if_pos (show (w = "read" ∨ w = "reads" ∨ w = "write" ∨ w = "shut") from h2)]
      rw [e1]
      rcases where_shape hx with ⟨z, rfl, hz⟩ | ⟨i, rfl, hi⟩
      · rw [spots_pipe h1 h2]
        show (if decide (Str.ofString "pipe" = Str.ofString "pipe") = true then decide (z ∈ ps) else ltNumD m (.str z)) = ((decide (z ∈ ps) && true) && true)
        rw [if_pos (decide_eq_true rfl), Bool.and_true, Bool.and_true]
      · rw [spots_slot h1 h2]
        show (if decide (Str.ofString "slot" = Str.ofString "pipe") = true then pipeD ps (.int i) else decide (i < (m : Int))) = (true && (decide (i < (m : Int)) && true))
        rw [if_neg (by decide +kernel), Bool.and_true, Bool.true_and]
    · rw [spots_other h1 h2]
      unfold spotsD
      rw [if_neg h1, if_neg (show ¬ (w = "read" ∨ w = "reads" ∨ w = "write" ∨ w = "shut") from h2)]
      rfl
theorem spots_small {w : Str} {ds : List PyData} (h : shapedD (.tuple (.str w :: ds)) = true) : (spotsA w ds).1.length ≤ 1 ∧ (spotsA w ds).2.length ≤ 1 ∧ ∀ x ∈ (spotsA w ds).1, PyData.strOk x = true := by
  by_cases h1 : w = "update"
  · subst h1
    obtain ⟨i, p, rfl, hi, hp⟩ := shaped_upd h
    rcases hp with rfl | ⟨z, rfl, hz⟩
    · have e2 : spotsA "update" [.int i, .none] = ([], [i]) := by unfold spotsA; rw [if_pos rfl]
      rw [e2]
      exact ⟨Nat.zero_le _, Nat.le_refl _, fun x hx => absurd hx List.not_mem_nil⟩
    · have e2 : spotsA "update" [.int i, .str z] = ([z], [i]) := by unfold spotsA; rw [if_pos rfl]
      rw [e2]
      exact ⟨Nat.le_refl _, Nat.le_refl _, fun x hx => by rw [List.mem_singleton.mp hx]; exact word_lay hz⟩
  · by_cases h2 : isSpotW w
    · obtain ⟨x, rest, rfl, hx⟩ := shaped_spot h2 h
      rcases where_shape hx with ⟨z, rfl, hz⟩ | ⟨i, rfl, hi⟩
      · rw [spots_pipe h1 h2]
        exact ⟨Nat.le_refl _, Nat.zero_le _, fun x hx => by rw [List.mem_singleton.mp hx]; exact word_lay hz⟩
      · rw [spots_slot h1 h2]
        exact ⟨Nat.zero_le _, Nat.le_refl _, fun x hx => absurd hx List.not_mem_nil⟩
    · rw [spots_other h1 h2]
      exact ⟨Nat.zero_le _, Nat.zero_le _, fun x hx => absurd hx List.not_mem_nil⟩
section
variable {P : Program} {w : World} {K : PySem.W.Frag} {mg : Str → Option Value} {base : Heap}
def spSpots (K : PySem.W.Frag) : Sp := fun vs H Q _ => ∃ (v : V) (w : Str) (ds : List PyData), vs = [v] ∧ Dp K H v (.tuple (.str w :: ds)) ∧ shapedD (.tuple (.str w :: ds)) = true ∧ ∀ p a b H', Same H H' → SqT K H' p [.ref a, .ref b] → SqL K H' a ((spotsA w ds).1.map V.str) → SqL K H' b ((spotsA w ds).2.map V.int) → Q (.ref p) H'
abbrev nSpots : List Str := ["_law_deed_so", "_law_spot"]
theorem scSpots : FnScope nSpots ["_law_deed_so"] (defScope sSpots) :=
  ⟨rfl, rfl, rfl, by decide +kernel, rfl, by decide +kernel, by decide +kernel⟩
theorem ok_spots {f fS : Addr} {fd fdS : FuncData} {k : Nat} (F : Fun K "_law_spots" "_law_spots" sSpots f fd)
    (FS : Fun K "_law_shapes" "_law_shapes" sShapes fS fdS) (bS : Binds K fdS [] []) (mS : mg "_law_shapes" = some (.ref fS)) (GS : FnOk P w K mg base CX0 k fS fdS [] spShapes)
    (mn : mg "int" = none) : FnOk P w K mg base CX0 (k + 1) f fd ["_law_deed_so"] (spSpots K) := by
  refine F.ok scSpots (fun vs H Q E h => ?_) (fun cdv A outer s H vs Q E hr h => ?_)
  · obtain ⟨v, w', ds, rfl, _⟩ := h
    rfl
  · obtain ⟨v, w', ds, rfl, hd, hsh, q⟩ := h
    refine ⟨_, pss_cons (ps_if (pt_cmpR op_eq (pe_ix ix_seq (pv 0) pe_int (fun _ _ => rfl)) pe_str (nomark _))
        (pss_one (ps_ret (pe_tup (pa_cons (pe_op op_rep (pe_lst (pa_cons (pe_ix ix_seq (pv 0) pe_int (fun _ _ => rfl)) pa_nil)) (pe_callTy call_int1 (by rfl) mn PyProof.Rows.boot_int (pa_cons (pe_cmpR op_notN (pe_ix ix_seq (pv 0) pe_int (fun _ _ => rfl)) pe_non (nomark _)) pa_nil)))
          (pa_cons (pe_lst (pa_cons (pe_ix ix_seq (pv 0) pe_int (fun _ _ => rfl)) pa_nil)) pa_nil))))) pss_nil)
      (pss_cons (ps_if (pt_cmpR op_notInS pe_str (pe_dget (Nat.lt_of_le_of_lt (Nat.add_le_add_left (by decide : 1 ≤ 64) _) hr.units) (pe_call0 GS hr (by rfl) mS FS.kp bS .nil pass0) (pe_ix ix_seq (pv 0) pe_int (fun _ _ => rfl)) (fun _ _ => rfl)) (by rfl))
        (pss_one (ps_ret (pe_tup (pa_cons (pe_lst pa_nil) (pa_cons (pe_lst pa_nil) pa_nil))))) pss_nil)
      (pss_cons (ps_set (i := 1) scSpots.nd rfl (.inl rfl) (pe_ix ix_seq (pv 0) pe_int (fun _ _ => rfl)))
      (pss_one (ps_ret (pe_ifExp (pt_cmpR op_eq (pe_ix ix_seq (pv 1) pe_int (fun _ _ => rfl)) pe_str (nomark _))
        (pe_tup (pa_cons (pe_lst (pa_cons (pe_ix ix_seq (pv 1) pe_int (fun _ _ => rfl)) pa_nil)) (pa_cons (pe_lst pa_nil) pa_nil)))
        (pe_tup (pa_cons (pe_lst pa_nil) (pa_cons (pe_lst (pa_cons (pe_ix ix_seq (pv 1) pe_int (fun _ _ => rfl)) pa_nil)) pa_nil)))))))), ?_⟩
    have ec : ∀ t : Str, decide (V.str w' = V.str t) = decide (w' = t) := fun t => by
      rw [Bool.eq_iff_iff, decide_eq_true_eq, decide_eq_true_eq]
      exact ⟨fun z => V.str.inj z, fun z => by rw [z]⟩
    cases hd with
    | tup h1 h2 =>
      rename_i a xs
      cases h2 with
      | cons k1 k2 =>
        rename_i x xs
        cases k1
        have ix : ∀ (H' : Hp), Same H H' → ∀ (j : Nat) (y : V), ((V.str w' :: xs)[j]? = some y) → ∀ (Q : VK), Q y H' → rIx K (.ref a) (.int (j : Int)) H' Q := fun H' s' j y hy Q q => .inr (.inl ⟨a, _, (j : Int), y, rfl, rfl, same_seqT s' h1, atI_nat (j := j) hy, q⟩)
        have s0 : Same H H := fun _ _ z => z
        refine ⟨_, rfl, ix H s0 0 _ rfl _ ⟨rfl, _, rfl, ?_⟩⟩
        show if decide (V.str w' = V.str "update") = true then _ else _
        rw [ec]
        by_cases hu : w' = "update"
        · subst hu
          rw [decide_eq_true rfl]
          obtain ⟨i, p, rfl, hi, hp⟩ := shaped_upd hsh
          cases k2 with
          | cons j1 j2 =>
            cases j2 with
            | cons j3 j4 =>
              cases j4
              cases j1
              rename_i y
              refine iteT ⟨_, rfl, ix H s0 2 y rfl _ ⟨by show 1 ≤ sizeLine; decide, fun l nl => ?_⟩⟩
              have s1 : Same H (upd H l (.lst [y])) := same_upd nl
              have hl1 : (upd H l (.lst [y])) l = some (.lst [y]) := upd_same
              generalize upd H l (.lst [y]) = H1 at s1 hl1
              refine ⟨_, rfl, ix _ s1 2 y rfl _ ⟨rfl, .inr ⟨_, rfl, ?_⟩⟩⟩
              rcases hp with rfl | ⟨z, rfl, hz⟩
              · cases j3
                have e2 : spotsA "update" [.int i, .none] = ([], [i]) := by unfold spotsA; rw [if_pos rfl]
                rw [e2] at q
                refine ⟨l, 0, [V.non], rfl, rfl, hl1, by decide, by decide, (by show 0 ≤ sizeLine; decide), fun l2 nl2 => ?_⟩
                have s2 : Same H1 (upd H1 l2 (.lst [])) := same_upd nl2
                have hl2 : (upd H1 l2 (.lst [])) l2 = some (.lst []) := upd_same
                refine ⟨_, rfl, ix _ (s1.trans s2) 1 (.int i) rfl _ ⟨by show 1 ≤ sizeLine; decide, fun l3 nl3 => ⟨by show 2 ≤ sizeLine; decide, fun p9 np9 => ?_⟩⟩⟩
                have s3 := same_upd (o := HO.lst [V.int i]) nl3
                have s4 := same_upd (o := HO.tup [.ref l2, .ref l3]) np9
                exact q p9 l2 l3 _ (((s1.trans s2).trans s3).trans s4) (SqT.of upd_same) (SqL.of (s4 _ _ (s3 _ _ hl2))) (SqL.of (s4 _ _ upd_same))
              · cases j3
                have e2 : spotsA "update" [.int i, .str z] = ([z], [i]) := by unfold spotsA; rw [if_pos rfl]
                rw [e2] at q
                refine ⟨l, 1, [V.str z], rfl, rfl, hl1, by decide, by decide, (by show 1 ≤ sizeLine; decide), fun l2 nl2 => ?_⟩
                have s2 : Same H1 (upd H1 l2 (.lst [V.str z])) := same_upd nl2
                have hl2 : (upd H1 l2 (.lst [V.str z])) l2 = some (.lst [V.str z]) := upd_same
                refine ⟨_, rfl, ix _ (s1.trans s2) 1 (.int i) rfl _ ⟨by show 1 ≤ sizeLine; decide, fun l3 nl3 => ⟨by show 2 ≤ sizeLine; decide, fun p9 np9 => ?_⟩⟩⟩
                have s3 := same_upd (o := HO.lst [V.int i]) nl3
                have s4 := same_upd (o := HO.tup [.ref l2, .ref l3]) np9
                exact q p9 l2 l3 _ (((s1.trans s2).trans s3).trans s4) (SqT.of upd_same) (SqL.of (s4 _ _ (s3 _ _ hl2))) (SqL.of (s4 _ _ upd_same))
        · rw [decide_eq_false hu]
          refine iteF ?_
          rcases law_str w' with ⟨e1, e2⟩ | ⟨t, ls, e1, e2, e3, e4, e5⟩
          · rw [shaped_none (d := .tuple (.str w' :: ds)) e2] at hsh
            exact nomatch hsh
          refine ⟨rfl, fun p2 H2 s2 hp2 => ⟨_, rfl, ix H2 s2 0 _ rfl _ ⟨p2, V.str t, rfl, ?_, 119, t, rfl, rfl, _, rfl, ?_⟩⟩⟩
          · have := DGet.k (k := Sum.inr w') hp2
            rw [law_val, e1] at this
            exact this
          · rw [law_w e1]
            by_cases hw : isSpotW w'
            · rw [decide_eq_true hw]
              refine iteF ?_
              obtain ⟨x, rest, rfl, hx⟩ := shaped_spot hw hsh
              cases k2 with
              | cons j1 j2 =>
                rename_i y ys
                refine ⟨_, rfl, ix H2 s2 1 y rfl _ ?_⟩
                rcases where_shape hx with ⟨z, rfl, hz⟩ | ⟨i, rfl, hi⟩
                · rw [spots_pipe hu hw] at q
                  obtain ⟨a2, y0, y1, rfl, S2, d0, d1⟩ := dp_two j1
                  cases d0
                  cases d1
                  have S3 := same_seqT s2 S2
                  refine ⟨_, rfl, .inr (.inl ⟨a2, _, 0, _, rfl, rfl, S3, atI_nat (j := 0) rfl, rfl, _, rfl, ?_⟩)⟩
                  refine iteT ⟨_, rfl, .inr (.inl ⟨a2, _, 1, _, rfl, rfl, S3, atI_nat (j := 1) rfl, by show 1 ≤ sizeLine; decide, fun l nl => ⟨by show 0 ≤ sizeLine; decide, fun l3 nl3 => ⟨by show 2 ≤ sizeLine; decide, fun p9 np9 => ?_⟩⟩⟩)⟩
                  have s3 := same_upd (o := HO.lst [V.str z]) nl
                  have s4 := same_upd (o := HO.lst []) nl3
                  have s5 := same_upd (o := HO.tup [.ref l, .ref l3]) np9
                  exact q p9 l l3 _ (((s2.trans s3).trans s4).trans s5) (SqT.of upd_same) (SqL.of (s5 _ _ (s4 _ _ upd_same))) (SqL.of (s5 _ _ upd_same))
                · rw [spots_slot hu hw] at q
                  obtain ⟨a2, y0, y1, rfl, S2, d0, d1⟩ := dp_two j1
                  cases d0
                  cases d1
                  have S3 := same_seqT s2 S2
                  refine ⟨_, rfl, .inr (.inl ⟨a2, _, 0, _, rfl, rfl, S3, atI_nat (j := 0) rfl, rfl, _, rfl, ?_⟩)⟩
                  refine iteF ⟨by show 0 ≤ sizeLine; decide, fun l nl => ⟨_, rfl, .inr (.inl ⟨a2, _, 1, _, rfl, rfl, same_seqT (same_upd nl) S3, atI_nat (j := 1) rfl, by show 1 ≤ sizeLine; decide, fun l3 nl3 => ⟨by show 2 ≤ sizeLine; decide, fun p9 np9 => ?_⟩⟩)⟩⟩
                  have s3 := same_upd (o := HO.lst []) nl
                  have s4 := same_upd (o := HO.lst [V.int i]) nl3
                  have s5 := same_upd (o := HO.tup [.ref l, .ref l3]) np9
                  exact q p9 l l3 _ (((s2.trans s3).trans s4).trans s5) (SqT.of upd_same) (SqL.of (s5 _ _ (s4 _ _ upd_same))) (SqL.of (s5 _ _ upd_same))
            · rw [decide_eq_false hw]
              rw [spots_other hu hw] at q
              refine iteT ?_
              refine ⟨by show 0 ≤ sizeLine; decide, fun l nl => ⟨by show 0 ≤ sizeLine; decide, fun l3 nl3 => ⟨by show 2 ≤ sizeLine; decide, fun p9 np9 => ?_⟩⟩⟩
              have s3 := same_upd (o := HO.lst []) nl
              have s4 := same_upd (o := HO.lst []) nl3
              have s5 := same_upd (o := HO.tup [.ref l, .ref l3]) np9
              exact q p9 l l3 _ (((s2.trans s3).trans s4).trans s5) (SqT.of upd_same) (SqL.of (s5 _ _ (s4 _ _ upd_same))) (SqL.of (s5 _ _ upd_same))
end
end KV

namespace KV
open PySem PySem.Spec PyProof.Rows L2 RZ
abbrev sLawLot : Stmt := topS 55
theorem same_seqL {K : PySem.W.Frag} {H H' : Hp} {a : Addr} {xs : List V} (e : Same H H') (h : SqL K H a xs) : SqL K H' a xs := by
  rcases h with (h | ⟨o, h⟩) | h
  · exact .inl (.inl (e _ _ h))
  · exact .inl (.inr ⟨o, e _ _ h⟩)
  · exact .inr h
theorem call_len_seqL {X : Cx} {K : PySem.W.Frag} (h : X.K = K) : CallR X (.builtin "len") (fun xs H Q => ∃ p ys, xs = [.ref p] ∧ (SqL K H p ys ∨ SqT K H p ys) ∧ Q (.int ys.length) H) := by
  subst h
  exact call_len_seq
def rNotInSq (K : PySem.W.Frag) : R2 := fun x y H Q => ∃ d e ds, Dp K H x d ∧ Dp K H y e ∧ seqD e ds ∧ PyData.canLayAll0 ds = true ∧ d.canLay0 = true ∧ PyData.depthAll ds = 0 ∧ Q (.bl (!(ds.any fun z => PyData.eqv z d))) H
theorem op_notInSq {X : Cx} {K : PySem.W.Frag} (hK : X.K = K) (hu : X.A.units + 64 < cLine) : OpR X (compareOp .NotIn) (rNotInSq K) := by
  subst hK
  intro pins s σ H x y v u Q I rx ry h
  obtain ⟨d, e, ds, hd, he, hs, c1, c2, d0, q⟩ := h
  obtain ⟨as, r1⟩ := Dp.reads I d x v hd rx
  have hm := Nat.min_le_left (PyData.depthAll ds) d.depth
  rcases hs with rfl | rfl
  · obtain ⟨bs, r2⟩ := Dp.reads I (.tuple ds) y u he ry
    refine SeqAt.notIn_tuple_reads r2 r1 c1 c2 ?_ ⟨.bl _, H, I, rfl, q⟩
    omega
  · obtain ⟨bs, r2⟩ := Dp.reads I (.list ds) y u he ry
    refine SeqAt.notIn_list_reads r2 r1 c1 c2 ?_ ⟨.bl _, H, I, rfl, q⟩
    omega
theorem standsL_eq {rs : List RqA} {n : Nat} (h : ∀ j, j < n → ∀ r, rs[j]? = some r → ltA r = true → bindsA r = false) : standsL rs n = standsA rs n := by
  unfold standsL standsA
  cases hr : rs[n]? with
  | none => rfl
  | some r =>
    show (if ltA r = true then decide (0 < n) && (match rs[n - 1]? with | some r' => !ltA r' && bindsA r' | none => false) else _) = (if ltA r = true then decide (0 < n) && bindsAt rs (n - 1) else _)
    by_cases hl : ltA r = true
    · rw [if_pos hl, if_pos hl]
      by_cases h0 : 0 < n
      · congr 1
        unfold bindsAt
        cases hr' : rs[n - 1]? with
        | none => rfl
        | some r' =>
          show (!ltA r' && bindsA r') = bindsA r'
          cases hl' : ltA r' with
          | false => rfl
          | true =>
            rw [h (n - 1) (by omega) r' hr' hl']
            rfl
      · rw [decide_eq_false h0]
        rfl
    · rw [if_neg hl, if_neg hl]
theorem flags_lt {r : RqA} (h : flagsA r.word r.rest r.words = true) (hl : ltA r = true) : bindsA r = false := by
  unfold flagsA at h
  rw [Bool.and_eq_true] at h
  have h2 := h.2
  unfold mayAllA at h2
  rw [if_pos (of_decide_eq_true hl)] at h2
  have e := of_decide_eq_true h2
  unfold bindsA
  rw [e]
  rfl
theorem wish_all {es : List PyData} (h : es.all wishD = true) : ∃ rs : List RqA, es = rs.map rqa ∧ ∀ r ∈ rs, shapedD (.tuple (.str r.word :: r.rest)) = true ∧ ∀ x ∈ r.words, x ∈ flagWords := by
  induction es with
  | nil => exact ⟨[], rfl, fun r hr => absurd hr List.not_mem_nil⟩
  | cons e es ih =>
    rw [List.all_cons, Bool.and_eq_true] at h
    obtain ⟨rs, rfl, i2⟩ := ih h.2
    obtain ⟨r, rfl, _, h2, h3⟩ := wish_read h.1
    refine ⟨r :: rs, rfl, fun r' hr => ?_⟩
    rcases List.mem_cons.mp hr with z | z
    · rw [z]
      exact ⟨h2, h3⟩
    · exact i2 r' z
theorem read_all (rs : List RqA) : (rs.map rqa).map readA = rs := by
  rw [List.map_map]
  have e : (readA ∘ rqa) = id := by
    funext r
    exact read_rqa r
  rw [e, List.map_id]
def turnA (ps : List Str) (m : Nat) (rs : List RqA) (j : Nat) : Bool := (match rs[j]? with | some r => askA ps m r | none => true) && standsA rs j
theorem lawLot_all {ps : List Str} {m : Nat} {rs : List RqA} (h : (rs.map rqa).all wishD = true) (h0 : ¬ rs.length = 0) : lawLotD ps m (.tuple (rs.map rqa)) = ((List.range rs.length).all (turnA ps m rs) && decide (rs.map RqA.tag).Nodup) := by
  show (!decide ((rs.map rqa).length = 0) && ((rs.map rqa).all wishD && ((List.range (rs.map rqa).length).all (fun j => (match ((rs.map rqa).map readA)[j]? with | some r => askA ps m r | none => true) && standsA ((rs.map rqa).map readA) j) && decide (((rs.map rqa).map readA).map RqA.tag).Nodup))) = _
  rw [h, read_all, List.length_map, decide_eq_false h0]
  rfl
theorem turn_false {ps : List Str} {m : Nat} {rs : List RqA} {n : Nat} (hn : n < rs.length) (h : turnA ps m rs n = false) : (List.range rs.length).all (turnA ps m rs) = false := by
  rw [List.all_eq_false]
  exact ⟨n, List.mem_range.mpr hn, by rw [h]; exact Bool.false_ne_true⟩
theorem filt_nil {α : Type} (l : List α) (f : α → Bool) : (l.filter fun x => !f x).isEmpty = l.all f := by
  induction l with
  | nil => rfl
  | cons a l ih =>
    rw [List.filter_cons, List.all_cons]
    cases f a with
    | true => simpa using ih
    | false => rfl
theorem shaped_ints (is : List Int) : SeqAt.shaped (.list (is.map PyData.int)) = true := by
  have h1 : ∀ is : List Int, PyData.canLayAll0 (is.map PyData.int) = true := fun is => by
    induction is with
    | nil => rfl
    | cons i is ih => simp only [List.map_cons, PyData.canLayAll0, PyData.canLay0, ih, Bool.and_self]
  have h2 : ∀ is : List Int, PyData.depthAll (is.map PyData.int) = 0 := fun is => by
    induction is with
    | nil => simp [PyData.depthAll]
    | cons i is ih => simp [PyData.depthAll, PyData.depth, ih]
  show (PyData.canLay0 (.list _) && decide (PyData.depth (.list _) ≤ 64)) = true
  simp only [PyData.canLay0, PyData.depth, h1, h2]
  decide
theorem dps_ints {K : PySem.W.Frag} {H : Hp} : ∀ is : List Int, DpAll K H (is.map V.int) (is.map PyData.int)
  | [] => .nil
  | i :: is => .cons (.int i) (dps_ints is)
section
variable {P : Program} {w : World} {K : PySem.W.Frag} {mg : Str → Option Value} {base : Heap}
def spLawLot (K : PySem.W.Frag) : Sp := fun vs H Q _ => ∃ (sv v : V) (ps : List Str) (m : Nat) (d : PyData), vs = [sv, v] ∧ SetA K H sv ps m ∧ Dp K H v d ∧ fineD d ∧ ∀ H', Same H H' → Q (.bl (lawLotD ps m d)) H'
abbrev nLawLot : List Str := ["_law_setup_so", "_law_matter", "_law_names_so", "_law_at", "_law_wish", "_law_pipes_so", "_law_slots_so", "_law_bit"]
theorem scLawLot : FnScope nLawLot ["_law_setup_so", "_law_matter"] (defScope sLawLot) :=
  ⟨rfl, rfl, rfl, by decide +kernel, rfl, by decide +kernel, by decide +kernel⟩
theorem ok_lawLot {f fW fS fF fT : Addr} {fd fdW fdS fdF fdT : FuncData} {k : Nat} (F : Fun K "_law_is_lot" "_law_is_lot" sLawLot f fd)
    (FW : Fun K "_law_is_wish" "_law_is_wish" sIsWish fW fdW) (bW : Binds K fdW ["_law_matter"] []) (mW : mg "_law_is_wish" = some (.ref fW)) (GW : FnOk P w K mg base CX0 k fW fdW ["_law_matter"] (spWish K))
    (FS : Fun K "_law_spots" "_law_spots" sSpots fS fdS) (bS : Binds K fdS ["_law_deed_so"] []) (mS : mg "_law_spots" = some (.ref fS)) (GS : FnOk P w K mg base CX0 k fS fdS ["_law_deed_so"] (spSpots K))
    (FF : Fun K "_law_flags_right" "_law_flags_right" sFlagsR fF fdF) (bF : Binds K fdF ["_law_wish"] []) (mF : mg "_law_flags_right" = some (.ref fF)) (GF : FnOk P w K mg base CX0 k fF fdF ["_law_wish"] (spFlagsR K))
    (FT : Fun K "_law_stands_right" "_law_stands_right" sStandsR fT fdT) (bT : Binds K fdT ["_law_batch", "_law_at"] []) (mT : mg "_law_stands_right" = some (.ref fT)) (GT : FnOk P w K mg base CX0 k fT fdT ["_law_batch", "_law_at"] (spStandsL K))
    (mi : mg "isinstance" = none) (mt : mg "tuple" = none) (ma : mg "all" = none) (me : mg "len" = none) (mst : mg "set" = none) (men : mg "enumerate" = none) : FnOk P w K mg base CX0 (k + 1) f fd ["_law_setup_so", "_law_matter"] (spLawLot K) := by
  refine F.ok scLawLot (fun vs H Q E h => ?_) (fun cdv A outer s H vs Q E hr h => ?_)
  · obtain ⟨sv, v, ps, m, d, rfl, _⟩ := h
    rfl
  · obtain ⟨sv, v, ps, m, d, rfl, hs, hd, hf, q⟩ := h
    refine ⟨_, pss_cons (ps_if (PW.pt (pw_or (pt_not (pt_val (pe_callB (cr_isOne "tuple") (by rfl) mi boot_isinstance (pa_cons (pv 1) (pa_cons (pe_bltn (v := .ty "tuple") (by rfl) mt (by decide +kernel) rfl) pa_nil)))))
          (pw_or (pt_cmpR (op_eqD hr.units) (pv 1) (pl_tup (K := K) pls_nil) (nomark _))
          (pw_or1 (pt_not (pt_val (pe_callB (cr_all rfl) (by rfl) ma boot_all (pa_cons
            (pe_lc (own := [("_law_bit", 7)]) (g := gName 7) (tt := tYes) rfl scLawLot.nd (pi_tup (pv 1)) (blkOk_by (N := nLawLot) (sc := defScope sLawLot) (by decide +kernel))
              (fun _ _ _ _ _ => pg_name (i := 7) scLawLot.nd rfl (Or.inl rfl)) (fun _ _ _ _ _ => pts_nil) (fun _ _ _ _ _ => pe_call GW hr (by rfl) mW FW.kp bW .nil pass0 (pa_cons (pv 7) pa_nil))) pa_nil)))))))) (pss_one (ps_ret pe_bl)) pss_nil)
      (pss_cons (ps_setLc (i := 2) (own := [("_law_bit", 7)]) (g := gName 7) (tt := tYes) rfl scLawLot.nd rfl rfl (sw_true rfl rfl rfl (by decide +kernel)) (pi_tup (pv 1)) (blkOk_by (N := nLawLot) (sc := defScope sLawLot) (by decide +kernel))
          (fun _ _ _ _ _ => pg_name (i := 7) scLawLot.nd rfl (Or.inl rfl)) (fun _ _ _ _ _ => pts_nil) (fun _ _ _ _ _ => pe_ix (ix_seqL (K := K) rfl) (pv 7) pe_int (fun _ _ => rfl)))
      (pss_cons (ps_for PassesOwn.never rfl (pi_enumT (by rfl) men (pa_cons (pv 1) pa_nil)) (pg_tup rfl (pgs_cons (pg_name (i := 3) scLawLot.nd rfl (.inl rfl)) (pgs_cons (pg_name (i := 4) scLawLot.nd rfl (.inl rfl)) pgs_nil)))
        (pss_cons (ps_asg (pe_call GS hr (by rfl) mS FS.kp bS .nil pass0 (pa_cons (pe_ix ix_seq (pv 4) pe_int (fun _ _ => rfl)) pa_nil)) (pg_tup rfl (pgs_cons (pg_name (i := 5) scLawLot.nd rfl (.inl rfl)) (pgs_cons (pg_name (i := 6) scLawLot.nd rfl (.inl rfl)) pgs_nil))))
        (pss_cons (ps_if (PW.pt (pw_or (pt_not (pt_val (pe_call GF hr (by rfl) mF FF.kp bF .nil pass0 (pa_cons (pv 4) pa_nil))))
            (pw_or1 (pt_not (pt_val (pe_call GT hr (by rfl) mT FT.kp bT .nil pass0 (pa_cons (pv 1) (pa_cons (pv 3) pa_nil)))))))) (pss_one (ps_ret pe_bl)) pss_nil)
        (pss_cons (ps_if (pt_cmpR (op_neD hr.units) (pe_lc (own := [("_law_bit", 7)]) (g := gName 7) rfl scLawLot.nd (pi_list (pv 5)) (blkOk_by (N := nLawLot) (sc := defScope sLawLot) (by decide +kernel))
            (fun _ _ _ _ _ => pg_name (i := 7) scLawLot.nd rfl (Or.inl rfl)) (fun _ _ _ _ _ => pts_one (pt_cmpR (op_notInSq (K := K) rfl hr.units) (pv 7) (pe_ix (ix_seqL (K := K) rfl) (pv 0) pe_int (fun _ _ => rfl)) (by rfl))) (fun _ _ _ _ _ => pv 7)) (pe_lst pa_nil) (nomark _)) (pss_one (ps_ret pe_bl)) pss_nil)
        (pss_one (ps_if (pt_cmpR (op_neD hr.units) (pe_lc (own := [("_law_bit", 7)]) (g := gName 7) rfl scLawLot.nd (pi_list (pv 6)) (blkOk_by (N := nLawLot) (sc := defScope sLawLot) (by decide +kernel))
            (fun _ _ _ _ _ => pg_name (i := 7) scLawLot.nd rfl (Or.inl rfl)) (fun _ _ _ _ _ => pts_one (pt_cmpR op_ge (pv 7) (pe_callB (call_len_seqL (K := K) rfl) (by rfl) me PySem.boot_len (pa_cons (pe_ix (ix_seqL (K := K) rfl) (pv 0) pe_int (fun _ _ => rfl)) pa_nil)) (nomark _))) (fun _ _ _ _ _ => pv 7)) (pe_lst pa_nil) (nomark _)) (pss_one (ps_ret pe_bl)) pss_nil))))))
      (pss_one (ps_ret (pe_cmpR op_eq (pe_callB cr_lenT (by rfl) me PySem.boot_len (pa_cons (pe_callTy (cr_setL rfl) (by rfl) mst PyProof.Rows.boot_set (pa_cons (pv 2) pa_nil)) pa_nil)) (pe_callB call_len_seq (by rfl) me PySem.boot_len (pa_cons (pv 2) pa_nil)) (nomark _)))))), ?_⟩
    have q0 : lawLotD ps m d = false → ∀ H', Same H H' → Q (.bl false) H' := fun e H' s' => by
      have := q H' s'
      rw [e] at this
      exact this
    have s0 : Same H H := fun _ _ z => z
    have hv := hd
    cases hd with
    | non => exact ⟨_, rfl, ⟨_, _, rfl, hv, false, (show kitB "NoneType" "tuple" = some false by decide +kernel), _, rfl, iteT (iteT (q0 rfl H s0))⟩⟩
    | bl c => exact ⟨_, rfl, ⟨_, _, rfl, hv, false, (show kitB "bool" "tuple" = some false by decide +kernel), _, rfl, iteT (iteT (q0 rfl H s0))⟩⟩
    | int c => exact ⟨_, rfl, ⟨_, _, rfl, hv, false, (show kitB "int" "tuple" = some false by decide +kernel), _, rfl, iteT (iteT (q0 rfl H s0))⟩⟩
    | str c => exact ⟨_, rfl, ⟨_, _, rfl, hv, false, (show kitB "str" "tuple" = some false by decide +kernel), _, rfl, iteT (iteT (q0 rfl H s0))⟩⟩
    | lst h1 h2 => exact ⟨_, rfl, ⟨_, _, rfl, hv, false, (show kitB "list" "tuple" = some false by decide +kernel), _, rfl, iteT (iteT (q0 rfl H s0))⟩⟩
    | tup h1 h2 =>
      rename_i a xs es
      have hl := dps_len h2
      have hlen := hf.len
      refine ⟨_, rfl, ⟨_, _, rfl, hv, true, (show kitB "tuple" "tuple" = some true by decide +kernel), _, rfl, iteF ?_⟩⟩
      refine ⟨_, rfl, fun y9 H1 s1 dy => ⟨.tuple es, .tuple [], dp_same s1 hv, dy, hf.shaped, by decide +kernel, _, rfl, ?_⟩⟩
      cases hes : es with
      | nil =>
        subst hes
        exact iteT (iteT (q0 rfl H1 s1))
      | cons e0 es0 =>
        have hne : ¬ es.length = 0 := by rw [hes, List.length_cons]; omega
        rw [← hes]
        refine iteBF (by rw [hes]; rfl) ?_
        have h1' := same_seqT s1 h1
        refine ⟨_, rfl, a, rfl, ⟨xs, h1'⟩, fun D nD => lc_flags (K := K) (walk_tup (xs := xs)) (dps_same s1 h2) nD (by omega) (fun H2 s2 => same_seqT s2 h1') wishD
          (fun j x e2 H2 Q2 he s2 dx k2 => ⟨_, rfl, x, e2, rfl, dx, hf.mem (List.mem_of_getElem? he), k2⟩) fun H2 s2 hD2 => ⟨D, _, rfl, SqL.of hD2, ?_⟩⟩
        rw [List.all_map]
        have eall : es.all (id ∘ wishD) = es.all wishD := rfl
        rw [eall]
        refine ⟨_, rfl, ?_⟩
        have s2' := s1.trans s2
        cases he : es.all wishD with
        | false =>
          refine iteT (q0 ?_ H2 s2')
          show (!decide (es.length = 0) && (es.all wishD && _)) = false
          rw [he, Bool.false_and, Bool.and_false]
        | true =>
          refine iteF ?_
          obtain ⟨rs, rfl, hrs⟩ := wish_all he
          rw [List.length_map] at hne hlen hl
          have eL := lawLot_all (ps := ps) (m := m) he hne
          clear hes
          have h12 := same_seqT s2' h1
          refine ⟨_, rfl, a, rfl, ⟨xs, h12⟩, fun D3 nD3 => lc_it (walk_tup (xs := xs)) (fun j H3 => SameX [D3] H2 H3 ∧ H3 D3 = some (.lst (((rs.take j).map RqA.tag).map V.str))) ⟨sameX_upd List.mem_cons_self, upd_same⟩
            (fun j H3 _ h3 => same_seqT (fun c o e => h3.1 c o (fun z => ne_of_none e nD3 (List.mem_singleton.mp z)) e) h12) ?_ ?_⟩
          · rintro j x H3 H3' hj ⟨hs3, hD3⟩ ⟨rfl, hx⟩
            have b3 : Same H2 H3' := fun c o e => hs3 c o (fun z => ne_of_none e nD3 (List.mem_singleton.mp z)) e
            obtain ⟨d, hd1, hdp⟩ := dps_get (dps_same (s2'.trans b3) h2) hx
            rw [List.getElem?_map] at hd1
            obtain ⟨r, hr1, rfl⟩ := Option.map_eq_some_iff.mp hd1
            obtain ⟨p, a1, b1, xs1, rfl, g1, g2, g3⟩ := rqa_parts hdp
            refine ⟨rfl, tYes_ok ⟨_, rfl, .inr (.inl ⟨p, _, 0, _, rfl, rfl, g1, atI_nat (j := 0) rfl, _, hD3, ?_, ?_, ?_⟩)⟩⟩
            · rw [List.length_map, List.length_map, List.length_take]
              exact small1000 (by omega)
            · exact hs3.trans (sameX_upd List.mem_cons_self)
            · rw [upd_same, take_snoc hr1, List.map_append, List.map_append]
              rfl
          · rintro H3 ⟨hs3, hD3⟩
            have b3 : Same H2 H3 := fun c o e => hs3 c o (fun z => ne_of_none e nD3 (List.mem_singleton.mp z)) e
            have eT : rs.take xs.length = rs := List.take_of_length_le (by omega)
            rw [eT] at hD3
            have s3 := s2'.trans b3
            have h13 := same_seqT s3 h1
            refine ⟨_, rfl, a, xs, rfl, h13, for_it (walk_enumT (xs := xs)) (fun j σ H4 => ∃ y3 y4 y5 y6, σ = [some sv, some (.ref a), some (.ref D3), y3, y4, y5, y6, none] ∧ Same H3 H4 ∧ ∀ i < j, turnA ps m rs i = true)
              ⟨none, none, none, none, rfl, fun _ _ z => z, fun i hi => absurd hi (Nat.not_lt_zero _)⟩ (fun j σ H4 _ hp => ?_) ?_ ?_⟩
            · obtain ⟨_, _, _, _, _, s4, _⟩ := hp
              exact same_seqT s4 h13
            · rintro n x σ H4 H5 hn ⟨y3, y4, y5, y6, rfl, s4, hall⟩ ⟨T, x0, x1, rfl, nT, rfl, e0, e1⟩
              cases e0
              have hnr : n < rs.length := by omega
              obtain ⟨dd, hd1, hdp⟩ := dps_get (dps_same (s3.trans s4) h2) e1
              rw [List.getElem?_map] at hd1
              obtain ⟨r, hr1, rfl⟩ := Option.map_eq_some_iff.mp hd1
              have hrm : r ∈ rs := List.mem_of_getElem? hr1
              obtain ⟨hsh, hfw⟩ := hrs r hrm
              have sT := same_upd (o := HO.tup [.int (n : Nat), x1]) nT
              refine ⟨T, _, rfl, SqT.of upd_same, rfl, _, _, rfl, _, _, rfl, rfl, ?_⟩
              generalize upd H4 T (.tup [.int (n : Nat), x1]) = H5 at sT
              have s5 := (s3.trans s4).trans sT
              have dx := dp_same sT hdp
              obtain ⟨p1, a1, b1, xs1, rfl, g1, g2, g3, g4⟩ := rqa_partsD dx
              have dW : Dp K H5 (.ref a1) (.tuple (.str r.word :: r.rest)) := .tup g2 (.cons (.str _) g4)
              have fail : turnA ps m rs n = false → ∀ H', Same H H' → Q (.bl false) H' := fun e H' s' => q0 (by rw [eL, turn_false hnr e, Bool.false_and]) H' s'
              have et : turnA ps m rs n = (askA ps m r && standsA rs n) := by
                unfold turnA
                rw [hr1]
              have ea : askA ps m r = (spotsD ps m r.word r.rest && flagsA r.word r.rest r.words) := rfl
              refine ⟨_, rfl, .inr (.inl ⟨p1, _, 1, .ref a1, rfl, rfl, g1, atI_nat (j := 1) rfl, .ref a1, r.word, r.rest, rfl, dW, hsh, fun pp la lb H6 s6 S1 S2 S3 => ?_⟩)⟩
              refine ⟨pp, _, rfl, S1, rfl, _, _, rfl, _, _, rfl, rfl, ?_⟩
              have s56 := s5.trans s6
              have dx6 := dp_same s6 dx
              refine ⟨_, rfl, _, r, rfl, dx6, hf.mem (List.mem_map_of_mem hrm), hsh, hfw, ?_, fun H7 s7 => ⟨_, rfl, ?_⟩⟩
              · have z := (hf.mem (List.mem_map_of_mem hrm)).mem (List.mem_cons_of_mem _ (List.mem_cons_of_mem _ List.mem_cons_self)) |>.len
                rw [List.length_map] at z
                exact z
              cases hfl : flagsA r.word r.rest r.words with
              | false => exact iteT (iteT (fail (by rw [et, ea, hfl, Bool.and_false, Bool.false_and]) H7 (s56.trans s7)))
              | true =>
                refine iteF ⟨_, rfl, _, rfl, _, rs, n, rfl, dp_same (s56.trans s7) hv, hf, hnr, fun H8 s8 => ⟨_, rfl, ?_⟩⟩
                have s08 := (s56.trans s7).trans s8
                have est : standsL rs n = standsA rs n := standsL_eq fun j hj r' hr' hlt => by
                  have z := hall j hj
                  unfold turnA at z
                  rw [hr', Bool.and_eq_true] at z
                  have z1 : (spotsD ps m r'.word r'.rest && flagsA r'.word r'.rest r'.words) = true := z.1
                  rw [Bool.and_eq_true] at z1
                  exact flags_lt z1.2 hlt
                rw [est]
                cases hst : standsA rs n with
                | false => exact iteT (fail (by rw [et, hst, Bool.and_false]) H8 s08)
                | true =>
                  refine iteF ?_
                  have S28 := same_seqL (s7.trans s8) S2
                  have S38 := same_seqL (s7.trans s8) S3
                  obtain ⟨z1, z2, z3⟩ := spots_small hsh
                  have esp := spots_eq (ps := ps) (m := m) hsh
                  have etu : turnA ps m rs n = spotsD ps m r.word r.rest := by rw [et, ea, hfl, hst, Bool.and_true, Bool.and_true]
                  rw [esp] at etu
                  generalize (spotsA r.word r.rest).1 = ps1 at S28 z1 z3 etu
                  generalize (spotsA r.word r.rest).2 = is1 at S38 z2 etu
                  refine ⟨_, rfl, la, rfl, ⟨_, S28⟩, fun D5 nD5 => lc_it (walk_list (xs := ps1.map V.str)) (fun j H9 => SameX [D5] H8 H9 ∧ H9 D5 = some (.lst (((ps1.take j).filter fun x => !decide (x ∈ ps)).map V.str))) ⟨sameX_upd List.mem_cons_self, upd_same⟩
                    (fun j H9 _ h9 => same_seqL (fun c o e => h9.1 c o (fun z => ne_of_none e nD5 (List.mem_singleton.mp z)) e) S28) ?_ ?_⟩
                  · rintro j x H9 H9' hj ⟨hs9, hD9⟩ ⟨rfl, hx⟩
                    rw [List.length_map] at hj
                    have b9 : Same H8 H9' := fun c o e => hs9 c o (fun z => ne_of_none e nD5 (List.mem_singleton.mp z)) e
                    rw [List.getElem?_map] at hx
                    obtain ⟨z, hz, rfl⟩ := Option.map_eq_some_iff.mp hx
                    obtain ⟨x2, y2, c2, e2, es2, hc2, he2, hle2, hx2, hy2, i2, i3⟩ := (hs.same (s08.trans b9)).ix
                    refine ⟨rfl, _, rfl, _, rfl, i2 _ ⟨.str z, c2, _, .str z, hx2, hc2, hs.lay, by simp only [PyData.canLay0, z3 z (List.mem_of_getElem? hz)], depth_strs _, _, rfl, ?_⟩⟩
                    rw [eqv_pipe]
                    have ef : (ps1.take (j + 1)).filter (fun x => !decide (x ∈ ps)) = (ps1.take j).filter (fun x => !decide (x ∈ ps)) ++ (if (!decide (z ∈ ps)) = true then [z] else []) := by
                      rw [take_snoc hz, List.filter_append, List.filter_cons, List.filter_nil]
                    show if (!decide (z ∈ ps)) = true then _ else _
                    cases hk : (!decide (z ∈ ps)) with
                    | true =>
                      rw [hk] at ef
                      refine iteT ⟨_, rfl, _, hD9, small1000 ?_, hs9.trans (sameX_upd List.mem_cons_self), ?_⟩
                      · rw [List.length_map]
                        have h1 := List.length_filter_le (fun x => !decide (x ∈ ps)) (ps1.take j)
                        rw [List.length_take] at h1
                        omega
                      · rw [upd_same, ef, List.map_append]
                        rfl
                    | false =>
                      rw [hk] at ef
                      refine iteF ⟨hs9, ?_⟩
                      rw [ef]
                      simpa using hD9
                  · rintro H9 ⟨hs9, hD9⟩
                    have b9 : Same H8 H9 := fun c o e => hs9 c o (fun z => ne_of_none e nD5 (List.mem_singleton.mp z)) e
                    rw [List.length_map, List.take_length] at hD9
                    refine ⟨by show 0 ≤ sizeLine; decide, fun pe9 npe => ?_⟩
                    have s9e := same_upd (o := HO.lst []) npe
                    have s09 := (s08.trans b9).trans s9e
                    have okF : ∀ t ∈ ps1.filter (fun x => !decide (x ∈ ps)), PyData.strOk t = true := fun t ht => z3 t ((List.mem_filter.mp ht).1)
                    refine ⟨.list ((ps1.filter fun x => !decide (x ∈ ps)).map PyData.str), .list [], .lst (SqL.of (s9e _ _ hD9)) (dps_strs _), .lst (SqL.of upd_same) .nil, shaped_texts okF, shaped_nilL, _, rfl, ?_⟩
                    rw [eqv_nilD]
                    have ei : ((ps1.filter fun x => !decide (x ∈ ps)).map PyData.str).isEmpty = ps1.all fun x => decide (x ∈ ps) := by
                      rw [List.isEmpty_map, filt_nil]
                    rw [ei]
                    generalize upd H9 pe9 (.lst []) = H10 at s9e s09
                    cases hp1 : ps1.all fun x => decide (x ∈ ps) with
                    | false =>
                      rw [hp1, Bool.false_and] at etu
                      exact iteT (fail etu H10 s09)
                    | true =>
                      rw [hp1, Bool.true_and] at etu
                      refine iteF ?_
                      have S310 := same_seqL (b9.trans s9e) S38
                      refine ⟨_, rfl, lb, rfl, ⟨_, S310⟩, fun D6 nD6 => lc_it (walk_list (xs := is1.map V.int)) (fun j H11 => SameX [D6] H10 H11 ∧ H11 D6 = some (.lst (((is1.take j).filter fun x => !decide (x < (m : Int))).map V.int))) ⟨sameX_upd List.mem_cons_self, upd_same⟩
                        (fun j H11 _ h11 => same_seqL (fun c o e => h11.1 c o (fun z => ne_of_none e nD6 (List.mem_singleton.mp z)) e) S310) ?_ ?_⟩
                      · rintro j x H11 H11' hj ⟨hs11, hD11⟩ ⟨rfl, hx⟩
                        rw [List.length_map] at hj
                        have b11 : Same H10 H11' := fun c o e => hs11 c o (fun z => ne_of_none e nD6 (List.mem_singleton.mp z)) e
                        rw [List.getElem?_map] at hx
                        obtain ⟨z, hz, rfl⟩ := Option.map_eq_some_iff.mp hx
                        obtain ⟨x2, y2, c2, e2, es2, hc2, he2, hle2, hx2, hy2, i2, i3⟩ := (hs.same (s09.trans b11)).ix
                        refine ⟨rfl, _, rfl, _, rfl, i3 _ ?_⟩
                        obtain ⟨p3, ys3, rfl, hq3, hl3⟩ : ∃ p3 ys3, y2 = .ref p3 ∧ (SqL K H11' p3 ys3 ∨ SqT K H11' p3 ys3) ∧ ys3.length = m := by
                          rcases he2 with rfl | rfl
                          · cases hy2 with
                            | tup k1 k2 => exact ⟨_, _, rfl, .inr k1, by rw [dps_len k2, hle2]⟩
                          · cases hy2 with
                            | lst k1 k2 => exact ⟨_, _, rfl, .inl k1, by rw [dps_len k2, hle2]⟩
                        refine ⟨p3, ys3, rfl, hq3, _, _, rfl, rfl, _, rfl, ?_⟩
                        rw [hl3]
                        have ed : decide ((m : Int) ≤ z) = !decide (z < (m : Int)) := by
                          rw [Bool.eq_iff_iff, decide_eq_true_eq, Bool.not_eq_true', decide_eq_false_iff_not]
                          omega
                        rw [ed]
                        have ef : (is1.take (j + 1)).filter (fun x => !decide (x < (m : Int))) = (is1.take j).filter (fun x => !decide (x < (m : Int))) ++ (if (!decide (z < (m : Int))) = true then [z] else []) := by
                          rw [take_snoc hz, List.filter_append, List.filter_cons, List.filter_nil]
                        cases hk : (!decide (z < (m : Int))) with
                        | true =>
                          rw [hk] at ef
                          refine iteT ⟨_, rfl, _, hD11, small1000 ?_, hs11.trans (sameX_upd List.mem_cons_self), ?_⟩
                          · rw [List.length_map]
                            have h1 := List.length_filter_le (fun x => !decide (x < (m : Int))) (is1.take j)
                            rw [List.length_take] at h1
                            omega
                          · rw [upd_same, ef, List.map_append]
                            rfl
                        | false =>
                          rw [hk] at ef
                          refine iteF ⟨hs11, ?_⟩
                          rw [ef]
                          simpa using hD11
                      · rintro H11 ⟨hs11, hD11⟩
                        have b11 : Same H10 H11 := fun c o e => hs11 c o (fun z => ne_of_none e nD6 (List.mem_singleton.mp z)) e
                        rw [List.length_map, List.take_length] at hD11
                        refine ⟨by show 0 ≤ sizeLine; decide, fun pe11 npe2 => ?_⟩
                        have s11e := same_upd (o := HO.lst []) npe2
                        have s011 := (s09.trans b11).trans s11e
                        refine ⟨.list ((is1.filter fun x => !decide (x < (m : Int))).map PyData.int), .list [], .lst (SqL.of (s11e _ _ hD11)) (dps_ints _), .lst (SqL.of upd_same) .nil, shaped_ints _, shaped_nilL, _, rfl, ?_⟩
                        rw [eqv_nilD]
                        have ei : ((is1.filter fun x => !decide (x < (m : Int))).map PyData.int).isEmpty = is1.all fun x => decide (x < (m : Int)) := by
                          rw [List.isEmpty_map, filt_nil]
                        rw [ei]
                        generalize upd H11 pe11 (.lst []) = H12 at s11e s011
                        cases hp2 : is1.all fun x => decide (x < (m : Int)) with
                        | false =>
                          rw [hp2] at etu
                          exact iteT (fail etu H12 s011)
                        | true =>
                          rw [hp2] at etu
                          refine iteF ⟨_, _, _, _, rfl, ?_, fun i hi => ?_⟩
                          · exact ((((s4.trans sT).trans s6).trans (s7.trans s8)).trans (b9.trans s9e)).trans (b11.trans s11e)
                          · rcases Nat.lt_succ_iff_lt_or_eq.mp hi with h | h
                            · exact hall i h
                            · rw [h]
                              exact etu
            · rintro σ H4 ⟨y3, y4, y5, y6, rfl, s4, hall⟩
              rw [hl] at hall
              have hall2 : (List.range rs.length).all (turnA ps m rs) = true := by
                rw [List.all_eq_true]
                intro j hj
                exact hall j (List.mem_range.mp hj)
              rw [hall2, Bool.true_and] at eL
              have hD4 := s4 _ _ hD3
              refine ⟨_, rfl, D3, rs.map RqA.tag, rfl, SqL.of hD4, by rw [List.length_map]; omega, fun a' l hna nd hm => ⟨a', l, rfl, upd_same, _, rfl, D3, _, rfl, .inl (SqL.of (same_upd hna _ _ hD4)), rfl, ?_⟩⟩
              have en : decide (V.int (l.length : Int) = V.int (((rs.map RqA.tag).map V.str).length : Int)) = decide (rs.map RqA.tag).Nodup := by
                rw [← set_len nd hm, Bool.eq_iff_iff, decide_eq_true_eq, decide_eq_true_eq, List.length_map]
                exact ⟨fun z => by injection z with z; omega, fun z => congrArg V.int (by omega)⟩
              rw [en, ← eL]
              exact q _ ((s3.trans s4).trans (same_upd hna))
end
end KV

namespace KV
open PySem PySem.Spec PyProof.Rows L2 RZ
/-! ### drawn lots are LOTs: data alone -/
def deedA : PyData → Str × List PyData
  | .tuple (.str w :: ds) => (w, ds)
  | _ => (Str.empty, [])
def mainR (it : It) : RqA := ⟨it.tag, (deedA it.deed).1, (deedA it.deed).2, itWords it⟩
def timR (t : Str × Int) : RqA := ⟨t.1, "linktimeout", [.int t.2], []⟩
def tmRs : Option (Str × Int) → List RqA
  | none => []
  | some t => [timR t]
def itRs (it : It) : List RqA := mainR it :: tmRs it.timer
def lotRs (its : List It) : List RqA := its.flatMap itRs
theorem main_rqa {it : It} {ps : List Str} {m : Nat} {gs : List Str} (h : DeedD ps m gs it.deed) : rqa (mainR it) = itD it := by
  obtain ⟨w, ⟨rest, e⟩, _⟩ := h.word
  show PyData.tuple [.str it.tag, .tuple (.str (deedA it.deed).1 :: (deedA it.deed).2), .tuple ((itWords it).map PyData.str)] = .tuple [.str it.tag, it.deed, .tuple ((itWords it).map PyData.str)]
  rw [e]
  rfl
theorem lot_rqas {its : List It} (h : ∀ it ∈ its, ∃ ps m gs, DeedD ps m gs it.deed) : lotDs its = (lotRs its).map rqa := by
  induction its with
  | nil => rfl
  | cons it its ih =>
    have e1 : lotDs (it :: its) = itDs it ++ lotDs its := by simp [lotDs]
    have e2 : lotRs (it :: its) = itRs it ++ lotRs its := by simp [lotRs]
    obtain ⟨ps, m, gs, hd⟩ := h it List.mem_cons_self
    rw [e1, e2, List.map_append, ih fun x hx => h x (List.mem_cons_of_mem _ hx)]
    congr 1
    show itD it :: tmDs it.timer = rqa (mainR it) :: (tmRs it.timer).map rqa
    rw [main_rqa hd]
    cases it.timer <;> rfl
theorem lot_tags (its : List It) : (lotRs its).map RqA.tag = lotTags its := by
  induction its with
  | nil => rfl
  | cons it its ih =>
    have e1 : lotTags (it :: its) = itTags it ++ lotTags its := by simp [lotTags]
    have e2 : lotRs (it :: its) = itRs it ++ lotRs its := by simp [lotRs]
    rw [e1, e2, List.map_append, ih]
    congr 1
    show it.tag :: (tmRs it.timer).map RqA.tag = it.tag :: tmTags it.timer
    cases it.timer <;> rfl
/-! #### each request for itself -/
theorem deed_ok {ps : List Str} {m : Nat} {gs : List Str} {d : PyData} (h : DeedD ps m gs d) (hg : ∀ g ∈ gs, wordS g = true) : isDeedD ps m d = true := by
  have wh : ∀ {x : PyData}, WhereD ps m x → kindD ps m "where" x = true := fun {x} hx => by
    rw [kd_where]
    rcases hx with ⟨i, hi, rfl⟩ | ⟨z, hz, rfl⟩
    · show ((decide (Str.ofString "slot" = Str.ofString "pipe") && pipeD ps (.int i)) || (decide (Str.ofString "slot" = Str.ofString "slot") && (decide ((0 : Int) ≤ (i : Int)) && decide ((i : Int) < (m : Int))))) = true
      rw [decide_eq_true (show (0 : Int) ≤ (i : Int) by omega), decide_eq_true (show (i : Int) < (m : Int) by omega), show decide (Str.ofString "slot" = Str.ofString "slot") = true by decide +kernel]
      simp
    · show ((decide (Str.ofString "pipe" = Str.ofString "pipe") && decide (z ∈ ps)) || _) = true
      rw [decide_eq_true hz, show decide (Str.ofString "pipe" = Str.ofString "pipe") = true by decide +kernel]
      rfl
  have two : ∀ {w a b : Str} {x y : PyData}, deedTab w = some [a, b] → kindD ps m a x = true → kindD ps m b y = true → isDeedD ps m (.tuple [.str w, x, y]) = true := fun {w a b x y} e h1 h2 => by
    unfold isDeedD
    rw [show wordOfD (.tuple [.str w, x, y]) = w from rfl, e]
    show (decide ([x, y].length = [a, b].length) && (kindD ps m a x && (kindD ps m b y && true))) = true
    rw [h1, h2]
    rfl
  have one : ∀ {w a : Str} {x : PyData}, deedTab w = some [a] → kindD ps m a x = true → isDeedD ps m (.tuple [.str w, x]) = true := fun {w a x} e h1 => by
    unfold isDeedD
    rw [show wordOfD (.tuple [.str w, x]) = w from rfl, e]
    show (decide ([x].length = [a].length) && (kindD ps m a x && true)) = true
    rw [h1]
    rfl
  have zero : ∀ {w : Str}, deedTab w = some [] → isDeedD ps m (.tuple [.str w]) = true := fun {w} e => by
    unfold isDeedD
    rw [show wordOfD (.tuple [.str w]) = w from rfl, e]
    rfl
  cases h with
  | read h h1 h2 => exact two (a := "where") (b := "from 1") (by decide +kernel) (wh h) (by rw [kd_from1]; exact decide_eq_true h1)
  | reads h h1 h2 => exact two (a := "where") (b := "from 1") (by decide +kernel) (wh h) (by rw [kd_from1]; exact decide_eq_true h1)
  | @write w x h h1 h2 =>
    refine two (a := "where") (b := "text") (by decide +kernel) (wh h) ?_
    rw [kd_text]
    have z : (decide (0 < x.length) && decide (x.length ≤ 8) && x.cps.toList.all fun c => decide (97 ≤ c) && decide (c ≤ 122)) = true := h1
    rw [Bool.and_eq_true, Bool.and_eq_true] at z
    show (decide (0 < x.length) && decide (x.length ≤ 6) && x.cps.toList.all isLet) = true
    rw [z.1.1, decide_eq_true (show x.length ≤ 6 by omega)]
    exact z.2
  | shut h => exact one (a := "where") (by decide +kernel) (wh h)
  | timeout h1 h2 => exact one (a := "from 0") (by decide +kernel) (by rw [kd_from0]; exact decide_eq_true h1)
  | work g => exact one (a := "good") (by decide +kernel) (by rw [kd_good]; rfl)
  | @update i e h h1 =>
    refine two (a := "slot") (b := "pipe or none") (by decide +kernel) ?_ ?_
    · rw [kd_slot]
      show (decide ((0 : Int) ≤ (i : Int)) && decide ((i : Int) < (m : Int))) = true
      rw [decide_eq_true (show (0 : Int) ≤ (i : Int) by omega), decide_eq_true (show (i : Int) < (m : Int) by omega)]
      rfl
    · rw [kd_pon]
      rcases h1 with rfl | ⟨p, hp, rfl⟩
      · rfl
      · exact decide_eq_true hp
  | cancel h => exact one (a := "name") (by decide +kernel) (by rw [kd_name]; exact hg _ h)
  | cancelall => exact zero (by decide +kernel)
  | nop => exact zero (by decide +kernel)
theorem words_facts (dr pk si : Bool) (ln : Option Bool) : ascS (wordsF dr pk si ln) = true ∧ (decide (Str.ofString "hard" ∈ wordsF dr pk si ln) && decide (Str.ofString "link" ∈ wordsF dr pk si ln)) = false ∧ decide (Str.ofString "silent" ∈ wordsF dr pk si ln) = si ∧
    decide (Str.ofString "pick" ∈ wordsF dr pk si ln) = pk ∧ decide (Str.ofString "drain" ∈ wordsF dr pk si ln) = dr ∧ (decide (Str.ofString "link" ∈ wordsF dr pk si ln) || decide (Str.ofString "hard" ∈ wordsF dr pk si ln)) = ln.isSome ∧ (wordsF dr pk si ln).all (fun x => decide (x ∈ flagWords)) = true := by
  rcases ln with _ | _ | _ <;> cases dr <;> cases pk <;> cases si <;> decide +kernel
theorem main_request {ps : List Str} {m : Nat} {gs : List Str} {it : It} (h : ItOk ps m gs it) (hg : ∀ g ∈ gs, wordS g = true) : requestD ps m (rqa (mainR it)) = true := by
  have hd := deed_ok h.deed hg
  obtain ⟨w, ⟨rest, e⟩, hw⟩ := h.deed.word
  have ew : (mainR it).word = w ∧ (mainR it).rest = rest := by
    unfold mainR
    rw [e]
    exact ⟨rfl, rfl⟩
  obtain ⟨f1, f2, f3, f4, f5, f6, f7⟩ := words_facts it.dr it.pk it.si it.ln
  have hws : (mainR it).words = wordsF it.dr it.pk it.si it.ln := rfl
  have e1 : requestD ps m (rqa (mainR it)) = (isWordD (.str it.tag) 8 && (isDeedD ps m (.tuple (.str (mainR it).word :: (mainR it).rest)) && flagsD (mainR it).word (mainR it).rest (.tuple ((mainR it).words.map PyData.str)))) := rfl
  have e2 : isWordD (.str it.tag) 8 = true := h.tag
  rw [e1, e2, ew.1, ew.2, ← e, hd, Bool.true_and, Bool.true_and, hws, flags_eq _ fun x hx => of_decide_eq_true (List.all_eq_true.mp f7 x hx)]
  unfold flagsA mayAllA
  rw [f1, f2, f3, f4, if_neg hw]
  have q1 : (!it.si || inD quiets (.tuple (.str w :: rest))) = true := by
    cases hs : it.si with
    | false => rfl
    | true =>
      rw [← e]
      rcases h.si hs with z | z <;> rw [z] <;> decide +kernel
  have q2 : (!it.pk || inD readers (.str w)) = true := by
    cases hs : it.pk with
    | false => rfl
    | true =>
      obtain ⟨w2, r2, z, hz⟩ := h.pk hs
      rw [e] at z
      have z2 : w = w2 := by
        injection z with z
        injection z with z _
        injection z
      rw [z2]
      rcases List.mem_cons.mp hz with z3 | z3
      · rw [z3]
        decide +kernel
      · rw [List.mem_singleton.mp z3]
        decide +kernel
  rw [q1, q2]
  rfl
theorem tim_request {ps : List Str} {m : Nat} {t : Str × Int} (h1 : wordS t.1 = true) (h2 : 0 ≤ t.2) : requestD ps m (rqa (timR t)) = true := by
  have e1 : requestD ps m (rqa (timR t)) = (isWordD (.str t.1) 8 && (isDeedD ps m (.tuple [.str "linktimeout", .int t.2]) && flagsD "linktimeout" [.int t.2] (.tuple []))) := rfl
  have e2 : isWordD (.str t.1) 8 = true := h1
  have e3 : isDeedD ps m (.tuple [.str "linktimeout", .int t.2]) = true := by
    unfold isDeedD
    rw [show wordOfD (.tuple [.str "linktimeout", .int t.2]) = "linktimeout" from rfl, show deedTab "linktimeout" = some [Str.ofString "from 0"] by decide +kernel]
    show (decide (1 = 1) && (kindD ps m "from 0" (.int t.2) && true)) = true
    rw [kd_from0, Bool.and_true]
    exact decide_eq_true h2
  rw [e1, e2, e3]
  rfl
/-! #### each in its place -/
theorem lot_split : ∀ {its : List It} {pre post : List RqA} {r : RqA}, lotRs its = pre ++ r :: post → ∃ A it C, its = A ++ it :: C ∧
    ((r = mainR it ∧ pre = lotRs A ∧ post = tmRs it.timer ++ lotRs C) ∨ (∃ t, it.timer = some t ∧ r = timR t ∧ pre = lotRs A ++ [mainR it] ∧ post = lotRs C))
  | [], pre, post, r, h => by
    have := congrArg List.length h
    simp [lotRs] at this
  | it :: its, pre, post, r, h => by
    have e2 : lotRs (it :: its) = mainR it :: (tmRs it.timer ++ lotRs its) := by simp [lotRs, itRs]
    rw [e2] at h
    cases pre with
    | nil =>
      injection h with h1 h2
      exact ⟨[], it, its, rfl, .inl ⟨h1.symm, rfl, h2.symm⟩⟩
    | cons p pre =>
      injection h with h1 h2
      subst h1
      cases ht : it.timer with
      | none =>
        rw [ht] at h2
        obtain ⟨A, it', C, hA, hh⟩ := lot_split (its := its) h2
        refine ⟨it :: A, it', C, by rw [hA]; rfl, ?_⟩
        have eA : lotRs (it :: A) = mainR it :: lotRs A := by simp [lotRs, itRs, ht, tmRs]
        rcases hh with ⟨g1, g2, g3⟩ | ⟨t, g0, g1, g2, g3⟩
        · exact .inl ⟨g1, by rw [eA, g2], g3⟩
        · exact .inr ⟨t, g0, g1, by rw [eA, g2]; rfl, g3⟩
      | some t =>
        rw [ht] at h2
        cases pre with
        | nil =>
          have h3 : timR t :: lotRs its = r :: post := h2
          injection h3 with h4 h5
          exact ⟨[], it, its, rfl, .inr ⟨t, ht, h4.symm, rfl, h5.symm⟩⟩
        | cons p2 pre =>
          have h3 : timR t :: lotRs its = p2 :: (pre ++ r :: post) := h2
          injection h3 with h4 h5
          subst h4
          obtain ⟨A, it', C, hA, hh⟩ := lot_split (its := its) h5
          refine ⟨it :: A, it', C, by rw [hA]; rfl, ?_⟩
          have eA : lotRs (it :: A) = mainR it :: timR t :: lotRs A := by simp [lotRs, itRs, ht, tmRs]
          rcases hh with ⟨g1, g2, g3⟩ | ⟨t2, g0, g1, g2, g3⟩
          · exact .inl ⟨g1, by rw [eA, g2], g3⟩
          · exact .inr ⟨t2, g0, g1, by rw [eA, g2]; rfl, g3⟩
/-- the members of a drawn lot that are no linktimeouts -/
theorem main_lt {it : It} {ps : List Str} {m : Nat} {gs : List Str} (h : DeedD ps m gs it.deed) : ltA (mainR it) = false := by
  obtain ⟨w, ⟨rest, e⟩, hw⟩ := h.word
  show decide ((deedA it.deed).1 = "linktimeout") = false
  rw [e]
  exact decide_eq_false hw
theorem tim_lt (t : Str × Int) : ltA (timR t) = true := rfl
theorem main_binds (it : It) : bindsA (mainR it) = it.ln.isSome := (words_facts it.dr it.pk it.si it.ln).2.2.2.2.2.1
theorem lot_members : ∀ {A : List It}, (∀ it ∈ A, ∃ ps m gs, DeedD ps m gs it.deed) → (lotRs A).filter (fun r => !ltA r) = A.map mainR
  | [], _ => rfl
  | it :: A, h => by
    have e2 : lotRs (it :: A) = mainR it :: (tmRs it.timer ++ lotRs A) := by simp [lotRs, itRs]
    obtain ⟨ps, m, gs, hd⟩ := h it List.mem_cons_self
    rw [e2, List.filter_cons, main_lt hd, List.filter_append, lot_members fun x hx => h x (List.mem_cons_of_mem _ hx)]
    cases it.timer <;> rfl
theorem stands_at {rs pre post : List RqA} {r : RqA} (e : rs = pre ++ r :: post) (h : if ltA r = true then (∃ p pre', pre = pre' ++ [p] ∧ bindsA p = true) else ((bindsA r = true → post ≠ []) ∧ (Str.ofString "drain" ∈ r.words → ∀ p, (pre.filter fun r => !ltA r).getLast? = some p → bindsA p = false))) : standsA rs pre.length = true := by
  have h1 : rs[pre.length]? = some r := by rw [e]; simp
  unfold standsA
  rw [h1]
  show (if ltA r = true then decide (0 < pre.length) && bindsAt rs (pre.length - 1) else if (bindsA r && decide (pre.length + 1 = rs.length)) = true then false else !decide (Str.ofString "drain" ∈ r.words) || beginsA rs pre.length) = true
  by_cases hl : ltA r = true
  · rw [if_pos hl] at h ⊢
    obtain ⟨p, pre', rfl, hp⟩ := h
    have h2 : rs[(pre' ++ [p]).length - 1]? = some p := by
      rw [e]
      simp
    unfold bindsAt
    rw [h2]
    show (decide (0 < (pre' ++ [p]).length) && bindsA p) = true
    rw [hp, decide_eq_true (by simp)]
    rfl
  · rw [if_neg hl] at h ⊢
    obtain ⟨g1, g2⟩ := h
    have h3 : (bindsA r && decide (pre.length + 1 = rs.length)) = false := by
      cases hb : bindsA r with
      | false => rfl
      | true =>
        have := g1 hb
        rw [Bool.true_and]
        refine decide_eq_false fun z => this ?_
        rw [e] at z
        simp at z
        exact z
    rw [if_neg (by rw [h3]; exact Bool.false_ne_true)]
    by_cases hd : Str.ofString "drain" ∈ r.words
    · rw [decide_eq_true hd]
      unfold beginsA membersA
      have e4 : rs.take pre.length = pre := by rw [e]; simp
      rw [e4]
      cases hg : (pre.filter fun r => !ltA r).getLast? with
      | none => rfl
      | some p =>
        show (!true || !bindsA p) = true
        rw [g2 hd p hg]
        rfl
    · rw [decide_eq_false hd]
      rfl
theorem drawn_lot {ps : List Str} {m : Nat} {gs : List Str} {its : List It} (h : LotFin ps m gs its) (hg : ∀ g ∈ gs, wordS g = true) (ht : ∀ g ∈ lotTags its, wordS g = true) (nd : (lotTags its).Nodup) : isLotD ps m (.tuple (lotDs its)) = true := by
  have hdeed : ∀ it ∈ its, ∃ ps m gs, DeedD ps m gs it.deed := fun it hit => by
    obtain ⟨i, hi⟩ := List.mem_iff_getElem?.mp hit
    exact ⟨_, _, _, (h.lot.ok i it hi).deed⟩
  have hgs : ∀ i, ∀ g ∈ gs ++ lotTags (its.take i), wordS g = true := fun i g hgm => by
    rcases List.mem_append.mp hgm with z | z
    · exact hg g z
    · refine ht g ?_
      obtain ⟨it, hit, hz⟩ := List.mem_flatMap.mp z
      exact List.mem_flatMap.mpr ⟨it, List.mem_of_mem_take hit, hz⟩
  rw [lot_rqas hdeed]
  show (!decide (((lotRs its).map rqa).length = 0) && (((lotRs its).map rqa).all (requestD ps m) && lotD (((lotRs its).map rqa).map readA))) = true
  rw [read_all, List.length_map]
  have hne : lotRs its ≠ [] := by
    cases hc : its with
    | nil => exact absurd hc h.ne
    | cons it its' => simp [lotRs, itRs]
  rw [decide_eq_false fun z => hne (List.length_eq_zero_iff.mp z)]
  have hreq : ((lotRs its).map rqa).all (requestD ps m) = true := by
    rw [List.all_map, List.all_eq_true]
    intro r hr
    obtain ⟨pre, post, e⟩ := List.append_of_mem hr
    obtain ⟨A, it, C, eA, hh⟩ := lot_split e
    have hi : its[A.length]? = some it := by rw [eA]; simp
    have hok := h.lot.ok _ _ hi
    rcases hh with ⟨g1, _, _⟩ | ⟨t, g0, g1, _, _⟩
    · rw [g1]
      exact main_request hok (hgs _)
    · rw [g1]
      obtain ⟨_, q2, q3, _⟩ := hok.tm t g0
      exact tim_request q2 q3
  have hst : (List.range (lotRs its).length).all (standsA (lotRs its)) = true := by
    rw [List.all_eq_true]
    intro j hj
    have hj := List.mem_range.mp hj
    have e : lotRs its = (lotRs its).take j ++ (lotRs its)[j] :: (lotRs its).drop (j + 1) := by
      rw [← List.drop_eq_getElem_cons hj, List.take_append_drop]
    have hjl : ((lotRs its).take j).length = j := by rw [List.length_take]; omega
    obtain ⟨A, it, C, eA, hh⟩ := lot_split e
    have hi : its[A.length]? = some it := by rw [eA]; simp
    have hA : its.take A.length = A := by rw [eA]; simp
    have hok := h.lot.ok _ _ hi
    have hfst := h.lot.fst _ _ hi
    rw [hA] at hfst
    have key := stands_at e ?_
    · rw [hjl] at key
      exact key
    rcases hh with ⟨g1, g2, g3⟩ | ⟨t, g0, g1, g2, g3⟩
    · rw [g1, main_lt hok.deed, if_neg Bool.false_ne_true]
      refine ⟨fun hb => ?_, fun hdr p hp => ?_⟩
      · rw [main_binds] at hb
        rw [g3]
        intro z
        obtain ⟨z1, z2⟩ := List.append_eq_nil_iff.mp z
        have hC : C = [] := by
          cases C with
          | nil => rfl
          | cons c C => simp [lotRs, itRs] at z2
        have hlast : its.getLast? = some it := by rw [eA, hC]; simp
        have := h.last it hlast hb
        cases hti : it.timer with
        | none => rw [hti] at this; exact nomatch this
        | some t => rw [hti] at z1; exact nomatch z1
      · rw [g2, lot_members fun x hx => hdeed x (by rw [eA]; exact List.mem_append_left _ hx)] at hp
        have hdr2 : it.dr = true := by
          rw [← (words_facts it.dr it.pk it.si it.ln).2.2.2.2.1]
          exact decide_eq_true hdr
        rcases hfst hdr2 with z | ⟨p2, z, zn⟩
        · rw [z] at hp
          exact nomatch hp
        · rw [List.getLast?_map, z] at hp
          rw [← Option.some.inj hp, main_binds, zn]
          rfl
    · rw [g1, tim_lt, if_pos rfl]
      exact ⟨mainR it, lotRs A, g2, by rw [main_binds]; exact (hok.tm t g0).1⟩
  unfold lotD
  rw [hreq, hst, lot_tags, decide_eq_true nd]
  rfl
end KV

namespace KV
open PySem PySem.Spec PyProof.Rows L2 RZ
/-! ### _law_bent once more, with how much it makes -/
theorem bulkAll_append : ∀ xs ys : List PyData, PyData.bulkAll (xs ++ ys) = PyData.bulkAll xs + PyData.bulkAll ys
  | [], ys => by simp only [List.nil_append, PyData.bulkAll, Nat.zero_add]
  | x :: xs, ys => by
    simp only [List.cons_append, PyData.bulkAll, bulkAll_append xs ys]
    omega
theorem bulk_mem {d : PyData} : ∀ {ds : List PyData}, d ∈ ds → d.bulk + 1 ≤ PyData.bulkAll ds
  | e :: ds, h => by
    simp only [PyData.bulkAll]
    rcases List.mem_cons.mp h with rfl | h
    · omega
    · have := bulk_mem h
      omega
theorem bulk_erase : ∀ (ds : List PyData) (j : Nat), PyData.bulkAll (ds.eraseIdx j) ≤ PyData.bulkAll ds
  | [], _ => Nat.le_refl _
  | d :: ds, 0 => by
    simp only [List.eraseIdx_cons_zero, PyData.bulkAll]
    omega
  | d :: ds, j + 1 => by
    have := bulk_erase ds j
    simp only [List.eraseIdx_cons_succ, PyData.bulkAll]
    omega
theorem bulk_insert {ds : List PyData} {d : PyData} {j : Nat} (h : d ∈ ds) : PyData.bulkAll (ds.take j ++ [d] ++ ds.drop j) ≤ 2 * PyData.bulkAll ds := by
  have h1 := bulk_mem h
  have h2 : PyData.bulkAll ds = PyData.bulkAll (ds.take j) + PyData.bulkAll (ds.drop j) := by rw [← bulkAll_append, List.take_append_drop]
  rw [bulkAll_append, bulkAll_append]
  simp only [PyData.bulkAll]
  omega
theorem bulk_set {d d' : PyData} : ∀ {ds : List PyData} {j : Nat}, ds[j]? = some d → PyData.bulkAll (ds.set j d') + d.bulk = PyData.bulkAll ds + d'.bulk
  | e :: ds, 0, h => by
    have : e = d := Option.some.inj h
    subst this
    simp only [List.set_cons_zero, PyData.bulkAll]
    omega
  | e :: ds, j + 1, h => by
    have := bulk_set (d := d) (d' := d') (ds := ds) (j := j) h
    simp only [List.set_cons_succ, PyData.bulkAll]
    omega
theorem str_bulk {L n : Nat} {x : Str} (h : gD lf2 L (.str x) n = true) : (PyData.str x).bulk ≤ 100 := by
  have h1 : (decide (x.length ≤ 60) && x.cps.toList.all fun c => decide (c < 1114112)) = true := by simp only [gD] at h; exact h
  rw [Bool.and_eq_true, decide_eq_true_eq] at h1
  have h2 : x.cps.size ≤ 60 := h1.1
  simp only [PyData.bulk]
  omega
section
variable {P : Program} {w : World} {K : PySem.W.Frag} {mg : Str → Option Value} {base : Heap}
/-! ### _law_bent -/
def spBentB (K : PySem.W.Frag) (N : Nat) : Sp := fun vs H Q _ => ∃ (n : Nat) (B : List Addr) (b : Addr) (m L : Nat) (v : V) (d : PyData), N = n + 1 ∧ vs = [.ref b, v] ∧ b ∈ B ∧ Live B H ∧ BoxAt H b m ∧ m + 10 * (n + 1) ≤ 2 ^ 40 ∧ L ≤ 100 ∧ Dp K (hide B H) v d ∧ gD lf1 L d n = true ∧
  ∀ (v' : V) (d' : PyData) (H' : Hp), gD lf2 (L + 1) d' (n + 1) = true → d'.bulk ≤ 2 * d.bulk + 100 → SameX [b] H H' → BoxAt H' b (m + 10 * (n + 1)) → Dp K (hide B H') v' d' → Q v' H'
theorem ok_bentB {f fT fO : Addr} {fd fdT fdO : FuncData} (F : Fun K "_law_bent" "_law_bent" sBent f fd) (bF : Binds K fd ["_law_box_here", "_law_bit"] []) (mF : mg "_law_bent" = some (.ref f))
    (FT : Fun K "_law_take" "_law_take" sTake fT fdT) (bT : Binds K fdT ["_law_box_here", "_law_below"] []) (mT : mg "_law_take" = some (.ref fT))
    (FO : Fun K "_law_of" "_law_of" sOf fO fdO) (bO : Binds K fdO ["_law_box_here", "_law_some"] []) (mO : mg "_law_of" = some (.ref fO))
    (mn : mg "int" = none) (me : mg "len" = none) (mi : mg "isinstance" = none) (ml : mg "list" = none) (mt : mg "tuple" = none) (mb : mg "bool" = none) (ms : mg "str" = none) :
    ∀ N : Nat, FnOk P w K mg base CX0 (N + 2) f fd ["_law_box_here", "_law_bit"] (spBentB K N) := by
  intro N
  induction N with
  | zero =>
    refine none_okk fun vs H Q E h => ?_
    obtain ⟨n, _, _, _, _, _, _, h, _⟩ := h
    omega
  | succ N ih =>
    have GT : FnOk P w K mg base CX0 (N + 2) fT fdT ["_law_box_here", "_law_below"] spTake := ok_take FT mn
    have GO : FnOk P w K mg base CX0 (N + 2) fO fdO ["_law_box_here", "_law_some"] (spOf K) := ok_of FO FT bT mT mn me
    refine F.ok scBent (fun vs H Q E h => ?_) (fun cdv A outer s H vs Q E hr h => ?_)
    · obtain ⟨n, B, b, m, L, v, d, _, rfl, _⟩ := h
      rfl
    · obtain ⟨n, B, b, m, L, v, d, eN, rfl, hb, lv, hB, hm, hL, hd, hg, q⟩ := h
      have eN2 : N = n := by omega
      subst eN2
      have memb : ∀ c ∈ [b], c ∈ B := fun c hc => by rw [List.mem_singleton.mp hc]; exact hb
      have fin : ∀ (a : Addr) (H8 : Hp), SameX [b] H H8 → BoxAt H8 b (m + 1) → (∃ xs ds, H8 a = some (.lst xs) ∧ DpAll K (hide B H8) xs ds ∧ (∀ e ∈ ds, gD lf2 (L + 1) e (N + 1) = true) ∧ (∀ e ∈ ds, e.bulk ≤ 100) ∧ 0 < xs.length ∧ xs.length ≤ 50 ∧ a ∉ B) → spOf K [.ref b, .ref a] H8 Q E0 := by
        rintro a H8 s8 b8 ⟨xs, ds, ha, hx, hg8, hb8, h0, h50, aB⟩
        refine ⟨b, m + 1, .ref a, rfl, b8, by omega, .inr ⟨B, a, xs, rfl, hb, .inl (SqL.of (by rw [hide_out aB]; exact ha)), h0, by omega, fun i x H9 hi s9 b9 => ?_⟩⟩
        obtain ⟨e, he, hxe⟩ := dps_get hx hi
        exact q x e H9 (hg8 e (List.mem_of_getElem? he)) (by have := hb8 e (List.mem_of_getElem? he); omega) (s8.trans s9) (b9.le (by omega)) (dp_same (s9.hide memb) hxe)
      have rest : ∃ u, PSs (cxOf CX0 P w K mg base nBent "_law_bent" (defScope sBent) f cdv A outer s H E).nox ((defBody sBent).drop 3) u ∧ ∀ (x2 x3 x4 x5 : Option V) (H3 : Hp), SameX [b] H H3 → BoxAt H3 b (m + 1) → u { nx := fun _ H' => Q .non H', rt := Q } [some (.ref b), some v, x2, x3, x4, x5] H3 := by
        refine ⟨_, pss_cons (ps_set (i := 5) scBent.nd rfl (.inl rfl) (pe_lst (pa_cons pe_non (pa_cons pe_bl (pa_cons pe_bl (pa_cons (pe_un un_neg pe_int) (pa_cons pe_int (pa_cons pe_int (pa_cons pe_int (pa_cons pe_str (pa_cons pe_str (pa_cons pe_str (pa_cons pe_str (pa_cons pe_str (pa_cons pe_str
              (pa_cons (pe_tup pa_nil) (pa_cons (pe_lst pa_nil) (pa_cons (pe_tup (pa_cons pe_int pa_nil)) (pa_cons (pe_tup (pa_cons pe_str pa_nil)) (pa_cons pe_str pa_nil))))))))))))))))))))
          (pss_cons (ps_set (i := 5) scBent.nd rfl (.inl rfl) (pe_op op_cat (pv 5) (pe_lst (pa_cons pe_str pa_nil))))
          (pss_cons (ps_if (PW.pt (pw_and (pt_val (pe_callB (cr_isOne "int") (by rfl) mi boot_isinstance (pa_cons (pv 1) (pa_cons (pe_bltn (v := .ty "int") (by rfl) mn (by decide +kernel) rfl) pa_nil))))
              (pw_and1 (pt_not (pt_val (pe_callB (cr_isOne "bool") (by rfl) mi boot_isinstance (pa_cons (pv 1) (pa_cons (pe_bltn (v := .ty "bool") (by rfl) mb (by decide +kernel) rfl) pa_nil))))))))
            (pss_one (ps_set (i := 5) scBent.nd rfl (.inl rfl) (pe_op op_cat (pv 5) (pe_lst (pa_cons (pe_op op_add (pv 1) pe_int) (pa_cons (pe_op op_sub (pv 1) pe_int) (pa_cons (pe_op op_add (pv 1) pe_int) (pa_cons (pe_callTy call_str_int (by rfl) ms PyProof.Rows.boot_str (pa_cons (pv 1) pa_nil)) (pa_cons pe_int (pa_cons (pe_op op_pow pe_int pe_int) pa_nil)))))))))) pss_nil)
          (pss_cons (ps_if (pt_val (pe_callB (cr_isOne "str") (by rfl) mi boot_isinstance (pa_cons (pv 1) (pa_cons (pe_bltn (v := .ty "str") (by rfl) ms (by decide +kernel) rfl) pa_nil))))
            (pss_one (ps_set (i := 5) scBent.nd rfl (.inl rfl) (pe_op op_cat (pv 5) (pe_lst (pa_cons (pe_op op_add_str (pv 1) pe_str) (pa_cons (pe_slice sl_str (pv 1) po_none (po_some (pe_un un_neg pe_int))) (pa_cons (pe_upper (pv 1)) (pa_cons (pe_op op_add_str (pv 1) pe_str) pa_nil)))))))) pss_nil)
          (pss_one (ps_ret (pe_call GO hr (by rfl) mO FO.kp bO .nil pass0 (pa_cons (pv 0) (pa_cons (pv 5) pa_nil)))))))), fun x2 x3 x4 x5 H3 s3 b3 => ?_⟩
        have lv3 : Live B H3 := s3.live lv fun c hc => by rw [List.mem_singleton.mp hc]; exact b3.live
        have d3 : Dp K (hide B H3) v d := dp_same (s3.hide memb) hd
        refine ⟨_, rfl, by show 0 ≤ sizeLine; decide, fun p1 n1 => ⟨by show 0 ≤ sizeLine; decide, fun p2 n2 => ⟨by show 1 ≤ sizeLine; decide, fun p3 n3 => ⟨by show 1 ≤ sizeLine; decide, fun p4 n4 => ⟨by show 18 ≤ sizeLine; decide, fun p5 n5 => ?_⟩⟩⟩⟩⟩
        have k1 := dp_new (K := K) (xs := []) (ds := []) lv3 n1 .nil
        have u1 : Same H3 (upd H3 p1 (.tup [])) := same_upd n1
        have k2 := dp_newL (K := K) (xs := []) (ds := []) (lv3.same u1) n2 .nil
        have u2 := same_upd (o := HO.lst []) n2
        have k3 := dp_new (K := K) ((lv3.same u1).same u2) n3 (.cons (.int 0) .nil)
        have u3 := same_upd (o := HO.tup [.int 0]) n3
        have k4 := dp_new (K := K) (((lv3.same u1).same u2).same u3) n4 (.cons (.str "nop") .nil)
        have u4 := same_upd (o := HO.tup [.str "nop"]) n4
        have u14 := ((u1.trans u2).trans u3).trans u4
        have lv4 := lv3.same u14
        replace k1 := dp_same (hide_of_same (B := B) ((u2.trans u3).trans u4)) k1
        replace k2 := dp_same (hide_of_same (B := B) (u3.trans u4)) k2
        replace k3 := dp_same (hide_of_same (B := B) u4) k3
        generalize upd (upd (upd (upd H3 p1 (HO.tup [])) p2 (HO.lst [])) p3 (HO.tup [V.int 0])) p4 (HO.tup [V.str "nop"]) = H4 at n5 k1 k2 k3 k4 u14 lv4
        have d18 : DpAll K (hide B H4) [.non, .bl true, .bl false, .int (-1), .int 0, .int 1, .int 2, .str "", .str "a", .str "pipe", .str "slot", .str "link", .str "nop", .ref p1, .ref p2, .ref p3, .ref p4, .str "Ab"]
            [.none, .bool true, .bool false, .int (-1), .int 0, .int 1, .int 2, .str "", .str "a", .str "pipe", .str "slot", .str "link", .str "nop", .tuple [], .list [], .tuple [.int 0], .tuple [.str "nop"], .str "Ab"] :=
          .cons .non (.cons (.bl _) (.cons (.bl _) (.cons (.int _) (.cons (.int _) (.cons (.int _) (.cons (.int _) (.cons (.str _) (.cons (.str _) (.cons (.str _) (.cons (.str _) (.cons (.str _) (.cons (.str _) (.cons k1 (.cons k2 (.cons k3 (.cons k4 (.cons (.str _) .nil)))))))))))))))))
        have u5 := same_upd (o := HO.lst [.non, .bl true, .bl false, .int (-1), .int 0, .int 1, .int 2, .str "", .str "a", .str "pipe", .str "slot", .str "link", .str "nop", .ref p1, .ref p2, .ref p3, .ref p4, .str "Ab"]) n5
        have h5 : (upd H4 p5 (HO.lst [.non, .bl true, .bl false, .int (-1), .int 0, .int 1, .int 2, .str "", .str "a", .str "pipe", .str "slot", .str "link", .str "nop", .ref p1, .ref p2, .ref p3, .ref p4, .str "Ab"])) p5 = _ := upd_same
        replace d18 := dps_same (hide_of_same (B := B) u5) d18
        have lv5 := lv4.same u5
        replace u5 := u14.trans u5
        show tSeq _ _ _ _ (upd H4 p5 (HO.lst [.non, .bl true, .bl false, .int (-1), .int 0, .int 1, .int 2, .str "", .str "a", .str "pipe", .str "slot", .str "link", .str "nop", .ref p1, .ref p2, .ref p3, .ref p4, .str "Ab"]))
        generalize upd H4 p5 (HO.lst [.non, .bl true, .bl false, .int (-1), .int 0, .int 1, .int 2, .str "", .str "a", .str "pipe", .str "slot", .str "link", .str "nop", .ref p1, .ref p2, .ref p3, .ref p4, .str "Ab"]) = H5 at h5 d18 lv5 u5
        refine ⟨_, rfl, by show 1 ≤ sizeLine; decide, fun p6 n6 => ⟨p5, p6, _, _, rfl, rfl, same_upd n6 _ _ h5, upd_same, by show 18 + 1 ≤ sizeLine; decide, fun p7 n7 => ?_⟩⟩
        have u6 : Same H5 (upd H5 p6 (.lst [.str "ninechars"])) := same_upd n6
        have lv6 := lv5.same u6
        have d19 := dps_app (dps_same (hide_of_same (B := B) u6) d18) (.cons (.str "ninechars") .nil)
        have len19 : (([.non, .bl true, .bl false, .int (-1), .int 0, .int 1, .int 2, .str "", .str "a", .str "pipe", .str "slot", .str "link", .str "nop", .ref p1, .ref p2, .ref p3, .ref p4, .str "Ab"] : List V) ++ [V.str "ninechars"]).length = 19 := rfl
        generalize ([.non, .bl true, .bl false, .int (-1), .int 0, .int 1, .int 2, .str "", .str "a", .str "pipe", .str "slot", .str "link", .str "nop", .ref p1, .ref p2, .ref p3, .ref p4, .str "Ab"] : List V) ++ [V.str "ninechars"] = xs at d19 len19
        have o7 : ∃ ds, DpAll K (hide B (upd (upd H5 p6 (.lst [.str "ninechars"])) p7 (.lst xs))) xs ds ∧ (∀ e ∈ ds, gD lf2 (L + 1) e (N + 1) = true) ∧ (∀ e ∈ ds, e.bulk ≤ 100) := by
          refine ⟨_, dps_same (hide_grow lv6 n7) d19, ?_, fun e he => of_decide_eq_true (List.all_eq_true.mp (show ([.none, .bool true, .bool false, .int (-1), .int 0, .int 1, .int 2, .str "", .str "a", .str "pipe", .str "slot", .str "link", .str "nop", .tuple [], .list [], .tuple [.int 0], .tuple [.str "nop"], .str "Ab", .str "ninechars"] : List PyData).all (fun e => decide (e.bulk ≤ 100)) = true by decide +kernel) e he)⟩
          have a2 : gDs lf2 1 [.none, .bool true, .bool false, .int (-1), .int 0, .int 1, .int 2, .str "", .str "a", .str "pipe", .str "slot", .str "link", .str "nop", .tuple [], .list [], .tuple [.int 0], .tuple [.str "nop"], .str "Ab", .str "ninechars"] 1 = true := by decide +kernel
          rw [gDs_all, List.all_eq_true] at a2
          intro e he
          exact gD_mono (fun _ z => z) (by omega) e 1 (N + 1) (by omega) (a2 e he)
        have h7 : (upd (upd H5 p6 (.lst [.str "ninechars"])) p7 (.lst xs)) p7 = some (.lst xs) := upd_same
        have u7 : Same H3 (upd (upd H5 p6 (.lst [.str "ninechars"])) p7 (.lst xs)) := (u5.trans u6).trans (same_upd n7)
        have p7B := lv6.new n7
        show tSeq _ _ _ _ (upd (upd H5 p6 (.lst [.str "ninechars"])) p7 (.lst xs))
        generalize upd (upd H5 p6 (.lst [.str "ninechars"])) p7 (.lst xs) = H7 at o7 h7 u7
        obtain ⟨ds, o7, good, gbulk⟩ := o7
        have d7 := dp_same (hide_of_same (B := B) u7) d3
        have e7 := dp_same (hide_same B H7) d7
        have lv7 := lv3.same u7
        have b7 := b3.same u7
        have s7 : SameX [b] H H7 := s3.trans (SameX.of u7)
        have goOn := fin p7 H7 s7 b7 ⟨xs, ds, h7, o7, good, gbulk, by omega, by omega, p7B⟩
        -- more of these
        have more : ∀ (ys : List V) (es : List PyData) (H8 : Hp) (p8 p9 : Addr), Same H7 H8 → H8 p8 = none → upd H8 p8 (.lst ys) p9 = none → DpAll K (hide B H8) ys es → ys.length ≤ 10 → (∀ e ∈ es, gD lf2 (L + 1) e (N + 1) = true) → (∀ e ∈ es, e.bulk ≤ 100) → spOf K [.ref b, .ref p9] (upd (upd H8 p8 (.lst ys)) p9 (.lst (xs ++ ys))) Q E0 := by
          intro ys es H8 p8 p9 s8 n8 n9 dy ly gy by8
          have s9 := s8.trans ((same_upd (o := HO.lst ys) n8).trans (same_upd (o := HO.lst (xs ++ ys)) n9))
          refine fin p9 _ (s7.trans (SameX.of s9)) (b7.same s9) ⟨xs ++ ys, ds ++ es, upd_same, ?_, ?_, ?_, ?_, ?_, ((lv7.same s8).upd (p := p8)).new n9⟩
          · exact dps_app (dps_same (hide_of_same s9) o7) (dps_same (hide_of_same ((same_upd (o := HO.lst ys) n8).trans (same_upd (o := HO.lst (xs ++ ys)) n9))) dy)
          · intro e he
            rcases List.mem_append.mp he with he | he
            · exact good e he
            · exact gy e he
          · intro e he
            rcases List.mem_append.mp he with he | he
            · exact gbulk e he
            · exact by8 e he
          · rw [List.length_append]
            omega
          · rw [List.length_append]
            omega
        cases e7 with
        | non =>
          have hv : ∀ {H2 : Hp}, Dp K H2 .non .none := .non
          exact ⟨_, rfl, ⟨_, _, rfl, hv, false, (show kitB "NoneType" "int" = some false by decide +kernel), _, rfl, iteF (iteF ⟨_, rfl, ⟨_, _, rfl, hv, false, (show kitB "NoneType" "str" = some false by decide +kernel), _, rfl, iteF ⟨_, rfl, _, rfl, goOn⟩⟩⟩)⟩⟩
        | bl c =>
          have hv : ∀ {H2 : Hp}, Dp K H2 (.bl c) (.bool c) := .bl c
          exact ⟨_, rfl, ⟨_, _, rfl, hv, true, (show kitB "bool" "int" = some true by decide +kernel), _, rfl, iteT ⟨_, rfl, ⟨_, _, rfl, hv, true, (show kitB "bool" "bool" = some true by decide +kernel), _, rfl, iteF ⟨_, rfl, ⟨_, _, rfl, hv, false, (show kitB "bool" "str" = some false by decide +kernel), _, rfl, iteF ⟨_, rfl, _, rfl, goOn⟩⟩⟩⟩⟩⟩⟩
        | int c =>
          have hv : ∀ {H2 : Hp}, Dp K H2 (.int c) (.int c) := .int c
          have hc : c.natAbs ≤ 10 ^ 29 := of_decide_eq_true (show decide (c.natAbs ≤ 10 ^ 29) = true by simp only [gD] at hg; exact hg)
          have h30 : c.natAbs < 10 ^ 30 := by omega
          have hlog : c.natAbs.log2 < 1920 := by
            by_cases z : c.natAbs = 0
            · rw [z]; decide
            · exact (Nat.log2_lt z).mpr (Nat.lt_trans h30 (by decide +kernel))
          have hlen := int_text_length_le10 (k := 30) (by decide) h30
          refine ⟨_, rfl, ⟨_, _, rfl, hv, true, (show kitB "int" "int" = some true by decide +kernel), _, rfl, iteT ⟨_, rfl, ⟨_, _, rfl, hv, false, (show kitB "int" "bool" = some false by decide +kernel), _, rfl, iteT ?_⟩⟩⟩⟩
          refine ⟨_, rfl, _, rfl, _, _, rfl, rfl, _, rfl, _, _, rfl, rfl, _, rfl, _, _, rfl, rfl, _, rfl, _, rfl, hlog, _, _, rfl, rfl, ⟨by decide, by decide, by decide⟩, by show 6 ≤ sizeLine; decide, fun p8 n8 => ⟨p7, p8, _, _, rfl, rfl, same_upd n8 _ _ h7, upd_same, ?_, fun p9 n9 => ?_⟩⟩
          · show xs.length + 6 ≤ sizeLine
            rw [sizeLine_eq]
            omega
          · refine ⟨_, rfl, ⟨_, _, rfl, hv, false, (show kitB "int" "str" = some false by decide +kernel), _, rfl, iteF ⟨_, rfl, _, rfl, more _ _ H7 p8 p9 (fun _ _ z => z) n8 n9 (.cons (.int _) (.cons (.int _) (.cons (.int _) (.cons (.str _) (.cons (.int _) (.cons (.int _) .nil)))))) (by show 6 ≤ 10; decide) (fun e he => ?_) fun e he => ?_⟩⟩⟩
            rotate_left
            · rcases List.mem_cons.mp he with rfl | he
              · exact Nat.zero_le _
              rcases List.mem_cons.mp he with rfl | he
              · exact Nat.zero_le _
              rcases List.mem_cons.mp he with rfl | he
              · exact Nat.zero_le _
              rcases List.mem_cons.mp he with rfl | he
              · exact str_bulk (bent_int (L := 1) (n := 1) h30)
              rcases List.mem_cons.mp he with rfl | he
              · exact Nat.zero_le _
              · rw [List.mem_singleton.mp he]
                exact Nat.zero_le _
            rcases List.mem_cons.mp he with rfl | he
            · exact int_good (by omega)
            rcases List.mem_cons.mp he with rfl | he
            · exact int_good (by omega)
            rcases List.mem_cons.mp he with rfl | he
            · exact int_good (by omega)
            rcases List.mem_cons.mp he with rfl | he
            · exact bent_int h30
            rcases List.mem_cons.mp he with rfl | he
            · exact int_good (by decide)
            · rw [List.mem_singleton.mp he]
              exact int_good (by decide +kernel)
        | str c =>
          have hv : ∀ {H2 : Hp}, Dp K H2 (.str c) (.str c) := .str c
          have hc : (decide (c.length ≤ 15) && c.cps.toList.all fun c => decide (c < 128)) = true := by simp only [gD] at hg; exact hg
          rw [Bool.and_eq_true, decide_eq_true_eq] at hc
          refine ⟨_, rfl, ⟨_, _, rfl, hv, false, (show kitB "str" "int" = some false by decide +kernel), _, rfl, iteF (iteF ⟨_, rfl, ⟨_, _, rfl, hv, true, (show kitB "str" "str" = some true by decide +kernel), _, rfl, iteT ?_⟩⟩)⟩⟩
          refine ⟨_, rfl, _, rfl, _, _, rfl, rfl, ?_, _, rfl, _, rfl, _, rfl, _, rfl, ?_, _, rfl, ⟨_, rfl⟩, _, rfl, rfl, ?_, _, rfl, _, _, rfl, rfl, ?_, by show 4 ≤ sizeLine; decide, fun p8 n8 => ⟨p7, p8, _, _, rfl, rfl, same_upd n8 _ _ h7, upd_same, ?_, fun p9 n9 => ?_⟩⟩
          · show c.length + 1 ≤ sizeLine
            rw [sizeLine_eq]
            omega
          · rw [sizeLine_eq]
            omega
          · omega
          · show c.length + 1 ≤ sizeLine
            rw [sizeLine_eq]
            omega
          · show xs.length + 4 ≤ sizeLine
            rw [sizeLine_eq]
            omega
          · refine ⟨_, rfl, _, rfl, more _ _ H7 p8 p9 (fun _ _ z => z) n8 n9 (.cons (.str _) (.cons (.str _) (.cons (.str _) (.cons (.str _) .nil)))) (by show 4 ≤ 10; decide) (fun e he => ?_) fun e he => ?_⟩
            rotate_left
            · rcases List.mem_cons.mp he with rfl | he
              · exact str_bulk (bent_add (L := 1) (n := 1) hc.1 hc.2)
              rcases List.mem_cons.mp he with rfl | he
              · exact str_bulk (bent_cut (L := 1) (n := 1) _ _ hc.1 hc.2)
              rcases List.mem_cons.mp he with rfl | he
              · exact str_bulk (bent_up (L := 1) (n := 1) hc.1 hc.2)
              · rw [List.mem_singleton.mp he]
                exact str_bulk (bent_add (L := 1) (n := 1) hc.1 hc.2)
            rcases List.mem_cons.mp he with rfl | he
            · exact bent_add hc.1 hc.2
            rcases List.mem_cons.mp he with rfl | he
            · exact bent_cut _ _ hc.1 hc.2
            rcases List.mem_cons.mp he with rfl | he
            · exact bent_up hc.1 hc.2
            · rw [List.mem_singleton.mp he]
              exact bent_add hc.1 hc.2
        | lst h1 h2 =>
          rename_i a zs es
          have hv : ∀ {H2 : Hp}, Same H7 H2 → Dp K H2 (.ref a) (.list es) := fun z => dp_same z (.lst h1 h2)
          exact ⟨_, rfl, ⟨_, _, rfl, hv (fun _ _ z => z), false, (show kitB "list" "int" = some false by decide +kernel), _, rfl, iteF (iteF ⟨_, rfl, ⟨_, _, rfl, hv (fun _ _ z => z), false, (show kitB "list" "str" = some false by decide +kernel), _, rfl, iteF ⟨_, rfl, _, rfl, goOn⟩⟩⟩)⟩⟩
        | tup h1 h2 =>
          rename_i a zs es
          have hv : ∀ {H2 : Hp}, Same H7 H2 → Dp K H2 (.ref a) (.tuple es) := fun z => dp_same z (.tup h1 h2)
          exact ⟨_, rfl, ⟨_, _, rfl, hv (fun _ _ z => z), false, (show kitB "tuple" "int" = some false by decide +kernel), _, rfl, iteF (iteF ⟨_, rfl, ⟨_, _, rfl, hv (fun _ _ z => z), false, (show kitB "tuple" "str" = some false by decide +kernel), _, rfl, iteF ⟨_, rfl, _, rfl, goOn⟩⟩⟩)⟩⟩
      obtain ⟨u, hu, hrest⟩ := rest
      have rest2 : ∃ u2, PSs (cxOf CX0 P w K mg base nBent "_law_bent" (defScope sBent) f cdv A outer s H E).nox ((defBody sBent).drop 2) u2 ∧ ∀ (r : Int) (x3 x4 x5 : Option V) (H3 : Hp), SameX [b] H H3 → BoxAt H3 b (m + 1) → u2 { nx := fun _ H' => Q .non H', rt := Q } [some (.ref b), some v, some (.int r), x3, x4, x5] H3 := by
        refine ⟨_, pss_cons (ps_if (PW.pt (pw_and (pt_cmpR op_eq (pv 2) pe_int (nomark _)) (pw_and1 (pt_val (pe_callB cr_isSeq2 (by rfl) mi boot_isinstance (pa_cons (pv 1) (pa_cons (pe_tup (pa_cons (pe_bltn (v := .ty "tuple") (by rfl) mt (by decide +kernel) rfl) (pa_cons (pe_bltn (v := .ty "list") (by rfl) ml (by decide +kernel) rfl) pa_nil))) pa_nil)))))))
          (pss_one (ps_ret (pe_ifExp (pt_val (pe_callB (cr_isOne "tuple") (by rfl) mi boot_isinstance (pa_cons (pv 1) (pa_cons (pe_bltn (v := .ty "tuple") (by rfl) mt (by decide +kernel) rfl) pa_nil))))
              (pe_callTy call_list_of (by rfl) ml PyProof.Rows.boot_list (pa_cons (pv 1) pa_nil)) (pe_callTy call_tuple_of (by rfl) mt PyProof.Rows.boot_tuple (pa_cons (pv 1) pa_nil))))) pss_nil)
          hu, fun r x3 x4 x5 H3 s3 b3 => ?_⟩
        have d3 : Dp K (hide B H3) v d := dp_same (s3.hide memb) hd
        have lv3 : Live B H3 := s3.live lv fun c hc => by rw [List.mem_singleton.mp hc]; exact b3.live
        refine ⟨_, rfl, rfl, _, rfl, ite2 (fun e => ?_) (fun e => iteF (hrest _ _ _ _ _ s3 b3))⟩
        refine ⟨_, rfl, by show 2 ≤ sizeLine; decide, fun t nt => ⟨_, _, d, rfl, upd_same, dp_same ((hide_same B H3).trans (same_upd nt)) d3, _, rfl, ?_⟩⟩
        have st : Same H3 (upd H3 t (.tup [.ty "tuple", .ty "list"])) := same_upd nt
        have d4 : Dp K (hide B (upd H3 t (.tup [.ty "tuple", .ty "list"]))) v d := dp_same (hide_of_same st) d3
        have lv4 := lv3.same st
        have s4 := s3.trans (SameX.of (B := [b]) st)
        have b4 := b3.same st
        generalize upd H3 t (.tup [.ty "tuple", .ty "list"]) = H4 at st d4 lv4 s4 b4
        cases hq : isSeq d with
        | false => exact iteF (hrest _ _ _ _ _ s4 b4)
        | true =>
          refine iteT ?_
          obtain ⟨a, xs, ds, rfl, hk, hall⟩ := dp_seq d4 hq
          have b5 := b4.le (show m + 1 ≤ m + 10 * (N + 1) by omega)
          rcases hk with ⟨hS, rfl⟩ | ⟨hS, rfl⟩
          · obtain ⟨k, rfl, h1, h2⟩ := gD_seq (.inl rfl) hg
            have hv : Dp K H4 (.ref a) (.list ds) := dp_same (hide_same B H4) d4
            refine ⟨_, rfl, ⟨_, _, rfl, hv, false, (show kitB "list" "tuple" = some false by decide +kernel), _, rfl, iteF ⟨_, rfl, a, xs, rfl, .inl ⟨(hide_same B H4).seq hS, fun l nl => q _ (.tuple ds) _ ?_ (by simp only [PyData.bulk]; omega) (s4.trans (SameX.of (same_upd nl))) (b5.same (same_upd nl)) (dp_new lv4 nl hall)⟩⟩⟩⟩
            exact gD_mono lf12 (Nat.le_succ L) _ (k + 1) _ (by omega) (gD_mk h1 h2).2
          · obtain ⟨k, rfl, h1, h2⟩ := gD_seq (.inr rfl) hg
            have hv : Dp K H4 (.ref a) (.tuple ds) := dp_same (hide_same B H4) d4
            refine ⟨_, rfl, ⟨_, _, rfl, hv, true, (show kitB "tuple" "tuple" = some true by decide +kernel), _, rfl, iteT ⟨_, rfl, a, xs, rfl, .inr (same_seqT (hide_same B H4) hS), fun l nl => q _ (.list ds) _ ?_ (by simp only [PyData.bulk]; omega) (s4.trans (SameX.of (same_upd nl))) (b5.same (same_upd nl)) (dp_newL lv4 nl hall)⟩⟩⟩
            exact gD_mono lf12 (Nat.le_succ L) _ (k + 1) _ (by omega) (gD_mk h1 h2).1
      obtain ⟨u2, hu2, hrest2⟩ := rest2
      refine ⟨_, pss_cons (ps_set (i := 2) scBent.nd rfl (.inl rfl) (pe_call GT hr (by rfl) mT FT.kp bT .nil pass0 (pa_cons (pv 0) (pa_cons pe_int pa_nil))))
        (pss_cons (ps_if (PW.pt (pw_and (pt_val (pe_callB cr_isSeq2 (by rfl) mi boot_isinstance (pa_cons (pv 1) (pa_cons (pe_tup (pa_cons (pe_bltn (v := .ty "tuple") (by rfl) mt (by decide +kernel) rfl) (pa_cons (pe_bltn (v := .ty "list") (by rfl) ml (by decide +kernel) rfl) pa_nil))) pa_nil))))
            (pw_and (pt_cmpR op_gt (pe_callB call_len_seq (by rfl) me PySem.boot_len (pa_cons (pv 1) pa_nil)) pe_int (nomark _)) (pw_and1 (pt_cmpR op_gt (pv 2) pe_int (nomark _))))))
          (pss_cons (ps_par (i := 3) (j := 4) rfl scBent.nd rfl rfl (by decide) rfl rfl (pa_cons (pe_call GT hr (by rfl) mT FT.kp bT .nil pass0 (pa_cons (pv 0) (pa_cons (pe_callB call_len_seq (by rfl) me PySem.boot_len (pa_cons (pv 1) pa_nil)) pa_nil)))
              (pa_cons (pe_callTy call_list_of (by rfl) ml PyProof.Rows.boot_list (pa_cons (pv 1) pa_nil)) pa_nil)) (by rfl))
          (pss_cons (ps_if (pt_cmpR op_eq (pv 2) pe_int (nomark _))
            (pss_one (ps_expr (pe_bm PySem.F.plainAttrs_list PySem.F.slot_list_pop PySem.F.type_list_pop mt_popAt (pv 4) (pa_cons (pv 3) pa_nil))))
            (pss_one (ps_if (pt_cmpR op_eq (pv 2) pe_int (nomark _))
              (pss_one (ps_expr (pe_bm PySem.F.plainAttrs_list PySem.F.slot_list_insert PySem.F.type_list_insert mt_insert (pv 4) (pa_cons (pv 3) (pa_cons (pe_ix ix_seq (pv 4) (pv 3) (fun _ _ => rfl)) pa_nil)))))
              (pss_one (ps_asg (pe_call ih hr (by rfl) mF F.kp bF .nil pass0 (pa_cons (pv 0) (pa_cons (pe_ix ix_seq (pv 4) (pv 3) (fun _ _ => rfl)) pa_nil))) (pg_sub (pv 4) (pv 3) set_list))))))
          (pss_one (ps_ret (pe_ifExp (pt_val (pe_callB (cr_isOne "tuple") (by rfl) mi boot_isinstance (pa_cons (pv 1) (pa_cons (pe_bltn (v := .ty "tuple") (by rfl) mt (by decide +kernel) rfl) pa_nil))))
              (pe_callTy call_tuple_of (by rfl) mt PyProof.Rows.boot_tuple (pa_cons (pv 4) pa_nil)) (pv 4)))))) pss_nil)
        hu2), ?_⟩
      refine ⟨_, rfl, b, m, 7, rfl, by decide, by decide, hB, by omega, fun r H1 r0 r1 s1 b1 => ?_⟩
      have d1 : Dp K (hide B H1) v d := dp_same (s1.hide memb) hd
      have lv1 : Live B H1 := s1.live lv fun c hc => by rw [List.mem_singleton.mp hc]; exact b1.live
      refine ⟨_, rfl, by show 2 ≤ sizeLine; decide, fun t nt => ⟨_, _, d, rfl, upd_same, dp_same ((hide_same B H1).trans (same_upd nt)) d1, _, rfl, ?_⟩⟩
      have st : Same H1 (upd H1 t (.tup [.ty "tuple", .ty "list"])) := same_upd nt
      have d2 : Dp K (hide B (upd H1 t (.tup [.ty "tuple", .ty "list"]))) v d := dp_same (hide_of_same st) d1
      have lv2 := lv1.same st
      have s2 := s1.trans (SameX.of (B := [b]) st)
      have b2 := b1.same st
      generalize upd H1 t (.tup [.ty "tuple", .ty "list"]) = H2 at st d2 lv2 s2 b2
      cases hq : isSeq d with
      | false => exact iteF (iteF (hrest2 _ _ _ _ _ s2 b2))
      | true =>
        refine iteT ?_
        obtain ⟨a, xs, ds, rfl, hk, hall⟩ := dp_seq d2 hq
        have hkB : SqL K (hide B H2) a xs ∨ SqT K (hide B H2) a xs := hk.imp And.left And.left
        have hk2 : SqL K H2 a xs ∨ SqT K H2 a xs := hkB.imp (hide_same B H2).seq (same_seqT (hide_same B H2))
        have hkk : d = .list ds ∨ d = .tuple ds := hk.imp And.right And.right
        obtain ⟨n0, hN0, hlen, hgs⟩ := gD_seq hkk hg
        subst hN0
        have hl := dps_len hall
        refine ⟨_, rfl, a, xs, rfl, hk2, _, _, rfl, rfl, _, rfl, ite2 (fun e1 => ?_) (fun e1 => iteF (hrest2 _ _ _ _ _ s2 b2))⟩
        have hpos : 0 < xs.length := by
          have z := of_decide_eq_true e1
          omega
        refine ⟨_, rfl, _, _, rfl, rfl, _, rfl, ite2 (fun e2 => ?_) (fun e2 => hrest2 _ _ _ _ _ s2 b2)⟩
        -- the place, and a list of its own
        refine ⟨_, rfl, _, rfl, a, xs, rfl, hk2, b, m + 1, xs.length, rfl, by omega, by omega, b2, by omega, fun k0 H3 k00 k01 s3 b3 => ?_⟩
        obtain ⟨j, rfl⟩ : ∃ j : Nat, k0 = j := ⟨k0.toNat, by omega⟩
        have hj : j < xs.length := by omega
        have lv3 : Live B H3 := s3.live lv2 fun c hc => by rw [List.mem_singleton.mp hc]; exact b3.live
        have hk3B : SqL K (hide B H3) a xs ∨ SqT K (hide B H3) a xs := hkB.imp (s3.hide memb).seq (same_seqT (s3.hide memb))
        have hk3 : SqL K H3 a xs ∨ SqT K H3 a xs := hk3B.imp (hide_same B H3).seq (same_seqT (hide_same B H3))
        have d3 : Dp K (hide B H3) (.ref a) d := dp_same (s3.hide memb) d2
        have hall3 : DpAll K (hide B H3) xs ds := dps_same (s3.hide memb) hall
        refine ⟨_, rfl, a, xs, rfl, hk3, fun l nl => ⟨_, _, rfl, ?_⟩⟩
        have lB := lv3.new nl
        have lb : l ≠ b := fun e => lB (e ▸ hb)
        have s34 : Same H3 (upd H3 l (.lst xs)) := same_upd nl
        have hl4 : (upd H3 l (.lst xs)) l = some (.lst xs) := upd_same
        have lv4 := lv3.same s34
        have hall4 := dps_same (hide_of_same (B := B) s34) hall3
        have d4 := dp_same (hide_of_same (B := B) s34) d3
        have s4 : SameX [b] H (upd H3 l (.lst xs)) := s2.trans (s3.trans (SameX.of s34))
        have b4 := b3.same s34
        have x4 : ∀ c, H c ≠ none → c ≠ l := fun c hc e => by
          cases z : H c with
          | none => exact hc z
          | some o =>
            by_cases y : c = b
            · exact lb (e ▸ y)
            · rw [← e, s3 c o (fun z => y (List.mem_singleton.mp z)) (s2 c o (fun z => y (List.mem_singleton.mp z)) z)] at nl
              cases nl
        have m35 : ∀ {H5 : Hp}, SameX [l, b] (upd H3 l (.lst xs)) H5 → Same (hide B H3) (hide B H5) := fun {H5} s5 c o z => by
          obtain ⟨cB, z2⟩ := hide_some z
          rw [hide_out cB]
          refine s5 c o (fun y => ?_) (s34 c o z2)
          rcases List.mem_cons.mp y with y | y
          · exact ne_of_none z2 nl y
          · exact cB (by rw [List.mem_singleton.mp y]; exact hb)
        have m4 : Same (hide B H3) (hide (l :: B) (upd H3 l (.lst xs))) := fun c o z => by
          obtain ⟨cB, z2⟩ := hide_some z
          rw [hide_out (fun y => (List.mem_cons.mp y).elim (ne_of_none z2 nl) cB)]
          exact s34 c o z2
        have sH : ∀ {H5 : Hp}, SameX [l, b] (upd H3 l (.lst xs)) H5 → SameX [b] H H5 := fun {H5} s5 c o z z2 => by
          refine s5 c o (fun y => ?_) (s4 c o z z2)
          rcases List.mem_cons.mp y with y | y
          · exact x4 c (fun e => by rw [z2] at e; cases e) y
          · exact z y
        have gall : ∀ e ∈ ds, gD lf2 (L + 1) e (n0 + 1) = true := fun e he => by
          rw [gDs_all, List.all_eq_true] at hgs
          exact gD_mono lf12 (Nat.le_succ L) e n0 _ (Nat.le_succ n0) (hgs e he)
        have ret : ∀ (x5 : Option V) (H5 : Hp) (zs : List V) (es : List PyData), SameX [l, b] (upd H3 l (.lst xs)) H5 → BoxAt H5 b (m + 10 * (n0 + 1 + 1)) → H5 l = some (.lst zs) → DpAll K (hide B H5) zs es → es.length ≤ L + 1 → (∀ e ∈ es, gD lf2 (L + 1) e (n0 + 1) = true) → PyData.bulkAll es ≤ 2 * PyData.bulkAll ds + 100 →
            (tIf (tB (tCB (rIsOne K "tuple") (tCons (tVar 1) (tCons (tC (V.ty "tuple")) tNil)))) (tCB (rTupOf K) (tCons (tVar 4) tNil)) (tVar 4)) [some (.ref b), some (.ref a), some (.int r), some (.int j), some (.ref l), x5] H5 Q := by
          intro x5 H5 zs es s5 b5 hl5 dz le ge bk
          have d5 : Dp K H5 (.ref a) d := dp_same ((m35 s5).trans (hide_same B H5)) d3
          have S5 := sH s5
          have lv5 : Live B H5 := S5.live lv fun c hc => by rw [List.mem_singleton.mp hc]; exact b5.live
          have gg := gD_mk le (gDs_of ge)
          rcases hkk with rfl | rfl
          · refine ⟨_, rfl, ⟨_, _, rfl, d5, false, (show kitB "list" "tuple" = some false by decide +kernel), _, rfl, iteF ⟨_, rfl, q _ (.list es) _ gg.1 (by simpa only [PyData.bulk] using bk) S5 b5 (.lst (SqL.of (by rw [hide_out lB]; exact hl5)) dz)⟩⟩⟩
          · refine ⟨_, rfl, ⟨_, _, rfl, d5, true, (show kitB "tuple" "tuple" = some true by decide +kernel), _, rfl, iteT ⟨_, rfl, l, zs, rfl, .inl ⟨SqL.of hl5, fun l2 nl2 => q _ (.tuple es) _ gg.2 (by simpa only [PyData.bulk] using bk) (S5.trans (SameX.of (same_upd nl2))) (b5.same (same_upd nl2)) (dp_new lv5 nl2 dz)⟩⟩⟩⟩
        have hjx : xs[j]? = some xs[j] := List.getElem?_eq_getElem hj
        obtain ⟨dj, hdj, hxj⟩ := dps_get hall3 hjx
        have hdl : dj ∈ ds := List.mem_of_getElem? hdj
        have upl : ∀ (ys : List V), SameX [l, b] (upd H3 l (.lst xs)) (upd (upd H3 l (.lst xs)) l (.lst ys)) := fun ys => sameX_upd List.mem_cons_self
        have bup : ∀ {H5 : Hp} {k : Nat} (ys : List V), BoxAt H5 b k → BoxAt (upd H5 l (.lst ys)) b k := fun {H5 k} ys z => by
          obtain ⟨u1, u2, u3, z1, z2⟩ := z
          exact ⟨u1, u2, u3, by rw [upd_ne lb.symm]; exact z1, z2⟩
        refine ⟨_, rfl, rfl, _, rfl, ite2 (fun e3 => ?_) (fun e3 => ?_)⟩
        · refine ⟨_, rfl, .inl ⟨rfl, _, .inl (.inl hl4)⟩, _, rfl, l, xs, j, j, xs[j], rfl, rfl, hl4, by omega, by omega, ?_, hjx, ?_⟩
          · exact seqIndex_of (k := (j : Int)) (by omega) (by omega)
          · refine ret _ _ (xs.eraseIdx j) (ds.eraseIdx j) (upl _) ((bup _ b4).le (by omega)) upd_same (dps_erase j (dps_same (m35 (upl _)) hall3)) ?_ (fun e he => gall e (List.mem_of_mem_eraseIdx he)) (by have := bulk_erase ds j; omega)
            have := List.length_eraseIdx_le ds j
            omega
        · refine ⟨_, rfl, rfl, _, rfl, ite2 (fun e4 => ?_) (fun e4 => ?_)⟩
          · refine ⟨_, rfl, .inl ⟨rfl, _, .inl (.inl hl4)⟩, _, rfl, _, rfl, _, rfl, .inl ⟨l, xs, j, xs[j], rfl, rfl, SqL.of hl4, atI_nat hjx, l, xs, j, xs[j], rfl, rfl, hl4, small1000 (by omega), by omega, by omega, ?_⟩⟩
            refine ret _ _ (xs.take j ++ [xs[j]] ++ xs.drop j) (ds.take j ++ [dj] ++ ds.drop j) (upl _) ((bup _ b4).le (by omega)) upd_same (dps_app (dps_app (dps_take j (dps_same (m35 (upl _)) hall3)) (.cons (dp_same (m35 (upl _)) hxj) .nil)) (dps_drop j (dps_same (m35 (upl _)) hall3))) ?_ (fun e he => ?_) (by have := bulk_insert (ds := ds) (j := j) hdl; omega)
            · rw [List.length_append, List.length_append, List.length_take, List.length_drop]
              show min j ds.length + 1 + (ds.length - j) ≤ L + 1
              omega
            · rcases List.mem_append.mp he with he | he
              · rcases List.mem_append.mp he with he | he
                · exact gall e (List.mem_of_mem_take he)
                · rw [List.mem_singleton.mp he]
                  exact gall _ hdl
              · exact gall e (List.mem_of_mem_drop he)
          · refine ⟨_, rfl, _, rfl, _, rfl, .inl ⟨l, xs, j, xs[j], rfl, rfl, SqL.of hl4, atI_nat hjx, n0, l :: B, b, m + 1 + 1, L, xs[j], dj, rfl, rfl, List.mem_cons_of_mem _ hb, lv4.cons hl4, b4, by omega, hL, dp_same m4 hxj, okGet hgs hdl, fun v' d' H5 g' gb' s5 b5 dv' => ?_⟩⟩
            have hl5 : H5 l = some (.lst xs) := s5 l _ (fun z => lb (List.mem_singleton.mp z)) hl4
            refine ⟨_, rfl, _, rfl, l, xs, j, j, rfl, rfl, hl5, ?_, ?_⟩
            · unfold ixN
              rw [if_pos (by omega), if_pos (by omega)]
              rfl
            · have s6 : SameX [l, b] (upd H3 l (.lst xs)) (upd H5 l (.lst (xs.set j v'))) := (s5.sub fun z hz => List.mem_cons_of_mem _ hz).trans (sameX_upd List.mem_cons_self)
              have m6 : Same (hide (l :: B) H5) (hide B (upd H5 l (.lst (xs.set j v')))) := fun c o z => by
                obtain ⟨cB, z2⟩ := hide_some z
                rw [hide_out (fun y => cB (List.mem_cons_of_mem _ y)), upd_ne (fun y => cB (by rw [y]; exact List.mem_cons_self))]
                exact z2
              refine ret _ _ (xs.set j v') (ds.set j d') s6 ((bup _ b5).le (by omega)) upd_same (dps_set (dp_same m6 dv') j (dps_same (m35 s6) hall3)) (by rw [List.length_set]; omega) (fun e he => ?_) (by have h1 := bulk_set (d' := d') hdj; have h2 := bulk_mem hdl; omega)
              rcases List.mem_or_eq_of_mem_set he with he | rfl
              · exact gall e he
              · exact g'
end
end KV

namespace KV
open PySem PySem.Spec PyProof.Rows L2 RZ
/-! ### t[::-1] of a tuple -/
section
variable {prog : Program} {w : World} {A : Around} {E : Value → Shared → Prop} {s : Shared}
theorem sa_rev {sl : Addr} {vl vu vs : Value} {n : Nat} {Q : Int × Int × Nat → Shared → Prop} (hs : s.heap.IsSliceOf sl vl vu vs) (pl : IsPart vl none) (pu : IsPart vu none) (ps : IsPart vs (some (-1)))
    (h : Q ((n : Int) - 1, -1, n) s) : wpAny (model prog w) A (Builtin.Slice.sliceApplied (.ref sl) (pure (n : Int))) Q E s := by
  obtain ⟨os, hos, hcs, hds⟩ := id hs
  unfold Builtin.Slice.sliceApplied Builtin.Slice.sliceFields
  refine wpAny_bind (wpAny_bind (wpAny_field hos hds (x := vl) rfl (wpAny_bind (wpAny_field hos hds (x := vu) rfl (wpAny_bind (wpAny_field hos hds (x := vs) rfl (wpAny_pure ?_)))))))
  refine wpAny_bind (HT.slicePart_ ps ?_)
  show wpAny _ _ (if ((-1 : Int) == 0) = true then _ else _) _ _ s
  rw [if_neg (by decide)]
  refine wpAny_bind (HT.slicePart_ pl (wpAny_bind (HT.slicePart_ pu (wpAny_bind (wpAny_pure ?_)))))
  have e : Builtin.Slice.sliceAdjust none none (-1) (n : Int) = ((n : Int) - 1, -1) := by
    simp [Builtin.Slice.sliceAdjust]
  have e2 : Builtin.Slice.slicePlaces ((n : Int) - 1) (-1) (-1) = n := by
    unfold Builtin.Slice.slicePlaces
    simp
    omega
  show wpAny _ _ (match Builtin.Slice.sliceAdjust none none (-1) (n : Int) with | (lo, hi) => pure (lo, (-1 : Int), Builtin.Slice.slicePlaces lo hi (-1))) _ _ s
  rw [e]
  show wpAny _ _ (pure ((n : Int) - 1, (-1 : Int), Builtin.Slice.slicePlaces ((n : Int) - 1) (-1) (-1))) _ _ s
  rw [e2]
  exact wpAny_pure h
theorem fm_congr {α β : Type} {f g : α → Option β} : ∀ l : List α, (∀ x ∈ l, f x = g x) → l.filterMap f = l.filterMap g
  | [], _ => rfl
  | x :: l, h => by
    rw [List.filterMap_cons, List.filterMap_cons, h x List.mem_cons_self, fm_congr l fun y hy => h y (List.mem_cons_of_mem _ hy)]
theorem fm_all {α : Type} : ∀ l : List α, (List.range l.length).filterMap (fun k => l[k]?) = l
  | [] => rfl
  | x :: l => by
    rw [List.length_cons, List.range_succ_eq_map, List.filterMap_cons]
    show x :: (((List.range l.length).map Nat.succ).filterMap fun k => (x :: l)[k]?) = _
    rw [List.filterMap_map]
    exact congrArg (x :: ·) (fm_all l)
theorem pick_rev (xs : Array Value) : ((List.range xs.size).filterMap fun (k : Nat) => xs[((xs.size : Int) - 1 + (k : Int) * -1).toNat]?) = xs.toList.reverse := by
  have e1 : ((List.range xs.size).filterMap fun (k : Nat) => xs[((xs.size : Int) - 1 + (k : Int) * -1).toNat]?) = (List.range xs.size).filterMap fun (k : Nat) => xs.toList.reverse[k]? := by
    refine fm_congr _ fun k hk => ?_
    have hk := List.mem_range.mp hk
    have e : ((xs.size : Int) - 1 + (k : Int) * -1).toNat = xs.size - 1 - k := by omega
    rw [e, List.getElem?_reverse (by rw [Array.length_toList]; exact hk), Array.length_toList, Array.getElem?_toList]
  have hl : xs.size = xs.toList.reverse.length := by rw [List.length_reverse, Array.length_toList]
  rw [e1, hl]
  exact fm_all _
theorem gi_rev {t sl : Addr} {items : Array Value} {vl vu vs : Value} {Q : Value → Shared → Prop} (ht : IsTup s.heap t items) (hs : s.heap.IsSliceOf sl vl vu vs) (pl : IsPart vl none) (pu : IsPart vu none) (ps : IsPart vs (some (-1)))
    (h : Q (.ref s.heap.objs.size) { s with heap := s.heap.push { cls := .type "tuple", data := .seq items.toList.reverse.toArray } }) (hsz : items.size ≤ sizeLine) : wpAny (model prog w) A (getItem (.ref t) (.ref sl)) Q E s := by
  have hz : sizeOk (.seq items.toList.reverse.toArray) := by
    show items.toList.reverse.toArray.size ≤ sizeLine
    rw [List.size_toArray, List.length_reverse, Array.length_toList]
    exact hsz
  obtain ⟨os, hos, hcs, hds⟩ := id hs
  unfold getItem
  try with_reducible refine wpAny_holding ?_
  first | refine wpAny_bind (wpAny_pure ?_) | skip
  refine wpAny_bind (wpAny_sequenceKey ht.typeIs (by decide) ?_)
  refine wpAny_bind (wpAny_callSpecial?_slot (name := Str.ofString "__getitem__") ht.typeIs PyProof.Rows.slot_tuple_getitem (wpAny_call_entry PyProof.Rows.slot_tuple_getitem ht.typeIs entry_tuple_getitem ?_ (args_tuple_getitem _ _)))
  show wpAny _ _ (Builtin.Tuple.tupleItemsOf (.ref t) >>= _) _ _ s
  refine wpAny_bind (tupleItemsOf_ ht (wpAny_bind (wpAny_typeOf (T := "slice") ⟨os, hos, hcs⟩ ?_)))
  rw [if_pos (by decide)]
  refine wpAny_bind (sa_rev hs pl pu ps ?_)
  have no : ¬ (((items.size : Int) - 1 == 0 && (-1 : Int) == 1 && items.size == items.size) = true) := by
    rw [show ((-1 : Int) == 1) = false from rfl, Bool.and_false, Bool.false_and]
    exact Bool.false_ne_true
  show wpAny _ _ (if ((items.size : Int) - 1 == 0 && (-1 : Int) == 1 && items.size == items.size) = true then _ else _) _ _ s
  rw [if_neg no, pick_rev]
  first
    | exact wpAny_bind (m := Builtin.Tuple.tupleExact _) (wpAny_newObj_type (wpAny_pure ⟨_, rfl, wpAny_pure h⟩) hz)
    | exact wpAny_bind (m := Builtin.Tuple.tupleExact _) (wpAny_newObj_type (wpAny_bind (wpAny_pure (wpAny_pure ⟨_, rfl, wpAny_pure h⟩))) hz)
end
section
variable {X : Cx}
def tRevT (K : PySem.W.Frag) (te : TE) : TE := fun σ H Q => te σ H fun x H1 => ∃ a xs, x = .ref a ∧ SqT K H1 a xs ∧ ∀ p, H1 p = none → Q (.ref p) (upd H1 p (.tup xs.reverse))
theorem pe_revT {e : Expr} {te : TE} {k : Nat} {p1 p2 p3 pos : Pos} (he : PE X e te) : PE X (.Subscript e (.Slice none none (some (.UnaryOp .USub (.Constant (.int 1) k p1) p2)) p3) pos) (tRevT X.K te) := by
  refine ⟨fun pins s σ H Q I h => Subscript_ (thn (he.run pins s σ H _ I h) fun v s1 ⟨x, H1, I1, r1, a, xs, ex, hx, q⟩ => ?_)⟩
  subst ex
  cases r1
  have neg : PO X (some (.UnaryOp .USub (.Constant (.int 1) k p1) p2)) (tPart (tUn (rU fun i => .int (-i)) (tC (.int 1)))) := po_some (pe_un un_neg pe_int)
  refine wpAny_Slice (thn (po_none.run pins s1 σ H1 (fun o H2 => o = none ∧ H2 = H1) I1 ⟨rfl, rfl⟩) fun vl s2 ⟨l, H2, I2, pl, el, e2⟩ => ?_)
  subst el e2
  refine thn (po_none.run pins s2 σ H2 (fun o H3 => o = none ∧ H3 = H2) I2 ⟨rfl, rfl⟩) fun vu s3 ⟨u, H3, I3, pu, eu, e3⟩ => ?_
  subst eu e3
  refine thn (neg.run pins s3 σ H3 (fun o H4 => o = some (-1) ∧ H4 = H3) I3 ⟨1, rfl, -1, rfl, rfl, rfl⟩) fun vs s4 ⟨o, H4, I4, ps, eo, e4⟩ => ?_
  subst eo e4
  have I5 : Inv X pins σ H4 { s4 with heap := s4.heap.push { cls := .type "slice", data := .fields #[vl, vu, vs] } } := I4.kept (t' := s4.toks) fun b ob q => Heap.get?_push_of_some _ q
  obtain ⟨its, r, ht, hz⟩ := I5.tuple hx
  have hlen := r.length
  show wpAny (model X.prog X.w) X.A (subscriptTail e (.Slice none none (some (.UnaryOp .USub (.Constant (.int 1) k p1) p2)) p3) (.ref a) (.ref s4.heap.objs.size)) (EP X pins σ Q) X.xe { s4 with heap := s4.heap.push { cls := .type "slice", data := .fields #[vl, vu, vs] } }
  refine tail_any (ops := [.ref a, .ref s4.heap.objs.size]) ht.typeIs (PyProof.Rows.slot_tuple_getitem.lookup) (gi_rev (items := its.toArray) ht (Heap.IsSliceOf.new _ vl vu vs) pl pu ps ?_ (by rw [List.size_toArray]; omega)) (by with_unfolding_all rfl)
  refine ⟨.ref _, _, I5.laid (t' := s4.toks) (o := .tup xs.reverse) (fun b ob q => Heap.get?_push_of_some _ q) (Nat.le_refl _) ?_, rfl, q _ (I5.hok.fresh (Nat.le_refl _))⟩
  exact ⟨by rw [List.length_reverse]; exact hz, _, r.reverse, IsTup.new _ _⟩
end
end KV

namespace KV
open PySem PySem.Spec PyProof.Rows L2 RZ
/-! ### repr of any data, also of what stands nowhere in the heap -/
def rReprA (K : PySem.W.Frag) : List V → Hp → VK → Prop := fun vs H Q => ∃ v d, vs = [v] ∧ Dp K H v d ∧ d.showable = true ∧ d.hasDict = false ∧ d.depth ≤ 60 ∧ d.shown.length ≤ sizeLine ∧ Q (.str d.shown) H
section
variable {X : Cx}
theorem cr_reprA (hg : X.A.guards = some []) (hu : X.A.units + 64 < cLine) : CallR X (.builtin "repr") (rReprA X.K) := by
  intro pins s σ H vs us Q I r h
  obtain ⟨v, d, rfl, hd, hs, hn, hdp, hz, q⟩ := h
  cases hd with
  | non =>
    obtain ⟨u, rfl, ru⟩ := vals1 r
    cases ru
    exact PySem.P.repr_of_none ⟨.str _, H, I.tok _, ⟨_, rfl⟩, q⟩
  | bl b =>
    obtain ⟨u, rfl, ru⟩ := vals1 r
    cases ru
    refine PySem.P.repr_of_bool ⟨.str _, H, I.tok _, ⟨_, rfl⟩, ?_⟩
    cases b <;> exact q
  | int i =>
    obtain ⟨u, rfl, t, rfl⟩ := vals1 r
    refine PySem.P.repr_of_int ?_ ⟨.str _, H, I.tok _, ⟨_, rfl⟩, q⟩
    simpa only [PyData.showable, decide_eq_true_eq] using hs
  | str x =>
    obtain ⟨u, rfl, t, rfl⟩ := vals1 r
    exact PySem.P.repr_of_str ⟨.str _, H, I.tok _, ⟨_, rfl⟩, q⟩ hz
  | lst h1 h2 => exact cr_repr hg hu pins s σ H [_] us Q I r ⟨_, _, rfl, ⟨_, rfl⟩, .lst h1 h2, hs, hn, hdp, hz, q⟩
  | tup h1 h2 => exact cr_repr hg hu pins s σ H [_] us Q I r ⟨_, _, rfl, ⟨_, rfl⟩, .tup h1 h2, hs, hn, hdp, hz, q⟩
end
theorem dps_rev {K : PySem.W.Frag} {H : Hp} : ∀ {vs : List V} {ds : List PyData}, DpAll K H vs ds → DpAll K H vs.reverse ds.reverse
  | [], _, h => by
    cases h
    exact .nil
  | v :: vs, _, h => by
    cases h with
    | cons h1 h2 =>
      rw [List.reverse_cons, List.reverse_cons]
      exact dps_snoc (dps_rev h2) h1
theorem catA_dp {K : PySem.W.Frag} {B : List Addr} {H : Hp} {x y : V} {ds es : List PyData} {Q : VK} (lv : Live B H) (da : Dp K (hide B H) x (.tuple ds)) (db : Dp K (hide B H) y (.tuple es)) (hz : ds.length + es.length ≤ 1000)
    (q : ∀ (r : V) (H' : Hp), Same H H' → Dp K (hide B H') r (.tuple (ds ++ es)) → Q r H') : rCatA K x y H Q := by
  obtain ⟨a, xs, rfl, sa, dx⟩ := dp_tupR da
  obtain ⟨c, ys, rfl, sc, dy⟩ := dp_tupR db
  have l1 := dps_len dx
  have l2 := dps_len dy
  refine ⟨a, c, xs, ys, rfl, rfl, same_seqT (hide_same B H) sa, same_seqT (hide_same B H) sc, Nat.le_of_lt (small1000 (by omega)), fun e => ?_, fun _ e => ?_, fun _ _ p np => ?_⟩
  · subst e
    cases dx
    exact q _ H (Same.refl _) db
  · subst e
    cases dy
    refine q _ H (Same.refl _) ?_
    rw [List.append_nil]
    exact da
  · exact q _ _ (same_upd np) (dp_new lv np (dps_app dx dy))
theorem gDs_app {lf : PyData → Bool} {L n : Nat} {ds es : List PyData} (h1 : gDs lf L ds n = true) (h2 : gDs lf L es n = true) : gDs lf L (ds ++ es) n = true := by
  rw [gDs_all] at *
  rw [List.all_append, h1, h2]
  rfl
/-! ### good data, and lists of so many -/
def gB (d : PyData) : Prop := gD lf2 30 d 6 = true ∧ d.bulk ≤ 100000
theorem gB.fine {d : PyData} (h : gB d) : fineD d := ⟨30, 6, h.1, by decide, by decide⟩
theorem gB.facts {d : PyData} (h : gB d) : d.showable = true ∧ d.hasDict = false ∧ d.depth ≤ 60 ∧ d.shown.length ≤ sizeLine := by
  obtain ⟨f1, f2, f3⟩ := gD_facts d 6 h.1
  have f4 := gD_dep d 6 h.1
  have h1 := PyData.shown_le_bulk 130 (by decide) d f3
  have h2 := Nat.mul_le_mul_left 132 h.2
  refine ⟨f1, f2, by omega, ?_⟩
  rw [sizeLine_eq]
  omega
def OddB (K : PySem.W.Frag) (B : List Addr) (H : Hp) (a : Addr) (n : Nat) : Prop := ∃ ds xs, H a = some (.lst xs) ∧ DpAll K (hide B H) xs ds ∧ (∀ e ∈ ds, gB e) ∧ ds.length = n ∧ a ∉ B
theorem OddB.same {K : PySem.W.Frag} {B : List Addr} {H H' : Hp} {a : Addr} {n : Nat} (h : OddB K B H a n) (s : Same H H') : OddB K B H' a n := by
  obtain ⟨ds, xs, h1, h2, h3⟩ := h
  exact ⟨ds, xs, s _ _ h1, dps_same (hide_of_same s) h2, h3⟩
theorem OddB.new {K : PySem.W.Frag} {B : List Addr} {H : Hp} {p : Addr} {xs : List V} {ds : List PyData} (lv : Live B H) (n : H p = none) (h : DpAll K (hide B H) xs ds) (g : ∀ e ∈ ds, gB e) : OddB K B (upd H p (.lst xs)) p ds.length :=
  ⟨ds, xs, upd_same, dps_same (hide_of_same (same_upd n)) h, g, rfl, lv.new n⟩
theorem OddB.cat {K : PySem.W.Frag} {B : List Addr} {H : Hp} {a : Addr} {n : Nat} {c : Addr} {m : Nat} {Q : VK} (lv : Live B H) (h1 : OddB K B H a n) (h2 : OddB K B H c m) (hz : n + m ≤ 1000)
    (q : ∀ (p : Addr) (H' : Hp), Same H H' → OddB K B H' p (n + m) → Q (.ref p) H') : rCat (.ref a) (.ref c) H Q := by
  obtain ⟨ds, xs, a1, a2, g1, rfl, _⟩ := h1
  obtain ⟨es, ys, b1, b2, g2, rfl, _⟩ := h2
  have l1 := dps_len a2
  have l2 := dps_len b2
  refine ⟨a, c, xs, ys, rfl, rfl, a1, b1, Nat.le_of_lt (small1000 (by omega)), fun p np => ?_⟩
  refine q p _ (same_upd np) ⟨ds ++ es, xs ++ ys, upd_same, dps_same (hide_of_same (same_upd np)) (dps_app a2 b2), fun e he => ?_, by rw [List.length_append], lv.new np⟩
  rcases List.mem_append.mp he with h | h
  · exact g1 e h
  · exact g2 e h
theorem OddB.sameX {K : PySem.W.Frag} {b D : Addr} {H H' : Hp} {a : Addr} {n : Nat} {B : List Addr} (h : OddB K B H a n) (hB : b ∈ B) (s : SameX [D, b] H H') (nD : H D = none) : OddB K B H' a n := by
  obtain ⟨ds, xs, h1, h2, g, hn, na⟩ := h
  have ne : a ≠ D := fun e => by
    rw [e, nD] at h1
    cases h1
  refine ⟨ds, xs, s _ _ (fun z => ?_) h1, dps_same (fun c o z => ?_) h2, g, hn, na⟩
  · rcases List.mem_cons.mp z with z | z
    · exact ne z
    · exact na (by rw [List.mem_singleton.mp z]; exact hB)
  · obtain ⟨cB, z2⟩ := hide_some z
    rw [hide_out cB]
    refine s c o (fun y => ?_) z2
    rcases List.mem_cons.mp y with y | y
    · exact ne_of_none z2 nD y
    · exact cB (by rw [List.mem_singleton.mp y]; exact hB)
end KV

namespace KV
open PySem PySem.Spec PyProof.Rows L2 RZ
abbrev sTurned : Stmt := topS 59
/-! ### slices of tuples of data -/
def cutD (ds : List PyData) (lo hi : Option Int) : List PyData := (ds.drop (HT.sIx ds.length 0 lo)).take (HT.sIx ds.length ds.length hi - HT.sIx ds.length 0 lo)
theorem dps_cut {K : PySem.W.Frag} {H : Hp} {xs : List V} {ds : List PyData} (h : DpAll K H xs ds) (lo hi : Option Int) : DpAll K H (cutV xs lo hi) (cutD ds lo hi) := by
  unfold cutV cutD
  rw [dps_len h]
  exact dps_take _ (dps_drop _ h)
theorem cutD_mem {ds : List PyData} {lo hi : Option Int} {e : PyData} (h : e ∈ cutD ds lo hi) : e ∈ ds := List.mem_of_mem_drop (List.mem_of_mem_take h)
theorem cutD_len (ds : List PyData) (lo hi : Option Int) : (cutD ds lo hi).length ≤ ds.length := by
  unfold cutD
  rw [List.length_take, List.length_drop]
  omega
theorem bulk_parts (ds : List PyData) (n : Nat) : PyData.bulkAll (ds.take n) ≤ PyData.bulkAll ds ∧ PyData.bulkAll (ds.drop n) ≤ PyData.bulkAll ds := by
  have h2 : PyData.bulkAll ds = PyData.bulkAll (ds.take n) + PyData.bulkAll (ds.drop n) := by rw [← bulkAll_append, List.take_append_drop]
  omega
theorem cutD_bulk (ds : List PyData) (lo hi : Option Int) : PyData.bulkAll (cutD ds lo hi) ≤ PyData.bulkAll ds := Nat.le_trans (bulk_parts _ _).1 (bulk_parts _ _).2
theorem sl_dp {K : PySem.W.Frag} {B : List Addr} {H : Hp} {v : V} {ds : List PyData} {lo hi : Option Int} {Q : VK} (lv : Live B H) (h : Dp K (hide B H) v (.tuple ds))
    (q : ∀ r H', Same H H' → Dp K (hide B H') r (.tuple (cutD ds lo hi)) → Q r H') : rSlA K v lo hi H Q := by
  obtain ⟨a, xs, rfl, S, D⟩ := dp_tupR h
  have hl := dps_len D
  refine ⟨a, xs, rfl, same_seqT (hide_same B H) S, fun e => ?_, fun _ p np => q _ _ (same_upd np) (dp_new lv np (dps_cut D lo hi))⟩
  refine q _ H (fun _ _ z => z) ?_
  have e2 : cutD ds lo hi = ds := by
    unfold cutD
    rw [← hl, e.1, e.2, List.drop_zero, Nat.sub_zero, hl, List.take_length]
  rw [e2]
  exact h
/-- a part, or more, of a row -/
def ofRow (ds : List PyData) (e : PyData) : Prop := ∃ fs, e = .tuple fs ∧ fs.length ≤ 3 * ds.length ∧ (∀ f ∈ fs, f ∈ ds) ∧ PyData.bulkAll fs ≤ 3 * PyData.bulkAll ds
theorem row_swap {ds : List PyData} {i j : Nat} {x y : PyData} (hx : ds[i]? = some x) (hy : ds[j]? = some y) : ofRow ds (.tuple ((ds.set i y).set j x)) := by
  have hxm := List.mem_of_getElem? hx
  have hym := List.mem_of_getElem? hy
  refine ⟨_, rfl, by rw [List.length_set, List.length_set]; omega, fun f hf => ?_, ?_⟩
  · rcases List.mem_or_eq_of_mem_set hf with hf | rfl
    · rcases List.mem_or_eq_of_mem_set hf with hf | rfl
      · exact hf
      · exact hym
    · exact hxm
  · have b1 := bulk_mem hxm
    have b2 := bulk_mem hym
    have b3 := bulk_set (d' := y) hx
    obtain ⟨z, hz⟩ : ∃ z, (ds.set i y)[j]? = some z := by
      have hj := (List.getElem?_eq_some_iff.mp hy).1
      exact ⟨_, List.getElem?_eq_getElem (by rw [List.length_set]; exact hj)⟩
    have b4 := bulk_set (d' := x) hz
    omega
theorem row_cat {ds fs gs : List PyData} (h1 : fs.length ≤ ds.length) (h2 : gs.length ≤ 2 * ds.length) (m1 : ∀ f ∈ fs, f ∈ ds) (m2 : ∀ f ∈ gs, f ∈ ds) (b1 : PyData.bulkAll fs ≤ PyData.bulkAll ds) (b2 : PyData.bulkAll gs ≤ 2 * PyData.bulkAll ds) : ofRow ds (.tuple (fs ++ gs)) := by
  refine ⟨_, rfl, by rw [List.length_append]; omega, fun f hf => (List.mem_append.mp hf).elim (m1 f) (m2 f), by rw [bulkAll_append]; omega⟩
theorem bulk_rev : ∀ ds : List PyData, PyData.bulkAll ds.reverse = PyData.bulkAll ds
  | [] => rfl
  | d :: ds => by
    rw [List.reverse_cons, bulkAll_append, bulk_rev ds]
    simp only [PyData.bulkAll]
    omega
section
variable {P : Program} {w : World} {K : PySem.W.Frag} {mg : Str → Option Value} {base : Heap}
def spTurned (K : PySem.W.Frag) : Sp := fun vs H Q _ => ∃ (B : List Addr) (b : Addr) (n : Nat) (v : V) (ds : List PyData), vs = [.ref b, v] ∧ b ∈ B ∧ Live B H ∧ BoxAt H b n ∧ n + 10 ≤ 2 ^ 40 ∧ Dp K (hide B H) v (.tuple ds) ∧ 0 < ds.length ∧ ds.length ≤ 100 ∧
  ∀ (p : Addr) (xs : List V) (es : List PyData) (H' : Hp), SameX [b] H H' → BoxAt H' b (n + 2) → H' p = some (.lst xs) → DpAll K (hide B H') xs es → (∀ e ∈ es, ofRow ds e) → es.length = 4 → p ∉ B → Q (.ref p) H'
abbrev nTurned : List Str := ["_law_box_here", "_law_some", "_law_at", "_law_spot", "_law_row"]
theorem scTurned : FnScope nTurned ["_law_box_here", "_law_some"] (defScope sTurned) :=
  ⟨rfl, rfl, rfl, by decide +kernel, rfl, by decide +kernel, by decide +kernel⟩
theorem ok_turned {f fT : Addr} {fd fdT : FuncData} {k : Nat} (F : Fun K "_law_turned" "_law_turned" sTurned f fd)
    (FT : Fun K "_law_take" "_law_take" sTake fT fdT) (bT : Binds K fdT ["_law_box_here", "_law_below"] []) (mT : mg "_law_take" = some (.ref fT)) (GT : FnOk P w K mg base CX0 k fT fdT ["_law_box_here", "_law_below"] spTake)
    (me : mg "len" = none) (ml : mg "list" = none) (mt : mg "tuple" = none) : FnOk P w K mg base CX0 (k + 1) f fd ["_law_box_here", "_law_some"] (spTurned K) := by
  refine F.ok scTurned (fun vs H Q E h => ?_) (fun cdv A outer s H vs Q E hr h => ?_)
  · obtain ⟨B, b, n, v, ds, rfl, _⟩ := h
    rfl
  · obtain ⟨B, b, n, v, ds, rfl, hb, lv, hB, hn, hd, h0, hz, q⟩ := h
    refine ⟨_, pss_cons (ps_par (i := 2) (j := 3) rfl scTurned.nd rfl rfl (by decide) rfl rfl
        (pa_cons (pe_call GT hr (by rfl) mT FT.kp bT .nil pass0 (pa_cons (pv 0) (pa_cons (pe_callB call_len_seq (by rfl) me PySem.boot_len (pa_cons (pv 1) pa_nil)) pa_nil)))
        (pa_cons (pe_call GT hr (by rfl) mT FT.kp bT .nil pass0 (pa_cons (pv 0) (pa_cons (pe_callB call_len_seq (by rfl) me PySem.boot_len (pa_cons (pv 1) pa_nil)) pa_nil))) pa_nil)) (by rfl))
      (pss_cons (ps_set (i := 4) scTurned.nd rfl (.inl rfl) (pe_callTy call_list_of (by rfl) ml PyProof.Rows.boot_list (pa_cons (pv 1) pa_nil)))
      (pss_cons (ps_asg (pe_tup (pa_cons (pe_ix ix_seq (pv 4) (pv 3) (fun _ _ => rfl)) (pa_cons (pe_ix ix_seq (pv 4) (pv 2) (fun _ _ => rfl)) pa_nil))) (pg_tup rfl (pgs_cons (pg_sub (pv 4) (pv 2) set_list) (pgs_cons (pg_sub (pv 4) (pv 3) set_list) pgs_nil))))
      (pss_one (ps_ret (pe_lst (pa_cons (pe_callTy call_tuple_of (by rfl) mt PyProof.Rows.boot_tuple (pa_cons (pv 4) pa_nil))
        (pa_cons (pe_op op_catA (pe_slice sl_tupA (pv 1) po_none (po_some (pv 2))) (pe_slice sl_tupA (pv 1) (po_some (pe_op op_add (pv 2) pe_int)) po_none))
        (pa_cons (pe_op op_catA (pe_op op_catA (pe_slice sl_tupA (pv 1) po_none (po_some (pv 2))) (pe_slice sl_tupA (pv 1) (po_some (pv 2)) (po_some (pe_op op_add (pv 2) pe_int)))) (pe_slice sl_tupA (pv 1) (po_some (pv 2)) po_none))
        (pa_cons (pe_revT (pv 1)) pa_nil))))))))), ?_⟩
    have memb : ∀ c ∈ [b], c ∈ B := fun c hc => by rw [List.mem_singleton.mp hc]; exact hb
    obtain ⟨a, xs, rfl, S, D⟩ := dp_tupR hd
    have hl := dps_len D
    refine ⟨_, rfl, _, rfl, a, xs, rfl, .inr (same_seqT (hide_same B H) S), b, n, xs.length, rfl, by omega, by omega, hB, by omega, fun k1 H1 k10 k11 s1 b1 => ?_⟩
    obtain ⟨j1, rfl⟩ : ∃ j : Nat, k1 = j := ⟨k1.toNat, by omega⟩
    refine ⟨_, rfl, _, rfl, a, xs, rfl, .inr (same_seqT (hide_same B H1) (same_seqT (s1.hide memb) S)), b, n + 1, xs.length, rfl, by omega, by omega, b1, by omega, fun k2 H2 k20 k21 s2 b2 => ⟨_, _, rfl, ?_⟩⟩
    obtain ⟨j2, rfl⟩ : ∃ j : Nat, k2 = j := ⟨k2.toNat, by omega⟩
    have s12 := s1.trans s2
    have lv2 : Live B H2 := s12.live lv fun c hc => by rw [List.mem_singleton.mp hc]; exact b2.live
    have S2B := same_seqT (s12.hide memb) S
    have D2 := dps_same (s12.hide memb) D
    have hj1 : j1 < xs.length := by omega
    have hj2 : j2 < xs.length := by omega
    refine ⟨_, rfl, a, xs, rfl, .inr (same_seqT (hide_same B H2) S2B), fun l nl => ?_⟩
    have lB := lv2.new nl
    have u3 : Same H2 (upd H2 l (.lst xs)) := same_upd nl
    have hl3 : (upd H2 l (.lst xs)) l = some (.lst xs) := upd_same
    have nl3 : ∀ c o, H2 c = some o → c ≠ l := fun c o e => ne_of_none e nl
    show tSeq _ _ _ _ (upd H2 l (.lst xs))
    generalize upd H2 l (.lst xs) = H3 at u3 hl3
    have h1x : xs[j1]? = some xs[j1] := List.getElem?_eq_getElem hj1
    have h2x : xs[j2]? = some xs[j2] := List.getElem?_eq_getElem hj2
    refine ⟨_, rfl, _, rfl, .inl ⟨l, xs, j2, xs[j2], rfl, rfl, SqL.of hl3, atI_nat h2x, _, rfl, _, rfl, .inl ⟨l, xs, j1, xs[j1], rfl, rfl, SqL.of hl3, atI_nat h1x, by show 2 ≤ sizeLine; decide, fun p4 n4 => ?_⟩⟩⟩
    have u4 : Same H3 (upd H3 p4 (.tup [xs[j2], xs[j1]])) := same_upd n4
    have hl4 := u4 _ _ hl3
    have hp4 : (upd H3 p4 (.tup [xs[j2], xs[j1]])) p4 = some (.tup [xs[j2], xs[j1]]) := upd_same
    generalize upd H3 p4 (.tup [xs[j2], xs[j1]]) = H4 at u4 hl4 hp4
    refine ⟨p4, _, rfl, SqT.of hp4, rfl, xs[j2], _, rfl, ?_⟩
    refine ⟨_, rfl, _, rfl, l, xs, j1, j1, rfl, rfl, hl4, ?_, ?_⟩
    · unfold ixN
      rw [if_pos (by omega), if_pos (by omega)]
      rfl
    refine ⟨xs[j1], _, rfl, ?_⟩
    refine ⟨_, rfl, _, rfl, l, xs.set j1 xs[j2], j2, j2, rfl, rfl, upd_same, ?_, rfl, ?_⟩
    · unfold ixN
      rw [if_pos (by omega), if_pos (by rw [List.length_set]; omega)]
      rfl
    have u5 : Same H2 (upd (upd H4 l (.lst (xs.set j1 xs[j2]))) l (.lst ((xs.set j1 xs[j2]).set j2 xs[j1]))) := fun c o e => by
      have hc := nl3 c o e
      rw [upd_ne hc, upd_ne hc]
      exact u4 c o (u3 c o e)
    have hl5 : (upd (upd H4 l (.lst (xs.set j1 xs[j2]))) l (.lst ((xs.set j1 xs[j2]).set j2 xs[j1]))) l = some (.lst ((xs.set j1 xs[j2]).set j2 xs[j1])) := upd_same
    show Ends.nx _ _ (upd (upd H4 l (.lst (xs.set j1 xs[j2]))) l (.lst ((xs.set j1 xs[j2]).set j2 xs[j1])))
    generalize upd (upd H4 l (.lst (xs.set j1 xs[j2]))) l (.lst ((xs.set j1 xs[j2]).set j2 xs[j1])) = H5 at u5 hl5
    have lv5 := lv2.same u5
    obtain ⟨x, hx1, dx⟩ := dps_get D2 h1x
    obtain ⟨y, hy1, dy⟩ := dps_get D2 h2x
    have D5 : DpAll K (hide B H5) ((xs.set j1 xs[j2]).set j2 xs[j1]) ((ds.set j1 y).set j2 x) := dps_same (hide_of_same u5) (dps_set dx j2 (dps_set dy j1 D2))
    have d5 : Dp K (hide B H5) (.ref a) (.tuple ds) := dp_same (hide_of_same u5) (.tup S2B D2)
    refine ⟨_, rfl, l, _, rfl, .inl ⟨SqL.of hl5, fun p6 n6 => ?_⟩⟩
    have u6 : Same H5 (upd H5 p6 (.tup ((xs.set j1 xs[j2]).set j2 xs[j1]))) := same_upd n6
    have k6 := dp_new lv5 n6 D5
    have lv6 := lv5.same u6
    have d6 := dp_same (hide_of_same (B := B) u6) d5
    generalize upd H5 p6 (.tup ((xs.set j1 xs[j2]).set j2 xs[j1])) = H6 at u6 k6 lv6 d6
    refine ⟨_, rfl, _, rfl, _, rfl, sl_dp lv6 d6 fun r7 H7 u7 d7 => ?_⟩
    refine ⟨_, rfl, _, rfl, _, _, rfl, rfl, _, rfl, ?_⟩
    dsimp only [tNoPart]
    refine sl_dp (lv6.same u7) (dp_same (hide_of_same u7) d6) fun r8 H8 u8 d8 => ?_
    have u68 := u7.trans u8
    refine catA_dp (lv6.same u68) (dp_same (hide_of_same u8) d7) d8 (by have h1 := cutD_len ds none (some (j1 : Int)); have h2 := cutD_len ds (some ((j1 : Int) + 1)) none; omega) fun r9 H9 u9 d9 => ?_
    have u69 := u68.trans u9
    refine ⟨_, rfl, _, rfl, _, rfl, sl_dp (lv6.same u69) (dp_same (hide_of_same u69) d6) fun r10 H10 u10 d10 => ?_⟩
    have u6a := u69.trans u10
    refine ⟨_, rfl, _, rfl, _, rfl, _, rfl, _, _, rfl, rfl, _, rfl, sl_dp (lv6.same u6a) (dp_same (hide_of_same u6a) d6) fun r11 H11 u11 d11 => ?_⟩
    have u6b := u6a.trans u11
    refine catA_dp (lv6.same u6b) (dp_same (hide_of_same u11) d10) d11 (by have h1 := cutD_len ds none (some (j1 : Int)); have h2 := cutD_len ds (some (j1 : Int)) (some ((j1 : Int) + 1)); omega) fun r12 H12 u12 d12 => ?_
    have u6c := u6b.trans u12
    refine ⟨_, rfl, _, rfl, _, rfl, ?_⟩
    dsimp only [tNoPart]
    refine sl_dp (lv6.same u6c) (dp_same (hide_of_same u6c) d6) fun r13 H13 u13 d13 => ?_
    have u6d := u6c.trans u13
    refine catA_dp (lv6.same u6d) (dp_same (hide_of_same u13) d12) d13 (by rw [List.length_append]; have h1 := cutD_len ds none (some (j1 : Int)); have h2 := cutD_len ds (some (j1 : Int)) (some ((j1 : Int) + 1)); have h3 := cutD_len ds (some (j1 : Int)) none; omega) fun r14 H14 u14 d14 => ?_
    have u6e := u6d.trans u14
    have d14' := dp_same (hide_of_same u6e) d6
    obtain ⟨a15, xs15, e15, S15, D15⟩ := dp_tupR d14'
    refine ⟨_, rfl, a15, xs15, e15, same_seqT (hide_same B H14) S15, fun p15 n15 => ⟨by show 4 ≤ sizeLine; decide, fun p16 n16 => ?_⟩⟩
    have lv14 := lv6.same u6e
    have u15 := same_upd (o := HO.tup xs15.reverse) n15
    have k15 := dp_new lv14 n15 (dps_rev D15)
    have lv15 := lv14.same u15
    have u16 := same_upd (o := HO.lst [.ref p6, r9, r14, .ref p15]) n16
    have hB5 := fun {v : V} {d : PyData} (z : Dp K (hide B H14) v d) => dp_same (hide_of_same (B := B) (u15.trans u16)) z
    refine q p16 _ _ _ ?_ (((b2.same u5).same u6).same ((u6e.trans u15).trans u16)) upd_same (.cons (hB5 (dp_same (hide_of_same u6e) k6)) (.cons (hB5 (dp_same (hide_of_same ((((u10.trans u11).trans u12).trans u13).trans u14)) d9)) (.cons (hB5 d14) (.cons (dp_same (hide_of_same u16) k15) .nil)))) (fun e he => ?_) rfl (lv15.new n16)
    · exact s12.trans (SameX.of (((u5.trans u6).trans (u6e.trans u15)).trans u16))
    · rcases List.mem_cons.mp he with rfl | he
      · exact row_swap hx1 hy1
      rcases List.mem_cons.mp he with rfl | he
      · exact row_cat (cutD_len _ _ _) (by have := cutD_len ds (some ((j1 : Int) + 1)) none; omega) (fun f hf => cutD_mem hf) (fun f hf => cutD_mem hf) (cutD_bulk _ _ _) (by have := cutD_bulk ds (some ((j1 : Int) + 1)) none; omega)
      rcases List.mem_cons.mp he with rfl | he
      · rw [List.append_assoc]
        refine row_cat (cutD_len _ _ _) ?_ (fun f hf => cutD_mem hf) (fun f hf => (List.mem_append.mp hf).elim cutD_mem cutD_mem) (cutD_bulk _ _ _) ?_
        · rw [List.length_append]
          have h2 := cutD_len ds (some (j1 : Int)) (some ((j1 : Int) + 1))
          have h3 := cutD_len ds (some (j1 : Int)) none
          omega
        · rw [bulkAll_append]
          have h2 := cutD_bulk ds (some (j1 : Int)) (some ((j1 : Int) + 1))
          have h3 := cutD_bulk ds (some (j1 : Int)) none
          omega
      · rw [List.mem_singleton.mp he]
        exact ⟨_, rfl, by rw [List.length_reverse]; omega, fun f hf => List.mem_reverse.mp hf, by rw [bulk_rev]; omega⟩
end
end KV

namespace KV
open PySem PySem.Spec PyProof.Rows L2 RZ
abbrev sKnown : Stmt := topS 58
/-! ### literal data with names in it -/
def EnvOk (K : PySem.W.Frag) (B : List Addr) (env : List (Nat × PyData)) (σ : L2.St) (H : Hp) : Prop := ∀ i d, env.lookup i = some d → ∃ v, σ[i]? = some (some v) ∧ Dp K (hide B H) v d
theorem EnvOk.same {K : PySem.W.Frag} {B : List Addr} {env : List (Nat × PyData)} {σ : L2.St} {H H' : Hp} (h : EnvOk K B env σ H) (s : Same H H') : EnvOk K B env σ H' := fun i d e => by
  obtain ⟨v, h1, h2⟩ := h i d e
  exact ⟨v, h1, dp_same (hide_of_same s) h2⟩
def tDE (K : PySem.W.Frag) (B : List Addr) (env : List (Nat × PyData)) (d : PyData) : TE := fun σ H Q => Live B H ∧ EnvOk K B env σ H ∧ ∀ (v : V) (H' : Hp), Same H H' → Dp K (hide B H') v d → Q v H'
def tDEs (K : PySem.W.Frag) (B : List Addr) (env : List (Nat × PyData)) (ds : List PyData) : TA := fun σ H Q => Live B H ∧ EnvOk K B env σ H ∧ ∀ (vs : List V) (H' : Hp), Same H H' → DpAll K (hide B H') vs ds → Q vs H'
section
variable {X : Cx} {K : PySem.W.Frag} {B : List Addr} {env : List (Nat × PyData)} {e : Expr} {es : List Expr} {d : PyData} {ds : List PyData} {pos : Pos}
theorem de_c {v : V} (he : PE X e (tC v)) (hd : ∀ H : Hp, Dp K H v d) : PE X e (tDE K B env d) := ⟨fun pins s σ H Q I h => he.run pins s σ H Q I (h.2.2 v H (fun _ _ z => z) (hd _))⟩
theorem de_v {i : Nat} (he : PE X e (tVar i)) (hm : env.lookup i = some d) : PE X e (tDE K B env d) := ⟨fun pins s σ H Q I h => he.run pins s σ H Q I (by
  obtain ⟨v, h1, h2⟩ := h.2.1 i d hm
  exact ⟨v, h1, h.2.2 v H (fun _ _ z => z) h2⟩)⟩
theorem des_nil : PA X [] (tDEs K B env []) := ⟨fun pos pins s σ H Q I h => pa_nil.run pos pins s σ H Q I (h.2.2 [] H (fun _ _ z => z) .nil)⟩
theorem des_cons (he : PE X e (tDE K B env d)) (hs : PA X es (tDEs K B env ds)) (h1 : starEach (e :: es) X.env = (false, eval e X.env) :: starEach es X.env := by rfl) : PA X (e :: es) (tDEs K B env (d :: ds)) :=
  ⟨fun pos pins s σ H Q I h => (pa_cons he hs h1).run pos pins s σ H Q I ⟨h.1, h.2.1, fun v H1 s1 dv => ⟨h.1.same s1, h.2.1.same s1, fun vs H2 s2 dvs => h.2.2 (v :: vs) H2 (s1.trans s2) (.cons (dp_same (hide_of_same s2) dv) dvs)⟩⟩⟩
theorem de_tup {k : Nat} (hs : PA X es (tDEs K B env ds)) (hz : ds.length ≤ 1000 := by first | decide | simp) : PE X (.Tuple es k pos) (tDE K B env (.tuple ds)) :=
  ⟨fun pins s σ H Q I h => (pe_tup hs).run pins s σ H Q I ⟨h.1, h.2.1, fun vs H1 s1 dvs => ⟨by have := dps_len dvs; exact Nat.le_of_lt (small1000 (by omega)), fun p np => h.2.2 _ _ (s1.trans (same_upd np)) (dp_new (h.1.same s1) np dvs)⟩⟩⟩
theorem de_lst (hs : PA X es (tDEs K B env ds)) (hz : ds.length ≤ 1000 := by first | decide | simp) : PE X (.List es pos) (tDE K B env (.list ds)) :=
  ⟨fun pins s σ H Q I h => (pe_lst hs).run pins s σ H Q I ⟨h.1, h.2.1, fun vs H1 s1 dvs => ⟨by have := dps_len dvs; exact Nat.le_of_lt (small1000 (by omega)), fun p np => h.2.2 _ _ (s1.trans (same_upd np)) (dp_newL (h.1.same s1) np dvs)⟩⟩⟩
theorem de_int {i : Int} {j} : PE X (.Constant (.int i) j pos) (tDE K B env (.int i)) := de_c pe_int fun _ => .int i
theorem de_str {x : Str} {j} : PE X (.Constant (.str x) j pos) (tDE K B env (.str x)) := de_c pe_str fun _ => .str x
theorem de_bl {b : Bool} {j} : PE X (.Constant (.bool b) j pos) (tDE K B env (.bool b)) := de_c pe_bl fun _ => .bl b
theorem de_non {j} : PE X (.Constant .none j pos) (tDE K B env .none) := de_c pe_non fun _ => .non
theorem de_of {t : TE} (he : PE X e t) (ht : ∀ σ H Q, Live B H → EnvOk K B env σ H → (∀ (v : V) (H' : Hp), Same H H' → Dp K (hide B H') v d → Q v H') → t σ H Q) : PE X e (tDE K B env d) :=
  ⟨fun pins s σ H Q I h => he.run pins s σ H Q I (ht σ H Q h.1 h.2.1 h.2.2)⟩
end
/-- found = found + [..] of data that is good -/
theorem oddb_more {K : PySem.W.Frag} {B : List Addr} {env : List (Nat × PyData)} {i n : Nat} {es : List PyData} {σ : L2.St} {H : Hp} {a : Addr} {Q : VK} (lv : Live B H) (he0 : EnvOk K B env σ H) (h : OddB K B H a n) (he : ∀ e ∈ es, gB e) (m : Nat) (hm : n + es.length = m) (hz : m ≤ 1000) (hσ : σ[i]? = some (some (.ref a)))
    (q : ∀ (p : Addr) (H' : Hp), Same H H' → OddB K B H' p m → Q (.ref p) H') : tOp rCat (tVar i) (tLst (tDEs K B env es)) σ H Q := by
  subst hm
  refine ⟨_, hσ, lv, he0, fun vs H1 s1 dvs => ?_⟩
  have hl := dps_len dvs
  refine ⟨Nat.le_of_lt (small1000 (by omega)), fun p np => ?_⟩
  have u1 : Same H1 (upd H1 p (.lst vs)) := same_upd np
  exact OddB.cat (lv.same (s1.trans u1)) (h.same (s1.trans u1)) (OddB.new (lv.same s1) np dvs he) hz fun p2 H2 s2 o2 => q p2 H2 ((s1.trans u1).trans s2) o2
theorem gB_of {d : PyData} (h : gD lf2 3 d 5 = true) : gB d := ⟨gD_mono (fun _ z => z) (by decide) d 5 6 (by decide) h, Nat.le_trans (gD_bulk d 5 h) (by decide +kernel)⟩
theorem gDs_c {lf : PyData → Bool} {L n : Nat} {d : PyData} {ds : List PyData} (h1 : gD lf L d n = true) (h2 : gDs lf L ds n = true) : gDs lf L (d :: ds) n = true := by
  rw [gDs, h1, h2]
  rfl
theorem gDs_0 {lf : PyData → Bool} {L n : Nat} : gDs lf L [] n = true := by rw [gDs]
theorem gBs {ds : List PyData} (h : gDs lf2 3 ds 5 = true) : ∀ e ∈ ds, gB e := fun e he => gB_of (okGet h he)
theorem str_leaf {L n : Nat} {x : Str} (h : lf2 (.str x) = true) : gD lf2 L (.str x) n = true := by cases n <;> simpa only [gD] using h
theorem int_leaf {L n : Nat} {i : Int} (h : lf2 (.int i) = true) : gD lf2 L (.int i) n = true := by cases n <;> simpa only [gD] using h
section
variable {p0 : Str} {m : Int}
theorem kg0 : ∀ e ∈ ([.tuple [], .list [], .none, .tuple [.tuple [.str "a", .tuple [.str "nop"], .tuple []]], .list [.tuple [.str "a", .tuple [.str "nop"], .tuple []]], .tuple [.list [.str "a", .tuple [.str "nop"], .tuple []]], .tuple [.tuple [.str "a", .tuple [.str "nop"], .list []]]] : List PyData), gB e := gBs (by decide +kernel)
theorem kg1 : ∀ e ∈ ([.tuple [.tuple [.str "a", .tuple [.str "nop"], .tuple [.str "link"]]], .tuple [.tuple [.str "a", .tuple [.str "nop"], .tuple [.str "hard"]], .tuple [.str "t", .tuple [.str "linktimeout", .int 3], .tuple []]]] : List PyData), gB e := gBs (by decide +kernel)
theorem kg2 : ∀ e ∈ ([.tuple [.tuple [.str "t", .tuple [.str "linktimeout", .int 3], .tuple []]]] : List PyData), gB e := gBs (by decide +kernel)
theorem kg3 : ∀ e ∈ ([.tuple [.tuple [.str "a", .tuple [.str "nop"], .tuple []], .tuple [.str "t", .tuple [.str "linktimeout", .int 3], .tuple []]], .tuple [.tuple [.str "a", .tuple [.str "nop"], .tuple [.str "link"]], .tuple [.str "t", .tuple [.str "linktimeout", .int 3], .tuple [.str "link"]]]] : List PyData), gB e := gBs (by decide +kernel)
theorem kg4 : ∀ e ∈ ([.tuple [.tuple [.str "a", .tuple [.str "nop"], .tuple [.str "link"]], .tuple [.str "t", .tuple [.str "linktimeout", .int 3], .tuple []], .tuple [.str "u", .tuple [.str "linktimeout", .int 3], .tuple []]]] : List PyData), gB e := gBs (by decide +kernel)
theorem kg5 : ∀ e ∈ ([.tuple [.tuple [.str "a", .tuple [.str "nop"], .tuple [.str "link"]], .tuple [.str "b", .tuple [.str "nop"], .tuple [.str "drain"]]]] : List PyData), gB e := gBs (by decide +kernel)
theorem kg6 : ∀ e ∈ ([.tuple [.tuple [.str "a", .tuple [.str "nop"], .tuple []], .tuple [.str "b", .tuple [.str "nop"], .tuple [.str "drain"]]]] : List PyData), gB e := gBs (by decide +kernel)
theorem kg7 : ∀ e ∈ ([.tuple [.tuple [.str "a", .tuple [.str "nop"], .tuple [.str "link"]], .tuple [.str "t", .tuple [.str "linktimeout", .int 3], .tuple []], .tuple [.str "b", .tuple [.str "nop"], .tuple [.str "drain"]]]] : List PyData), gB e := gBs (by decide +kernel)
theorem kg8 : ∀ e ∈ ([.tuple [.tuple [.str "a", .tuple [.str "nop"], .tuple [.str "hard", .str "link"]], .tuple [.str "b", .tuple [.str "nop"], .tuple []]], .tuple [.tuple [.str "a", .tuple [.str "nop"], .tuple []], .tuple [.str "a", .tuple [.str "nop"], .tuple []]]] : List PyData), gB e := gBs (by decide +kernel)
theorem kg9 : ∀ e ∈ ([.tuple [.tuple [.str "a", .tuple [.str "work", .bool false], .tuple [.str "silent"]]], .tuple [.tuple [.str "a", .tuple [.str "work", .bool true], .tuple [.str "silent"]]]] : List PyData), gB e := gBs (by decide +kernel)
theorem kg10 : ∀ e ∈ ([.tuple [.tuple [.str "a", .tuple [.str "work", .int 1], .tuple []]]] : List PyData), gB e := gBs (by decide +kernel)
theorem kg11 (wp : lf2 (.str p0) = true) (wm : lf2 (.int m) = true) : ∀ e ∈ ([.tuple [.tuple [.str "a", .tuple [.str "read", .tuple [.str "pipe", .str p0], .int 1], .tuple [.str "pick"]]], .tuple [.tuple [.str "a", .tuple [.str "write", .tuple [.str "pipe", .str p0], .str "abc"], .tuple [.str "pick"]]]] : List PyData), gB e := (gBs (by repeat' (first | decide +kernel | exact str_leaf wp | exact int_leaf wm | exact gDs_0 | refine gDs_c ?_ ?_ | refine (gD_mk (by first | decide | simp) ?_).2)))
theorem kg12 (wp : lf2 (.str p0) = true) (wm : lf2 (.int m) = true) : ∀ e ∈ ([.tuple [.tuple [.str "a", .tuple [.str "write", .tuple [.str "pipe", .str p0], .str "abcdefg"], .tuple []]], .tuple [.tuple [.str "a", .tuple [.str "write", .tuple [.str "pipe", .str p0], .str ""], .tuple []]]] : List PyData), gB e := (gBs (by repeat' (first | decide +kernel | exact str_leaf wp | exact int_leaf wm | exact gDs_0 | refine gDs_c ?_ ?_ | refine (gD_mk (by first | decide | simp) ?_).2)))
theorem kg13 (wp : lf2 (.str p0) = true) (wm : lf2 (.int m) = true) : ∀ e ∈ ([.tuple [.tuple [.str "a", .tuple [.str "read", .tuple [.str "pipe", .str "zzzzzzzz"], .int 1], .tuple []]], .tuple [.tuple [.str "a", .tuple [.str "read", .tuple [.str "pipe", .str p0], .int 0], .tuple []]]] : List PyData), gB e := (gBs (by repeat' (first | decide +kernel | exact str_leaf wp | exact int_leaf wm | exact gDs_0 | refine gDs_c ?_ ?_ | refine (gD_mk (by first | decide | simp) ?_).2)))
theorem kg14 (wp : lf2 (.str p0) = true) (wm : lf2 (.int m) = true) : ∀ e ∈ ([.tuple [.tuple [.str "a", .tuple [.str "shut", .tuple [.str "pipe", .str p0]], .tuple []]]] : List PyData), gB e := (gBs (by repeat' (first | decide +kernel | exact str_leaf wp | exact int_leaf wm | exact gDs_0 | refine gDs_c ?_ ?_ | refine (gD_mk (by first | decide | simp) ?_).2)))
theorem kg15 (wp : lf2 (.str p0) = true) (wm : lf2 (.int m) = true) : ∀ e ∈ ([.tuple [.tuple [.str "a", .tuple [.str "read", .tuple [.str "slot", .int m], .int 1], .tuple []]], .tuple [.tuple [.str "a", .tuple [.str "cancel", .str "zz"], .tuple []]]] : List PyData), gB e := (gBs (by repeat' (first | decide +kernel | exact str_leaf wp | exact int_leaf wm | exact gDs_0 | refine gDs_c ?_ ?_ | refine (gD_mk (by first | decide | simp) ?_).2)))
theorem kg16 (wp : lf2 (.str p0) = true) (wm : lf2 (.int m) = true) : ∀ e ∈ ([.tuple [.tuple [.str "a", .tuple [.str "update", .int m, .none], .tuple []]], .tuple [.tuple [.str "a", .tuple [.str "timeout", .int 0], .tuple []]]] : List PyData), gB e := (gBs (by repeat' (first | decide +kernel | exact str_leaf wp | exact int_leaf wm | exact gDs_0 | refine gDs_c ?_ ?_ | refine (gD_mk (by first | decide | simp) ?_).2)))
theorem kg17 : ∀ e ∈ ([.tuple [.tuple [.str "a", .tuple [.str "nop"], .tuple [.str "silent", .str "drain"]]], .tuple [.tuple [.str "a", .tuple [.str "nop"], .tuple [.str "drain", .str "drain"]]]] : List PyData), gB e := gBs (by decide +kernel)
theorem kg18 : ∀ e ∈ ([.tuple [.tuple [.str "a", .tuple [.str "nop"], .tuple [.str "late"]]]] : List PyData), gB e := gBs (by decide +kernel)
end
end KV

namespace KV
open PySem PySem.Spec PyProof.Rows L2 RZ
section
variable {P : Program} {w : World} {K : PySem.W.Frag} {mg : Str → Option Value} {base : Heap}
def spKnown (K : PySem.W.Frag) : Sp := fun vs H Q _ => ∃ (B : List Addr) (v : V) (sp rm : Int) (p0 : Str) (ps : List Str) (ss : List PyData), vs = [v] ∧ Live B H ∧ Dp K (hide B H) v (.tuple [.int sp, .int rm, .tuple (.str p0 :: ps.map PyData.str), .tuple ss]) ∧ p0.length ≤ 8 ∧ (p0.cps.toList.all fun c => decide (c < 1114112)) = true ∧ ss.length ≤ 5 ∧
  ∀ (p : Addr) (H' : Hp), Same H H' → OddB K B H' p 35 → Q (.ref p) H'
abbrev nKnown : List Str := ["_law_setup_so", "_law_pipe_so", "_law_none_so", "_law_nop_so", "_law_timer_so", "_law_some"]
theorem scKnown : FnScope nKnown ["_law_setup_so"] (defScope sKnown) :=
  ⟨rfl, rfl, rfl, by decide +kernel, rfl, by decide +kernel, by decide +kernel⟩
theorem ok_known {f : Addr} {fd : FuncData} {k : Nat} (F : Fun K "_law_known" "_law_known" sKnown f fd) (me : mg "len" = none) : FnOk P w K mg base CX0 (k + 1) f fd ["_law_setup_so"] (spKnown K) := by
  refine F.ok scKnown (fun vs H Q E h => ?_) (fun cdv A outer s H vs Q E hr h => ?_)
  · obtain ⟨B, v, sp, rm, p0, ps, ss, rfl, _⟩ := h
    rfl
  · obtain ⟨B, v, sp, rm, p0, ps, ss, rfl, lv, hd, lp, cp, lss, q⟩ := h
    obtain ⟨env0, henv0⟩ : ∃ env0 : List (Nat × PyData), env0 = [(0, .tuple [.int sp, .int rm, .tuple (.str p0 :: ps.map PyData.str), .tuple ss])] := ⟨_, rfl⟩
    obtain ⟨m, hm⟩ : ∃ m : Int, m = (ss.length : Int) := ⟨_, rfl⟩
    let env : List (Nat × PyData) := [(0, .tuple [.int sp, .int rm, .tuple (.str p0 :: ps.map PyData.str), .tuple ss]), (1, .tuple [.str "pipe", .str p0]), (2, .tuple [.str "pipe", .str "zzzzzzzz"]), (3, .tuple [.str "nop"]), (4, .tuple [.str "linktimeout", .int 3])]
    have lenT : ∀ σ H' Q', Live B H' → EnvOk K B env σ H' → (∀ (v : V) (H2 : Hp), Same H' H2 → Dp K (hide B H2) v (.int m) → Q' v H2) → tCB (fun xs H Q => ∃ p ys, xs = [.ref p] ∧ (SqL K H p ys ∨ SqT K H p ys) ∧ Q (.int ys.length) H) (tCons (tOp (rIx K) (tVar 0) (tC (V.int 3))) tNil) σ H' Q' := by
      intro σ H' Q' lv' ev q'
      obtain ⟨v0, h1, h2⟩ := ev 0 _ rfl
      obtain ⟨p, x, y, z, u, rfl, hS, e1, e2, e3, e4⟩ := dp_four h2
      obtain ⟨a4, xs4, rfl, S4, A4⟩ := dp_tupR e4
      have hS1 := same_seqT (hide_same B H') hS
      refine ⟨_, h1, .inr (.inl ⟨p, _, 3, _, rfl, rfl, hS1, atI_nat (j := 3) rfl, a4, xs4, rfl, .inr (same_seqT (hide_same B H') S4), q' _ H' (fun _ _ z => z) ?_⟩)⟩
      rw [dps_len A4, hm]
      exact .int _
    refine ⟨_, pss_cons (ps_par (i := 1) (j := 2) rfl scKnown.nd rfl rfl (by decide) rfl rfl (pa_cons (pe_tup (pa_cons pe_str (pa_cons (pe_ix ix_seq (pe_ix ix_seq (pv 0) pe_int (fun _ _ => rfl)) pe_int (fun _ _ => rfl)) pa_nil))) (pa_cons (pe_tup (pa_cons pe_str (pa_cons pe_str pa_nil))) pa_nil)) (by rfl))
      (pss_cons (ps_asg (pe_tup (pa_cons (pe_tup (pa_cons pe_str pa_nil)) (pa_cons (pe_tup (pa_cons pe_str (pa_cons pe_int pa_nil))) pa_nil))) (pg_tup rfl (pgs_cons (pg_name (i := 3) scKnown.nd rfl (.inl rfl)) (pgs_cons (pg_name (i := 4) scKnown.nd rfl (.inl rfl)) pgs_nil))))
      (pss_cons (ps_set (i := 5) scKnown.nd rfl (.inl rfl) (pe_lst (des_cons (K := K) (B := B) (env := env) (de_tup (des_nil)) (des_cons (K := K) (B := B) (env := env) (de_lst (des_nil)) (des_cons (K := K) (B := B) (env := env) de_non (des_cons (K := K) (B := B) (env := env) (de_tup (des_cons (de_tup (des_cons de_str (des_cons (de_v (i := 3) (pv 3) rfl) (des_cons (de_tup (des_nil)) (des_nil))))) (des_nil))) (des_cons (K := K) (B := B) (env := env) (de_lst (des_cons (de_tup (des_cons de_str (des_cons (de_v (i := 3) (pv 3) rfl) (des_cons (de_tup (des_nil)) (des_nil))))) (des_nil))) (des_cons (K := K) (B := B) (env := env) (de_tup (des_cons (de_lst (des_cons de_str (des_cons (de_v (i := 3) (pv 3) rfl) (des_cons (de_tup (des_nil)) (des_nil))))) (des_nil))) (des_cons (K := K) (B := B) (env := env) (de_tup (des_cons (de_tup (des_cons de_str (des_cons (de_v (i := 3) (pv 3) rfl) (des_cons (de_lst (des_nil)) (des_nil))))) (des_nil))) (des_nil))))))))))
      (pss_cons (ps_set (i := 5) scKnown.nd rfl (.inl rfl) (pe_op op_cat (pv 5) (pe_lst (des_cons (K := K) (B := B) (env := env) (de_tup (des_cons (de_tup (des_cons de_str (des_cons (de_v (i := 3) (pv 3) rfl) (des_cons (de_tup (des_cons de_str (des_nil))) (des_nil))))) (des_nil))) (des_cons (K := K) (B := B) (env := env) (de_tup (des_cons (de_tup (des_cons de_str (des_cons (de_v (i := 3) (pv 3) rfl) (des_cons (de_tup (des_cons de_str (des_nil))) (des_nil))))) (des_cons (de_tup (des_cons de_str (des_cons (de_v (i := 4) (pv 4) rfl) (des_cons (de_tup (des_nil)) (des_nil))))) (des_nil)))) (des_nil))))))
      (pss_cons (ps_set (i := 5) scKnown.nd rfl (.inl rfl) (pe_op op_cat (pv 5) (pe_lst (des_cons (K := K) (B := B) (env := env) (de_tup (des_cons (de_tup (des_cons de_str (des_cons (de_v (i := 4) (pv 4) rfl) (des_cons (de_tup (des_nil)) (des_nil))))) (des_nil))) (des_nil)))))
      (pss_cons (ps_set (i := 5) scKnown.nd rfl (.inl rfl) (pe_op op_cat (pv 5) (pe_lst (des_cons (K := K) (B := B) (env := env) (de_tup (des_cons (de_tup (des_cons de_str (des_cons (de_v (i := 3) (pv 3) rfl) (des_cons (de_tup (des_nil)) (des_nil))))) (des_cons (de_tup (des_cons de_str (des_cons (de_v (i := 4) (pv 4) rfl) (des_cons (de_tup (des_nil)) (des_nil))))) (des_nil)))) (des_cons (K := K) (B := B) (env := env) (de_tup (des_cons (de_tup (des_cons de_str (des_cons (de_v (i := 3) (pv 3) rfl) (des_cons (de_tup (des_cons de_str (des_nil))) (des_nil))))) (des_cons (de_tup (des_cons de_str (des_cons (de_v (i := 4) (pv 4) rfl) (des_cons (de_tup (des_cons de_str (des_nil))) (des_nil))))) (des_nil)))) (des_nil))))))
      (pss_cons (ps_set (i := 5) scKnown.nd rfl (.inl rfl) (pe_op op_cat (pv 5) (pe_lst (des_cons (K := K) (B := B) (env := env) (de_tup (des_cons (de_tup (des_cons de_str (des_cons (de_v (i := 3) (pv 3) rfl) (des_cons (de_tup (des_cons de_str (des_nil))) (des_nil))))) (des_cons (de_tup (des_cons de_str (des_cons (de_v (i := 4) (pv 4) rfl) (des_cons (de_tup (des_nil)) (des_nil))))) (des_cons (de_tup (des_cons de_str (des_cons (de_v (i := 4) (pv 4) rfl) (des_cons (de_tup (des_nil)) (des_nil))))) (des_nil))))) (des_nil)))))
      (pss_cons (ps_set (i := 5) scKnown.nd rfl (.inl rfl) (pe_op op_cat (pv 5) (pe_lst (des_cons (K := K) (B := B) (env := env) (de_tup (des_cons (de_tup (des_cons de_str (des_cons (de_v (i := 3) (pv 3) rfl) (des_cons (de_tup (des_cons de_str (des_nil))) (des_nil))))) (des_cons (de_tup (des_cons de_str (des_cons (de_v (i := 3) (pv 3) rfl) (des_cons (de_tup (des_cons de_str (des_nil))) (des_nil))))) (des_nil)))) (des_nil)))))
      (pss_cons (ps_set (i := 5) scKnown.nd rfl (.inl rfl) (pe_op op_cat (pv 5) (pe_lst (des_cons (K := K) (B := B) (env := env) (de_tup (des_cons (de_tup (des_cons de_str (des_cons (de_v (i := 3) (pv 3) rfl) (des_cons (de_tup (des_nil)) (des_nil))))) (des_cons (de_tup (des_cons de_str (des_cons (de_v (i := 3) (pv 3) rfl) (des_cons (de_tup (des_cons de_str (des_nil))) (des_nil))))) (des_nil)))) (des_nil)))))
      (pss_cons (ps_set (i := 5) scKnown.nd rfl (.inl rfl) (pe_op op_cat (pv 5) (pe_lst (des_cons (K := K) (B := B) (env := env) (de_tup (des_cons (de_tup (des_cons de_str (des_cons (de_v (i := 3) (pv 3) rfl) (des_cons (de_tup (des_cons de_str (des_nil))) (des_nil))))) (des_cons (de_tup (des_cons de_str (des_cons (de_v (i := 4) (pv 4) rfl) (des_cons (de_tup (des_nil)) (des_nil))))) (des_cons (de_tup (des_cons de_str (des_cons (de_v (i := 3) (pv 3) rfl) (des_cons (de_tup (des_cons de_str (des_nil))) (des_nil))))) (des_nil))))) (des_nil)))))
      (pss_cons (ps_set (i := 5) scKnown.nd rfl (.inl rfl) (pe_op op_cat (pv 5) (pe_lst (des_cons (K := K) (B := B) (env := env) (de_tup (des_cons (de_tup (des_cons de_str (des_cons (de_v (i := 3) (pv 3) rfl) (des_cons (de_tup (des_cons de_str (des_cons de_str (des_nil)))) (des_nil))))) (des_cons (de_tup (des_cons de_str (des_cons (de_v (i := 3) (pv 3) rfl) (des_cons (de_tup (des_nil)) (des_nil))))) (des_nil)))) (des_cons (K := K) (B := B) (env := env) (de_tup (des_cons (de_tup (des_cons de_str (des_cons (de_v (i := 3) (pv 3) rfl) (des_cons (de_tup (des_nil)) (des_nil))))) (des_cons (de_tup (des_cons de_str (des_cons (de_v (i := 3) (pv 3) rfl) (des_cons (de_tup (des_nil)) (des_nil))))) (des_nil)))) (des_nil))))))
      (pss_cons (ps_set (i := 5) scKnown.nd rfl (.inl rfl) (pe_op op_cat (pv 5) (pe_lst (des_cons (K := K) (B := B) (env := env) (de_tup (des_cons (de_tup (des_cons de_str (des_cons (de_tup (des_cons de_str (des_cons de_bl (des_nil)))) (des_cons (de_tup (des_cons de_str (des_nil))) (des_nil))))) (des_nil))) (des_cons (K := K) (B := B) (env := env) (de_tup (des_cons (de_tup (des_cons de_str (des_cons (de_tup (des_cons de_str (des_cons de_bl (des_nil)))) (des_cons (de_tup (des_cons de_str (des_nil))) (des_nil))))) (des_nil))) (des_nil))))))
      (pss_cons (ps_set (i := 5) scKnown.nd rfl (.inl rfl) (pe_op op_cat (pv 5) (pe_lst (des_cons (K := K) (B := B) (env := env) (de_tup (des_cons (de_tup (des_cons de_str (des_cons (de_tup (des_cons de_str (des_cons de_int (des_nil)))) (des_cons (de_tup (des_nil)) (des_nil))))) (des_nil))) (des_nil)))))
      (pss_cons (ps_set (i := 5) scKnown.nd rfl (.inl rfl) (pe_op op_cat (pv 5) (pe_lst (des_cons (K := K) (B := B) (env := env) (de_tup (des_cons (de_tup (des_cons de_str (des_cons (de_tup (des_cons de_str (des_cons (de_v (i := 1) (pv 1) rfl) (des_cons de_int (des_nil))))) (des_cons (de_tup (des_cons de_str (des_nil))) (des_nil))))) (des_nil))) (des_cons (K := K) (B := B) (env := env) (de_tup (des_cons (de_tup (des_cons de_str (des_cons (de_tup (des_cons de_str (des_cons (de_v (i := 1) (pv 1) rfl) (des_cons de_str (des_nil))))) (des_cons (de_tup (des_cons de_str (des_nil))) (des_nil))))) (des_nil))) (des_nil))))))
      (pss_cons (ps_set (i := 5) scKnown.nd rfl (.inl rfl) (pe_op op_cat (pv 5) (pe_lst (des_cons (K := K) (B := B) (env := env) (de_tup (des_cons (de_tup (des_cons de_str (des_cons (de_tup (des_cons de_str (des_cons (de_v (i := 1) (pv 1) rfl) (des_cons de_str (des_nil))))) (des_cons (de_tup (des_nil)) (des_nil))))) (des_nil))) (des_cons (K := K) (B := B) (env := env) (de_tup (des_cons (de_tup (des_cons de_str (des_cons (de_tup (des_cons de_str (des_cons (de_v (i := 1) (pv 1) rfl) (des_cons de_str (des_nil))))) (des_cons (de_tup (des_nil)) (des_nil))))) (des_nil))) (des_nil))))))
      (pss_cons (ps_set (i := 5) scKnown.nd rfl (.inl rfl) (pe_op op_cat (pv 5) (pe_lst (des_cons (K := K) (B := B) (env := env) (de_tup (des_cons (de_tup (des_cons de_str (des_cons (de_tup (des_cons de_str (des_cons (de_v (i := 2) (pv 2) rfl) (des_cons de_int (des_nil))))) (des_cons (de_tup (des_nil)) (des_nil))))) (des_nil))) (des_cons (K := K) (B := B) (env := env) (de_tup (des_cons (de_tup (des_cons de_str (des_cons (de_tup (des_cons de_str (des_cons (de_v (i := 1) (pv 1) rfl) (des_cons de_int (des_nil))))) (des_cons (de_tup (des_nil)) (des_nil))))) (des_nil))) (des_nil))))))
      (pss_cons (ps_set (i := 5) scKnown.nd rfl (.inl rfl) (pe_op op_cat (pv 5) (pe_lst (des_cons (K := K) (B := B) (env := env) (de_tup (des_cons (de_tup (des_cons de_str (des_cons (de_tup (des_cons de_str (des_cons (de_v (i := 1) (pv 1) rfl) (des_nil)))) (des_cons (de_tup (des_nil)) (des_nil))))) (des_nil))) (des_nil)))))
      (pss_cons (ps_set (i := 5) scKnown.nd rfl (.inl rfl) (pe_op op_cat (pv 5) (pe_lst (des_cons (K := K) (B := B) (env := env) (de_tup (des_cons (de_tup (des_cons de_str (des_cons (de_tup (des_cons de_str (des_cons (de_tup (des_cons de_str (des_cons (de_of (pe_callB (call_len_seqL (K := K) rfl) (by rfl) me PySem.boot_len (pa_cons (pe_ix (ix_seqL (K := K) rfl) (pv 0) pe_int (fun _ _ => rfl)) pa_nil)) lenT) (des_nil)))) (des_cons de_int (des_nil))))) (des_cons (de_tup (des_nil)) (des_nil))))) (des_nil))) (des_cons (K := K) (B := B) (env := env) (de_tup (des_cons (de_tup (des_cons de_str (des_cons (de_tup (des_cons de_str (des_cons de_str (des_nil)))) (des_cons (de_tup (des_nil)) (des_nil))))) (des_nil))) (des_nil))))))
      (pss_cons (ps_set (i := 5) scKnown.nd rfl (.inl rfl) (pe_op op_cat (pv 5) (pe_lst (des_cons (K := K) (B := B) (env := env) (de_tup (des_cons (de_tup (des_cons de_str (des_cons (de_tup (des_cons de_str (des_cons (de_of (pe_callB (call_len_seqL (K := K) rfl) (by rfl) me PySem.boot_len (pa_cons (pe_ix (ix_seqL (K := K) rfl) (pv 0) pe_int (fun _ _ => rfl)) pa_nil)) lenT) (des_cons de_non (des_nil))))) (des_cons (de_tup (des_nil)) (des_nil))))) (des_nil))) (des_cons (K := K) (B := B) (env := env) (de_tup (des_cons (de_tup (des_cons de_str (des_cons (de_tup (des_cons de_str (des_cons de_int (des_nil)))) (des_cons (de_tup (des_nil)) (des_nil))))) (des_nil))) (des_nil))))))
      (pss_cons (ps_set (i := 5) scKnown.nd rfl (.inl rfl) (pe_op op_cat (pv 5) (pe_lst (des_cons (K := K) (B := B) (env := env) (de_tup (des_cons (de_tup (des_cons de_str (des_cons (de_v (i := 3) (pv 3) rfl) (des_cons (de_tup (des_cons de_str (des_cons de_str (des_nil)))) (des_nil))))) (des_nil))) (des_cons (K := K) (B := B) (env := env) (de_tup (des_cons (de_tup (des_cons de_str (des_cons (de_v (i := 3) (pv 3) rfl) (des_cons (de_tup (des_cons de_str (des_cons de_str (des_nil)))) (des_nil))))) (des_nil))) (des_nil))))))
      (pss_one (ps_ret (pe_op op_cat (pv 5) (pe_lst (des_cons (K := K) (B := B) (env := env) (de_tup (des_cons (de_tup (des_cons de_str (des_cons (de_v (i := 3) (pv 3) rfl) (des_cons (de_tup (des_cons de_str (des_nil))) (des_nil))))) (des_nil))) (des_nil))))))))))))))))))))))))), ?_⟩
    have wp : lf2 (.str p0) = true := by
      show (decide (p0.length ≤ 60) && p0.cps.toList.all fun c => decide (c < 1114112)) = true
      rw [cp, decide_eq_true (show p0.length ≤ 60 by omega)]
      rfl
    have wm : lf2 (.int m) = true := by
      have hb : m.natAbs < 10 ^ 31 := by omega
      show decide (m.natAbs < 10 ^ 31) = true
      exact decide_eq_true hb
    obtain ⟨p, x, y, z, u, rfl, hS, e1, e2, e3, e4⟩ := dp_four hd
    obtain ⟨a3, xs3, rfl, S3, A3⟩ := dp_tupR e3
    have hS1 := same_seqT (hide_same B H) hS
    have S31 := same_seqT (hide_same B H) S3
    cases A3 with
    | cons f1 f2 =>
    cases f1
    refine ⟨_, rfl, .inr (.inl ⟨p, _, 2, _, rfl, rfl, hS1, atI_nat (j := 2) rfl, .inr (.inl ⟨a3, _, 0, .str p0, rfl, rfl, S31, atI_nat (j := 0) rfl, by show 2 ≤ sizeLine; decide, fun q1 n1 => ⟨by show 2 ≤ sizeLine; decide, fun q2 n2 => ⟨_, _, rfl, ?_⟩⟩⟩)⟩)⟩
    have u1 : Same H (upd H q1 (.tup [.str "pipe", .str p0])) := same_upd n1
    have k1 := dp_new (K := K) (ds := [.str "pipe", .str p0]) lv n1 (.cons (.str _) (.cons (.str _) .nil))
    have lv1 := lv.same u1
    have u2 := same_upd (o := HO.tup [.str "pipe", .str "zzzzzzzz"]) n2
    have k2 := dp_new (K := K) (ds := [.str "pipe", .str "zzzzzzzz"]) lv1 n2 (.cons (.str _) (.cons (.str _) .nil))
    replace k1 := dp_same (hide_of_same (B := B) u2) k1
    have lv2 := lv1.same u2
    replace u2 := u1.trans u2
    show tSeq _ _ _ _ (upd (upd H q1 (.tup [.str "pipe", .str p0])) q2 (.tup [.str "pipe", .str "zzzzzzzz"]))
    generalize upd (upd H q1 (.tup [.str "pipe", .str p0])) q2 (.tup [.str "pipe", .str "zzzzzzzz"]) = H2 at u2 k1 k2 lv2
    refine ⟨by show 1 ≤ sizeLine; decide, fun q3 n3 => ⟨by show 2 ≤ sizeLine; decide, fun q4 n4 => ⟨by show 2 ≤ sizeLine; decide, fun q5 n5 => ⟨q5, _, rfl, SqT.of upd_same, rfl, _, _, rfl, _, _, rfl, rfl, ?_⟩⟩⟩⟩
    have u3 := same_upd (o := HO.tup [.str "nop"]) n3
    have k3 := dp_new (K := K) (ds := [.str "nop"]) lv2 n3 (.cons (.str _) .nil)
    have lv3 := lv2.same u3
    have u4 := same_upd (o := HO.tup [.str "linktimeout", .int 3]) n4
    have k4 := dp_new (K := K) (ds := [.str "linktimeout", .int 3]) lv3 n4 (.cons (.str _) (.cons (.int _) .nil))
    have lv4 := lv3.same u4
    have u5 := same_upd (o := HO.tup [.ref q3, .ref q4]) n5
    have lv5 := lv4.same u5
    replace k1 := dp_same (hide_of_same (B := B) ((u3.trans u4).trans u5)) k1
    replace k2 := dp_same (hide_of_same (B := B) ((u3.trans u4).trans u5)) k2
    replace k3 := dp_same (hide_of_same (B := B) (u4.trans u5)) k3
    replace k4 := dp_same (hide_of_same (B := B) u5) k4
    replace u5 := u2.trans ((u3.trans u4).trans u5)
    have k0 := dp_same (hide_of_same (B := B) u5) hd
    show tSeq _ _ _ _ (upd (upd (upd H2 q3 (.tup [.str "nop"])) q4 (.tup [.str "linktimeout", .int 3])) q5 (.tup [.ref q3, .ref q4]))
    generalize upd (upd (upd H2 q3 (.tup [.str "nop"])) q4 (.tup [.str "linktimeout", .int 3])) q5 (.tup [.ref q3, .ref q4]) = H5 at u5 k0 k1 k2 k3 k4 lv5
    have ev : ∀ (y : Option V) (H' : Hp), Same H5 H' → EnvOk K B env [some (.ref p), some (.ref q1), some (.ref q2), some (.ref q3), some (.ref q4), y] H' := by
      intro y H' s' i d e
      rcases i with _ | _ | _ | _ | _ | i
      · cases (show some _ = some d from e)
        exact ⟨_, rfl, dp_same (hide_of_same s') k0⟩
      · cases (show some _ = some d from e)
        exact ⟨_, rfl, dp_same (hide_of_same s') k1⟩
      · cases (show some _ = some d from e)
        exact ⟨_, rfl, dp_same (hide_of_same s') k2⟩
      · cases (show some _ = some d from e)
        exact ⟨_, rfl, dp_same (hide_of_same s') k3⟩
      · cases (show some _ = some d from e)
        exact ⟨_, rfl, dp_same (hide_of_same s') k4⟩
      · exact nomatch (show none = some d from e)
    have r0 : Same H5 H5 := fun _ _ z => z
    refine ⟨lv5, ev none H5 r0, fun vs6 H6 s6 dv6 => ⟨Nat.le_of_lt (small1000 (by have h7 : vs6.length = 7 := dps_len dv6; omega)), fun p7 n7 => ?_⟩⟩
    have o7 : OddB K B (upd H6 p7 (.lst vs6)) p7 7 := OddB.new (lv5.same s6) n7 dv6 kg0
    have u7 : Same H5 (upd H6 p7 (.lst vs6)) := s6.trans (same_upd n7)
    show tSeq _ _ _ [some (.ref p), some (.ref q1), some (.ref q2), some (.ref q3), some (.ref q4), some (.ref p7)] (upd H6 p7 (.lst vs6))
    generalize upd H6 p7 (.lst vs6) = H7 at u7 o7
    refine oddb_more (lv5.same u7) (ev (some (.ref p7)) H7 u7) o7 kg1 9 rfl (by decide) rfl fun p8 H8 s8 o8 => ?_
    show tSeq _ _ _ [some (.ref p), some (.ref q1), some (.ref q2), some (.ref q3), some (.ref q4), some (.ref p8)] H8
    have u8 := u7.trans s8
    refine oddb_more (lv5.same u8) (ev (some (.ref p8)) H8 u8) o8 kg2 10 rfl (by decide) rfl fun p9 H9 s9 o9 => ?_
    show tSeq _ _ _ [some (.ref p), some (.ref q1), some (.ref q2), some (.ref q3), some (.ref q4), some (.ref p9)] H9
    have u9 := u8.trans s9
    refine oddb_more (lv5.same u9) (ev (some (.ref p9)) H9 u9) o9 kg3 12 rfl (by decide) rfl fun p10 H10 s10 o10 => ?_
    show tSeq _ _ _ [some (.ref p), some (.ref q1), some (.ref q2), some (.ref q3), some (.ref q4), some (.ref p10)] H10
    have u10 := u9.trans s10
    refine oddb_more (lv5.same u10) (ev (some (.ref p10)) H10 u10) o10 kg4 13 rfl (by decide) rfl fun p11 H11 s11 o11 => ?_
    show tSeq _ _ _ [some (.ref p), some (.ref q1), some (.ref q2), some (.ref q3), some (.ref q4), some (.ref p11)] H11
    have u11 := u10.trans s11
    refine oddb_more (lv5.same u11) (ev (some (.ref p11)) H11 u11) o11 kg5 14 rfl (by decide) rfl fun p12 H12 s12 o12 => ?_
    show tSeq _ _ _ [some (.ref p), some (.ref q1), some (.ref q2), some (.ref q3), some (.ref q4), some (.ref p12)] H12
    have u12 := u11.trans s12
    refine oddb_more (lv5.same u12) (ev (some (.ref p12)) H12 u12) o12 kg6 15 rfl (by decide) rfl fun p13 H13 s13 o13 => ?_
    show tSeq _ _ _ [some (.ref p), some (.ref q1), some (.ref q2), some (.ref q3), some (.ref q4), some (.ref p13)] H13
    have u13 := u12.trans s13
    refine oddb_more (lv5.same u13) (ev (some (.ref p13)) H13 u13) o13 kg7 16 rfl (by decide) rfl fun p14 H14 s14 o14 => ?_
    show tSeq _ _ _ [some (.ref p), some (.ref q1), some (.ref q2), some (.ref q3), some (.ref q4), some (.ref p14)] H14
    have u14 := u13.trans s14
    refine oddb_more (lv5.same u14) (ev (some (.ref p14)) H14 u14) o14 kg8 18 rfl (by decide) rfl fun p15 H15 s15 o15 => ?_
    show tSeq _ _ _ [some (.ref p), some (.ref q1), some (.ref q2), some (.ref q3), some (.ref q4), some (.ref p15)] H15
    have u15 := u14.trans s15
    refine oddb_more (lv5.same u15) (ev (some (.ref p15)) H15 u15) o15 kg9 20 rfl (by decide) rfl fun p16 H16 s16 o16 => ?_
    show tSeq _ _ _ [some (.ref p), some (.ref q1), some (.ref q2), some (.ref q3), some (.ref q4), some (.ref p16)] H16
    have u16 := u15.trans s16
    refine oddb_more (lv5.same u16) (ev (some (.ref p16)) H16 u16) o16 kg10 21 rfl (by decide) rfl fun p17 H17 s17 o17 => ?_
    show tSeq _ _ _ [some (.ref p), some (.ref q1), some (.ref q2), some (.ref q3), some (.ref q4), some (.ref p17)] H17
    have u17 := u16.trans s17
    refine oddb_more (lv5.same u17) (ev (some (.ref p17)) H17 u17) o17 (kg11 wp wm) 23 rfl (by decide) rfl fun p18 H18 s18 o18 => ?_
    show tSeq _ _ _ [some (.ref p), some (.ref q1), some (.ref q2), some (.ref q3), some (.ref q4), some (.ref p18)] H18
    have u18 := u17.trans s18
    refine oddb_more (lv5.same u18) (ev (some (.ref p18)) H18 u18) o18 (kg12 wp wm) 25 rfl (by decide) rfl fun p19 H19 s19 o19 => ?_
    show tSeq _ _ _ [some (.ref p), some (.ref q1), some (.ref q2), some (.ref q3), some (.ref q4), some (.ref p19)] H19
    have u19 := u18.trans s19
    refine oddb_more (lv5.same u19) (ev (some (.ref p19)) H19 u19) o19 (kg13 wp wm) 27 rfl (by decide) rfl fun p20 H20 s20 o20 => ?_
    show tSeq _ _ _ [some (.ref p), some (.ref q1), some (.ref q2), some (.ref q3), some (.ref q4), some (.ref p20)] H20
    have u20 := u19.trans s20
    refine oddb_more (lv5.same u20) (ev (some (.ref p20)) H20 u20) o20 (kg14 wp wm) 28 rfl (by decide) rfl fun p21 H21 s21 o21 => ?_
    show tSeq _ _ _ [some (.ref p), some (.ref q1), some (.ref q2), some (.ref q3), some (.ref q4), some (.ref p21)] H21
    have u21 := u20.trans s21
    refine oddb_more (lv5.same u21) (ev (some (.ref p21)) H21 u21) o21 (kg15 wp wm) 30 rfl (by decide) rfl fun p22 H22 s22 o22 => ?_
    show tSeq _ _ _ [some (.ref p), some (.ref q1), some (.ref q2), some (.ref q3), some (.ref q4), some (.ref p22)] H22
    have u22 := u21.trans s22
    refine oddb_more (lv5.same u22) (ev (some (.ref p22)) H22 u22) o22 (kg16 wp wm) 32 rfl (by decide) rfl fun p23 H23 s23 o23 => ?_
    show tSeq _ _ _ [some (.ref p), some (.ref q1), some (.ref q2), some (.ref q3), some (.ref q4), some (.ref p23)] H23
    have u23 := u22.trans s23
    refine oddb_more (lv5.same u23) (ev (some (.ref p23)) H23 u23) o23 kg17 34 rfl (by decide) rfl fun p24 H24 s24 o24 => ?_
    have u24 := u23.trans s24
    refine oddb_more (lv5.same u24) (ev (some (.ref p24)) H24 u24) o24 kg18 35 rfl (by decide) rfl fun p25 H25 s25 o25 => ?_
    have u25 := u24.trans s25
    exact q p25 H25 (u5.trans u25) o25
end
end KV

namespace KV
open PySem PySem.Spec PyProof.Rows L2 RZ
/-! ### drawn lots are good data, and short -/
def bulkM (L : Nat) : Nat → Nat
  | 0 => 15
  | n + 1 => 15 + L * (bulkM L n + 1)
mutual
theorem gD_bulk1 {L : Nat} : ∀ (d : PyData) (n : Nat), gD lf1 L d n = true → d.bulk ≤ bulkM L n
  | .list xs, n, h => by
    obtain ⟨m, rfl, h1, h2⟩ := gD_seq (.inl rfl) h
    have h3 := gDs_bulk1 xs m h2
    have h4 := Nat.mul_le_mul_right (bulkM L m + 1) h1
    simp only [PyData.bulk, bulkM]
    omega
  | .tuple xs, n, h => by
    obtain ⟨m, rfl, h1, h2⟩ := gD_seq (.inr rfl) h
    have h3 := gDs_bulk1 xs m h2
    have h4 := Nat.mul_le_mul_right (bulkM L m + 1) h1
    simp only [PyData.bulk, bulkM]
    omega
  | .none, n, _ => Nat.zero_le _
  | .bool _, n, _ => Nat.zero_le _
  | .int _, n, _ => Nat.zero_le _
  | .str x, n, h => by
    have h1 : (decide (x.length ≤ 15) && x.cps.toList.all fun c => decide (c < 128)) = true := by simp only [gD] at h; exact h
    rw [Bool.and_eq_true, decide_eq_true_eq] at h1
    have h2 : x.cps.size ≤ 15 := h1.1
    simp only [PyData.bulk]
    cases n <;> simp only [bulkM] <;> omega
  | .dict _, n, h => by simp [gD] at h
theorem gDs_bulk1 {L : Nat} : ∀ (ds : List PyData) (n : Nat), gDs lf1 L ds n = true → PyData.bulkAll ds ≤ ds.length * (bulkM L n + 1)
  | [], n, _ => Nat.zero_le _
  | d :: ds, n, h => by
    simp only [gDs, Bool.and_eq_true] at h
    have h1 := gD_bulk1 d n h.1
    have h2 := gDs_bulk1 ds n h.2
    simp only [PyData.bulkAll, List.length_cons, Nat.succ_mul]
    omega
end
theorem word_good1 {L n : Nat} {x : Str} (h : wordS x = true) : gD lf1 L (.str x) n = true := by
  have z : (decide (0 < x.length) && decide (x.length ≤ 8) && x.cps.toList.all fun c => decide (97 ≤ c) && decide (c ≤ 122)) = true := h
  rw [Bool.and_eq_true, Bool.and_eq_true, decide_eq_true_eq, decide_eq_true_eq] at z
  have e : (x.cps.toList.all fun c => decide (c < 128)) = true := by
    rw [List.all_eq_true]
    intro c hc
    have z2 := List.all_eq_true.mp z.2 c hc
    rw [Bool.and_eq_true, decide_eq_true_eq, decide_eq_true_eq] at z2
    exact decide_eq_true (by omega)
  have r : lf1 (.str x) = true := by
    show (decide (x.length ≤ 15) && x.cps.toList.all fun c => decide (c < 128)) = true
    rw [e, decide_eq_true (show x.length ≤ 15 by omega)]
    rfl
  cases n <;> simpa only [gD] using r
theorem words_good1 {L n : Nat} {gs : List Str} (h : ∀ g ∈ gs, wordS g = true) : gDs lf1 L (gs.map PyData.str) n = true := by
  rw [gDs_all, List.all_eq_true]
  intro e he
  obtain ⟨g, hg, rfl⟩ := List.mem_map.mp he
  exact word_good1 (h g hg)
theorem small_good1 {L n : Nat} {i : Int} (h0 : 0 ≤ i) (h : i ≤ 1000) : gD lf1 L (.int i) n = true := by
  simp only [gD]
  exact decide_eq_true (by omega)
theorem tup_good1 {L m : Nat} {xs : List PyData} (h1 : xs.length ≤ L) (h2 : ∀ e ∈ xs, gD lf1 L e m = true) : gD lf1 L (.tuple xs) (m + 1) = true := (gD_mk h1 (by rw [gDs_all, List.all_eq_true]; exact h2)).2
theorem where_good1 {ps : List Str} {m : Nat} {d : PyData} (h : WhereD ps m d) (hm : m ≤ 5) (wp : ∀ p ∈ ps, wordS p = true) : gD lf1 4 d 1 = true := by
  rcases h with ⟨i, hi, rfl⟩ | ⟨x, hx, rfl⟩
  · exact tup_good1 (by show 2 ≤ 4; decide) (mem2 (by decide +kernel) (small_good1 (by omega) (by omega)))
  · exact tup_good1 (by show 2 ≤ 4; decide) (mem2 (by decide +kernel) (word_good1 (wp x hx)))
theorem deed_good1 {ps : List Str} {m : Nat} {gs : List Str} {d : PyData} (h : DeedD ps m gs d) (hm : m ≤ 5) (wp : ∀ p ∈ ps, wordS p = true) (wg : ∀ g ∈ gs, wordS g = true) : gD lf1 4 d 2 = true := by
  cases h with
  | read h1 h2 h3 => exact tup_good1 (by show 3 ≤ 4; decide) (mem3 (by decide +kernel) (where_good1 h1 hm wp) (small_good1 (by omega) (by omega)))
  | reads h1 h2 h3 => exact tup_good1 (by show 3 ≤ 4; decide) (mem3 (by decide +kernel) (where_good1 h1 hm wp) (small_good1 (by omega) (by omega)))
  | write h1 h2 h3 => exact tup_good1 (by show 3 ≤ 4; decide) (mem3 (by decide +kernel) (where_good1 h1 hm wp) (word_good1 h2))
  | shut h1 => exact tup_good1 (by show 2 ≤ 4; decide) (mem2 (by decide +kernel) (where_good1 h1 hm wp))
  | timeout h1 h2 => exact tup_good1 (by show 2 ≤ 4; decide) (mem2 (by decide +kernel) (small_good1 (by omega) (by omega)))
  | work g => exact tup_good1 (by show 2 ≤ 4; decide) (mem2 (by decide +kernel) (by simp only [gD]))
  | update h1 h2 =>
    rcases h2 with rfl | ⟨p, hp, rfl⟩
    · exact tup_good1 (by show 3 ≤ 4; decide) (mem3 (by decide +kernel) (small_good1 (by omega) (by omega)) (by simp only [gD]))
    · exact tup_good1 (by show 3 ≤ 4; decide) (mem3 (by decide +kernel) (small_good1 (by omega) (by omega)) (word_good1 (wp p hp)))
  | cancel h1 => exact tup_good1 (by show 2 ≤ 4; decide) (mem2 (by decide +kernel) (word_good1 (wg _ h1)))
  | cancelall => decide +kernel
  | nop => decide +kernel
theorem itD_good1 {it : It} {ps : List Str} {m : Nat} {gs : List Str} (h : ItOk ps m gs it) (hm : m ≤ 5) (wp : ∀ p ∈ ps, wordS p = true) (wg : ∀ g ∈ gs, wordS g = true) : gDs lf1 4 (itDs it) 3 = true := by
  have h1 : gD lf1 4 (itD it) 3 = true := tup_good1 (by show 3 ≤ 4; decide) (mem3 (word_good1 h.tag) (deed_good1 h.deed hm wp wg) (gD_mk (m := 1) (by rw [List.length_map]; have := words_len it; omega) (words_good1 (itWords_word it))).2)
  unfold itDs
  cases ht : it.timer with
  | none =>
    show gDs lf1 4 [itD it] 3 = true
    simp only [gDs, h1, Bool.and_self]
  | some t =>
    obtain ⟨_, t1, t2, t3⟩ := h.tm t ht
    have h2 : gD lf1 4 (tmD t) 3 = true := tup_good1 (by show 3 ≤ 4; decide) (mem3 (word_good1 t1) (tup_good1 (by show 2 ≤ 4; decide) (mem2 (by decide +kernel) (small_good1 t2 (by omega)))) (by decide +kernel))
    show gDs lf1 4 [itD it, tmD t] 3 = true
    simp only [gDs, h1, h2, Bool.and_self]
theorem lot_good1 {ps : List Str} {m : Nat} {gs : List Str} {its : List It} (h : LotFin ps m gs its) (hm : m ≤ 5) (wp : ∀ p ∈ ps, wordS p = true) (wg : ∀ g ∈ gs, wordS g = true) (wt : ∀ g ∈ lotTags its, wordS g = true) : gDs lf1 4 (lotDs its) 3 = true := by
  rw [gDs_all, List.all_eq_true]
  intro e he
  obtain ⟨it, hit, he⟩ := List.mem_flatMap.mp he
  obtain ⟨i, hi⟩ := List.mem_iff_getElem?.mp hit
  refine okGet (itD_good1 (h.lot.ok i it hi) hm wp fun g hg => ?_) he
  rcases List.mem_append.mp hg with z | z
  · exact wg g z
  · refine wt g ?_
    obtain ⟨it', hit', hz⟩ := List.mem_flatMap.mp z
    exact List.mem_flatMap.mpr ⟨it', List.mem_of_mem_take hit', hz⟩
/-- all that is made of a drawn lot of so many is good -/
theorem row_gB {ds : List PyData} (hl : ds.length ≤ 8) (h : gDs lf1 4 ds 3 = true) {e : PyData} (he : ofRow ds e) : gB e := by
  obtain ⟨fs, rfl, h1, h2, h3⟩ := he
  have hb := gDs_bulk1 ds 3 h
  have hb2 : bulkM 4 3 = 1359 := by decide +kernel
  rw [hb2] at hb
  have hb3 : ds.length * 1360 ≤ 8 * 1360 := Nat.mul_le_mul_right _ hl
  refine ⟨gD_mono (L := 30) (fun _ z => z) (Nat.le_refl 30) _ 4 6 (by decide) (gD_mk (m := 3) (by omega) (gDs_of fun f hf => gD_mono lf12 (by decide) f 3 3 (Nat.le_refl 3) (okGet h (h2 f hf)))).2, ?_⟩
  simp only [PyData.bulk]
  omega
theorem lot_row (ds : List PyData) : ofRow ds (.tuple ds) := ⟨ds, rfl, by omega, fun _ h => h, by omega⟩
mutual
theorem gD_lst {lf : PyData → Bool} {L : Nat} : ∀ (d : PyData) (n : Nat), gD lf L d n = true → gD lf L (lstD d) n = true
  | .list xs, n, h => by
    obtain ⟨m, rfl, h1, h2⟩ := gD_seq (.inl rfl) h
    simp only [lstD]
    exact (gD_mk (by rw [lstDs_len]; exact h1) (gDs_lst xs m h2)).1
  | .tuple xs, n, h => by
    obtain ⟨m, rfl, h1, h2⟩ := gD_seq (.inr rfl) h
    simp only [lstD]
    exact (gD_mk (by rw [lstDs_len]; exact h1) (gDs_lst xs m h2)).1
  | .none, _, h => by simpa only [lstD] using h
  | .bool _, _, h => by simpa only [lstD] using h
  | .int i, _, h => by simpa only [lstD] using h
  | .str i, _, h => by simpa only [lstD] using h
  | .dict _, _, h => by simpa only [lstD] using h
theorem gDs_lst {lf : PyData → Bool} {L : Nat} : ∀ (ds : List PyData) (n : Nat), gDs lf L ds n = true → gDs lf L (lstDs ds) n = true
  | [], _, h => by simp only [lstDs, gDs]
  | d :: ds, n, h => by
    simp only [gDs, Bool.and_eq_true] at h
    simp only [lstDs, gDs, Bool.and_eq_true]
    exact ⟨gD_lst d n h.1, gDs_lst ds n h.2⟩
end
mutual
theorem bulk_lst : ∀ d : PyData, (lstD d).bulk = d.bulk
  | .list xs => by
    simp only [lstD, PyData.bulk]
    exact bulk_lsts xs
  | .tuple xs => by
    simp only [lstD, PyData.bulk]
    exact bulk_lsts xs
  | .none => by simp only [lstD]
  | .bool _ => by simp only [lstD]
  | .int _ => by simp only [lstD]
  | .str _ => by simp only [lstD]
  | .dict _ => by simp only [lstD]
theorem bulk_lsts : ∀ ds : List PyData, PyData.bulkAll (lstDs ds) = PyData.bulkAll ds
  | [] => by simp only [lstDs]
  | d :: ds => by
    simp only [lstDs, PyData.bulkAll, bulk_lst d, bulk_lsts ds]
end
theorem lst_gB {d : PyData} (h : gB d) : gB (lstD d) := ⟨gD_lst d 6 h.1, by rw [bulk_lst]; exact h.2⟩
end KV

namespace KV
open PySem PySem.Spec PyProof.Rows L2 RZ
abbrev sRight : Stmt := topS 60
abbrev nRight : List Str := ["_law_box_here", "_law_setup_so", "_law_soft", "_law_turn", "_law_names_so", "_law_gone", "_law_some", "_law_odd", "_law_matter", "_law_shown", "_law_due", "_law_told", "_law_again"]
theorem kb2s {K : PySem.W.Frag} {x qual : Str} {st : Stmt} {f : Addr} {fd : FuncData} {a b : Str} (F : Fun K x qual st f fd)
    (h : ∀ (kV doc pm : Value) (an : Option Addr) (cdv ct u v : Value), bindArgs (PySem.W.fnOf x qual (defArgs st) (defBody st) (defScope st) .none kV doc pm an cdv ct) ⟨[], [(b, v), (a, u)]⟩ = pure [(a, u), (b, v)] ∧
      bindArgs (PySem.W.fnOf x qual (defArgs st) (defBody st) (defScope st) .none kV doc pm an cdv ct) ⟨[u], [(b, v)]⟩ = pure [(a, u), (b, v)] ∧
      bindArgs (PySem.W.fnOf x qual (defArgs st) (defBody st) (defScope st) .none kV doc pm an cdv ct) ⟨[u, v], []⟩ = pure [(a, u), (b, v)]) :
    KBinds K fd [a, b] [b, a] (fun us ws => us ++ ws.reverse) (fun vs zs => vs ++ zs.reverse) := by
  obtain ⟨oc, od, kV, doc, pm, an, cdv, ct, osl, rfl, lk, hcd⟩ := F.ex
  refine ⟨fun s us ws _ hl => ?_, fun r1 r2 => r1.append r2.reverse⟩
  have hl2 : us.length + ws.length = 2 := by
    rw [List.length_append, List.length_reverse] at hl
    exact hl
  rcases us with _ | ⟨u, _ | ⟨v, _ | ⟨z, us⟩⟩⟩
  · rcases ws with _ | ⟨v, _ | ⟨u, _ | ⟨z, ws⟩⟩⟩
    · simp at hl2
    · simp at hl2
    · exact .of_eq (h kV doc pm an cdv ct u v).1
    · simp only [List.length_nil, List.length_cons] at hl2
      omega
  · rcases ws with _ | ⟨v, _ | ⟨z, ws⟩⟩
    · simp at hl2
    · exact .of_eq (h kV doc pm an cdv ct u v).2.1
    · simp only [List.length_nil, List.length_cons] at hl2
      omega
  · rcases ws with _ | ⟨z, ws⟩
    · exact .of_eq (h kV doc pm an cdv ct u v).2.2
    · simp only [List.length_nil, List.length_cons] at hl2
      omega
  · simp only [List.length_cons] at hl2
    omega
theorem setup_good {l : Nat} {d : PyData} (h : SetupD l d) : gD lf1 5 d 3 = true := by
  obtain ⟨sp, rm, ps, ss, rfl, a1, a2, a3, a4, wp, asc, _, lp, ls, hs⟩ := h
  have gp : gDs lf1 5 (ps.map PyData.str) 1 = true := gDs_of fun e he => by
    obtain ⟨p, hp, rfl⟩ := List.mem_map.mp he
    simp only [gD]
    have z := word_good1 (L := 1) (n := 0) (wp p hp)
    simpa only [gD] using z
  have gs : gDs lf1 5 ss 1 = true := gDs_of fun e he => by
    rcases hs e he with rfl | ⟨p, hp, rfl⟩
    · simp only [gD]
    · simp only [gD]
      have z := word_good1 (L := 1) (n := 0) (wp p hp)
      simpa only [gD] using z
  have g1 : gD lf1 5 (.int sp) 2 = true := by
    simp only [gD]
    exact decide_eq_true (by omega)
  have g2 : gD lf1 5 (.int rm) 2 = true := by
    simp only [gD]
    exact decide_eq_true (by omega)
  refine (gD_mk (m := 2) (by show 4 ≤ 5; decide) (gDs_of fun e he => ?_)).2
  rcases List.mem_cons.mp he with rfl | he
  · exact g1
  rcases List.mem_cons.mp he with rfl | he
  · exact g2
  rcases List.mem_cons.mp he with rfl | he
  · exact (gD_mk (m := 1) (by rw [List.length_map]; omega) gp).2
  · rw [List.mem_singleton.mp he]
    exact (gD_mk (m := 1) (by omega) gs).2
theorem lsts_strs : ∀ ps : List Str, lstDs (ps.map PyData.str) = ps.map PyData.str
  | [] => by simp only [List.map_nil, lstDs]
  | p :: ps => by simp only [List.map_cons, lstDs, lstD, lsts_strs ps]
theorem strs_lay {ps : List Str} (wp : ∀ p ∈ ps, wordS p = true) : PyData.canLayAll0 (ps.map PyData.str) = true := lay_of ps fun t ht => word_lay (wp t ht)
/-- a drawn SETUP, and the same as lists, read as a SETUP -/
theorem setup_setA {K : PySem.W.Frag} {H : Hp} {v : V} {sp rm : Int} {ps : List Str} {ss : List PyData} (lps : ps.length ≤ 4) (lss : ss.length ≤ 5) (wp : ∀ p ∈ ps, wordS p = true) (h : Dp K H v (setD sp rm ps ss)) : SetA K H v ps ss.length :=
  ⟨lps, strs_lay wp, lss, _, .int sp, .int rm, .tuple (ps.map PyData.str), .tuple ss, ss, .inl rfl, .inl rfl, .inl rfl, rfl, h⟩
theorem soft_setA {K : PySem.W.Frag} {H : Hp} {v : V} {sp rm : Int} {ps : List Str} {ss : List PyData} (lps : ps.length ≤ 4) (lss : ss.length ≤ 5) (wp : ∀ p ∈ ps, wordS p = true) (h : Dp K H v (lstD (setD sp rm ps ss))) : SetA K H v ps ss.length := by
  have e : lstD (setD sp rm ps ss) = .list [.int sp, .int rm, .list (ps.map PyData.str), .list (lstDs ss)] := by
    unfold setD
    simp only [lstD, lstDs, lsts_strs]
  rw [e] at h
  exact ⟨lps, strs_lay wp, lss, _, .int sp, .int rm, .list (ps.map PyData.str), .list (lstDs ss), lstDs ss, .inr rfl, .inr rfl, .inr rfl, lstDs_len ss, h⟩
theorem nm_some {H : Hp} {a : Addr} {gs : List Str} (h : NmAt H a gs) (e : H a = none) : False := by
  unfold NmAt at h
  rw [e] at h
  cases h
theorem odd_known {K : PySem.W.Frag} {B : List Addr} {σ : L2.St} {H : Hp} {p : Addr} {v : V} {sp rm : Int} {p0 : Str} {ps : List Str} {ss : List PyData} {i : Int} {Q : VK} (lv : Live B H) (o : OddB K B H p 17)
    (h7 : σ[7]? = some (some (.ref p))) (h3 : σ[3]? = some (some (.int i))) (h1 : σ[1]? = some (some v)) (hd : Dp K (hide B H) v (.tuple [.int sp, .int rm, .tuple (.str p0 :: ps.map PyData.str), .tuple ss])) (wp : wordS p0 = true) (hss : ss.length ≤ 5)
    (q : ∀ (p' : Addr) (H' : Hp) (m : Nat), Same H H' → m ≤ 100 → OddB K B H' p' m → Q (.ref p') H') :
    tOp rCat (tVar 7) (tIf (tTest (tOp rEq (tVar 3) (tC (V.int 0)))) (tCall (spKnown K) [] E0 (tCons (tVar 1) tNil)) (tLst tNil)) σ H Q := by
  have z : (decide (0 < p0.length) && decide (p0.length ≤ 8) && p0.cps.toList.all fun c => decide (97 ≤ c) && decide (c ≤ 122)) = true := wp
  rw [Bool.and_eq_true, Bool.and_eq_true, decide_eq_true_eq, decide_eq_true_eq] at z
  have e : (p0.cps.toList.all fun c => decide (c < 1114112)) = true := by
    rw [List.all_eq_true]
    intro c hc
    have z2 := List.all_eq_true.mp z.2 c hc
    rw [Bool.and_eq_true, decide_eq_true_eq, decide_eq_true_eq] at z2
    exact decide_eq_true (by omega)
  refine ⟨_, h7, _, h3, rfl, _, rfl, ite2 (fun _ => ?_) (fun _ => ?_)⟩
  · refine ⟨_, h1, B, v, sp, rm, p0, ps, ss, rfl, lv, hd, by omega, e, hss, fun pK HK sK oK => ?_⟩
    exact OddB.cat (lv.same sK) (o.same sK) oK (by decide) fun p' H' s' o' => q p' H' 52 (sK.trans s') (by decide) o'
  · refine ⟨by show 0 ≤ sizeLine; decide, fun pK nK => ?_⟩
    have oK : OddB K B (upd H pK (.lst [])) pK 0 := OddB.new lv nK .nil fun e he => absurd he List.not_mem_nil
    have uK := same_upd (o := HO.lst []) nK
    exact OddB.cat (lv.same uK) (o.same uK) oK (by decide) fun p' H' s' o' => q p' H' 17 (uK.trans s') (by decide) o'
section
variable {P : Program} {w : World} {K : PySem.W.Frag} {mg : Str → Option Value} {base : Heap}
theorem scRight : FnScope nRight ["_law_box_here"] (defScope sRight) :=
  ⟨rfl, rfl, rfl, by decide +kernel, rfl, by decide +kernel, by decide +kernel⟩
def spRight : Sp := fun vs H Q _ => ∃ (b : Addr) (n : Nat), vs = [.ref b] ∧ BoxAt H b n ∧ n ≤ 2 ^ 20 ∧ ∀ H', SameX [b] H H' → BoxAt H' b (n + 20000) → Q (.bl true) H'
theorem ok_right {f fD fL fM fA fN fI fT fB fK fQ fS : Addr} {fd fdD fdL fdM fdA fdN fdI fdT fdB fdK fdQ fdS : FuncData} (F : Fun K "_law_right" "_law_right" sRight f fd)
    (FD : Fun K "_law_named_setup" "_law_named_setup" sNamed fD fdD) (bD : Binds K fdD ["_law_box_here", "_law_least_so"] []) (mD : mg "_law_named_setup" = some (.ref fD)) (GD : FnOk P w K mg base CX0 10 fD fdD ["_law_box_here", "_law_least_so"] (spNamed K))
    (FL : Fun K "_law_lists" "_law_lists" sLists fL fdL) (bL : Binds K fdL ["_law_matter"] []) (mL : mg "_law_lists" = some (.ref fL)) (GL : FnOk P w K mg base CX0 10 fL fdL ["_law_matter"] (spLists K 7))
    (FM : Fun K "_law_names" "_law_names" sNames fM fdM) (bM : Binds K fdM ["_law_box_here", "_law_many_so"] []) (mM : mg "_law_names" = some (.ref fM)) (GM : FnOk P w K mg base CX0 10 fM fdM ["_law_box_here", "_law_many_so"] (spNames K))
    (FA : Fun K "_law_name" "_law_name" sName fA fdA) (bA : Binds K fdA ["_law_box_here"] []) (mA : mg "_law_name" = some (.ref fA)) (GA : FnOk P w K mg base CX0 10 fA fdA ["_law_box_here"] (spName K))
    (FN : Fun K "_law_lot" "_law_lot" sLot fN fdN) (bN : Binds K fdN ["_law_box_here", "_law_setup_so", "_law_tags_so", "_law_gone", "_law_many_so"] []) (mN : mg "_law_lot" = some (.ref fN)) (GN : FnOk P w K mg base CX0 10 fN fdN ["_law_box_here", "_law_setup_so", "_law_tags_so", "_law_gone", "_law_many_so"] (spLot K))
    (FI : Fun K "is_lot" "is_lot" sIsLot fI fdI) (bI : Binds K fdI ["setup", "thing"] []) (kI : KBinds K fdI ["setup", "thing"] ["thing", "setup"] (fun us ws => us ++ ws.reverse) (fun vs zs => vs ++ zs.reverse)) (mI : mg "is_lot" = some (.ref fI)) (GI : FnOk P w K mg base CX0 10 fI fdI ["setup", "thing"] (spIsLot K))
    (FT : Fun K "_law_turned" "_law_turned" sTurned fT fdT) (bT : Binds K fdT ["_law_box_here", "_law_some"] []) (mT : mg "_law_turned" = some (.ref fT)) (GT : FnOk P w K mg base CX0 10 fT fdT ["_law_box_here", "_law_some"] (spTurned K))
    (FB : Fun K "_law_bent" "_law_bent" sBent fB fdB) (bB : Binds K fdB ["_law_box_here", "_law_bit"] []) (mB : mg "_law_bent" = some (.ref fB)) (GB : FnOk P w K mg base CX0 10 fB fdB ["_law_box_here", "_law_bit"] (spBentB K 5))
    (FK : Fun K "_law_known" "_law_known" sKnown fK fdK) (bK : Binds K fdK ["_law_setup_so"] []) (mK : mg "_law_known" = some (.ref fK)) (GK : FnOk P w K mg base CX0 10 fK fdK ["_law_setup_so"] (spKnown K))
    (FQ : Fun K "_law_is_lot" "_law_is_lot" sLawLot fQ fdQ) (bQ : Binds K fdQ ["_law_setup_so", "_law_matter"] []) (mQ : mg "_law_is_lot" = some (.ref fQ)) (GQ : FnOk P w K mg base CX0 10 fQ fdQ ["_law_setup_so", "_law_matter"] (spLawLot K))
    (FS : Fun K "_law_same" "_law_same" sSame fS fdS) (bS : Binds K fdS ["_law_found", "_law_due"] []) (mS : mg "_law_same" = some (.ref fS)) (GS : FnOk P w K mg base CX0 10 fS fdS ["_law_found", "_law_due"] (spSame K 8))
    (zr : mg "range" = none) (zp : mg "repr" = none) : FnG P w K mg base 11 f fd ["_law_box_here"] spRight := by
  refine okG F scRight (fun vs H Q E h => ?_) (fun cdv A outer s H vs Q E hgd hr h => ?_)
  · obtain ⟨b, n, rfl, _⟩ := h
    rfl
  · obtain ⟨b, n, rfl, hB, hn, q⟩ := h
    refine ⟨_, pss_cons (ps_set (i := 1) scRight.nd rfl (.inl rfl) (pe_call GD hr (by rfl) mD FD.kp bD .nil pass0 (pa_cons (pv 0) (pa_cons pe_int pa_nil))))
      (pss_cons (ps_set (i := 2) scRight.nd rfl (.inl rfl) (pe_call GL hr (by rfl) mL FL.kp bL .nil pass0 (pa_cons (pv 1) pa_nil)))
      (pss_cons (ps_for PassesOwn.never rfl (pi_range1 (by rfl) zr (pa_cons pe_int pa_nil)) (pg_name (i := 3) scRight.nd rfl (.inl rfl))
        (pss_cons (ps_par (i := 4) (j := 5) rfl scRight.nd rfl rfl (by decide) rfl rfl (pa_cons (pe_call GM hr (by rfl) mM FM.kp bM .nil pass0 (pa_cons (pv 0) (pa_cons pe_int pa_nil))) (pa_cons (pe_lst (pa_cons (pe_call GA hr (by rfl) mA FA.kp bA .nil pass0 (pa_cons (pv 0) pa_nil)) pa_nil)) pa_nil)) (by rfl))
        (pss_cons (ps_set (i := 6) scRight.nd rfl (.inr rfl) (pe_call GN hr (by rfl) mN FN.kp bN .nil pass0 (pa_cons (pv 0) (pa_cons (pv 1) (pa_cons (pv 4) (pa_cons (pv 5) (pa_cons pe_int pa_nil)))))))
        (pss_cons (ps_if (pt_cmpR op_notBl (pe_call GI hr (by rfl) mI FI.kp bI .nil pass0 (pa_cons (pv 1) (pa_cons (pv 6) pa_nil))) pe_bl (nomark _)) (pss_one (ps_ret pe_bl)) pss_nil)
        (pss_cons (ps_set (i := 7) scRight.nd rfl (.inl rfl) (pe_op op_cat (pe_op op_cat (pe_call GT hr (by rfl) mT FT.kp bT .nil pass0 (pa_cons (pv 0) (pa_cons (pv 6) pa_nil))) (pe_lst (pa_cons (pe_call GL hr (by rfl) mL FL.kp bL .nil pass0 (pa_cons (pv 6) pa_nil)) pa_nil)))
            (pe_lc (own := [("_law_again", 12)]) (g := gName 12) (tt := tYes) rfl scRight.nd (pi_range1 (by rfl) zr (pa_cons pe_int pa_nil)) (blkOk_by (N := nRight) (sc := defScope sRight) (by decide +kernel))
              (fun _ _ _ _ _ => pg_name (i := 12) scRight.nd rfl (Or.inl rfl)) (fun _ _ _ _ _ => pts_nil) (fun _ _ _ _ _ => pe_call GB hr (by rfl) mB FB.kp bB .nil pass0 (pa_cons (pv 0) (pa_cons (pv 6) pa_nil))))))
        (pss_one (ps_for PassesOwn.never rfl (pi_list (pe_op op_cat (pv 7) (pe_ifExp (pt_cmpR op_eq (pv 3) pe_int (nomark _)) (pe_call GK hr (by rfl) mK FK.kp bK .nil pass0 (pa_cons (pv 1) pa_nil)) (pe_lst pa_nil)))) (pg_name (i := 8) scRight.nd rfl (.inl rfl))
          (pss_cons (ps_par (i := 9) (j := 10) rfl scRight.nd rfl rfl (by decide) rfl rfl (pa_cons (pe_callB (cr_reprA hgd hr.units) (by rfl) zp boot_repr (pa_cons (pv 8) pa_nil)) (pa_cons (pe_call GQ hr (by rfl) mQ FQ.kp bQ .nil pass0 (pa_cons (pv 1) (pa_cons (pv 8) pa_nil))) pa_nil)) (by rfl))
          (pss_cons (ps_set (i := 11) scRight.nd rfl (.inl rfl) (pe_lst (pa_cons (pe_call GI hr (by rfl) mI FI.kp bI .nil pass0 (pa_cons (pv 1) (pa_cons (pv 8) pa_nil))) (pa_cons (pe_callK0 GI hr (by rfl) mI FI.kp kI (pk_cons (pv 8) (pk_cons (pv 2) pk_nil))) pa_nil))))
          (pss_one (ps_if (PW.pt (pw_or (pt_not (pt_val (pe_call GS hr (by rfl) mS FS.kp bS .nil pass0 (pa_cons (pv 11) (pa_cons (pe_lst (pa_cons (pv 10) (pa_cons (pv 10) pa_nil))) pa_nil)))))
              (pw_or (pt_cmpR op_ne (pe_callB (cr_reprA hgd hr.units) (by rfl) zp boot_repr (pa_cons (pv 8) pa_nil)) (pv 9) (nomark _))
              (pw_or1 (pt_cmpR (op_neD hr.units) (pv 2) (pe_call GL hr (by rfl) mL FL.kp bL .nil pass0 (pa_cons (pv 1) pa_nil)) (nomark _)))))) (pss_one (ps_ret pe_bl)) pss_nil)))))))))))
      (pss_one (ps_ret pe_bl)))), ?_⟩
    have hmem : ∀ c ∈ [b], c ∈ [b] := fun _ h => h
    have lvOf : ∀ {H2 : Hp} {m : Nat}, BoxAt H2 b m → Live [b] H2 := fun h c hc => by rw [List.mem_singleton.mp hc]; exact h.live
    refine ⟨_, rfl, [b], b, n, 1, rfl, by decide, List.mem_singleton.mpr rfl, lvOf hB, hB, by omega, fun v d H1 hd s1 b1 d1 => ?_⟩
    have gd := setup_good hd
    have hd0 := hd
    obtain ⟨sp, rm, ps, ss, rfl, _, _, _, _, wp, _, l1, l2, l3, hss⟩ := hd
    have okd : okD (.tuple [.int sp, .int rm, .tuple (ps.map PyData.str), .tuple ss]) 7 = true := gD_ok (by decide) _ 7 (gD_mono (fun _ z => z) (Nat.le_refl 5) _ 3 7 (by decide) gd)
    have wpp : ∀ p ∈ ps, isWordD (.str p) 8 = true := wp
    refine ⟨_, rfl, [b], v, _, rfl, lvOf b1, d1, okd, fun vf H2 s2 df => ?_⟩
    have d2 := dp_same (hide_of_same (B := [b]) s2) d1
    have b2 := b1.same s2
    obtain ⟨dS, hdS⟩ : ∃ dS : PyData, dS = .tuple [.int sp, .int rm, .tuple (ps.map PyData.str), .tuple ss] := ⟨_, rfl⟩
    rw [← hdS] at df d2 okd
    have fineS : SeqAt.shaped (lstD dS) = true := by
      rw [hdS]
      exact (gB.fine (lst_gB (d := .tuple [.int sp, .int rm, .tuple (ps.map PyData.str), .tuple ss]) ⟨gD_mono lf12 (by decide) _ 3 6 (by decide) gd, Nat.le_trans (gD_bulk1 _ 3 gd) (by decide +kernel)⟩)).shaped
    have setS : ∀ {H' : Hp}, Dp K (hide [b] H') v dS → SetA K H' v ps ss.length := fun {H'} z => setup_setA l2 l3 wp (sp := sp) (rm := rm) (by rw [hdS] at z; exact dp_same (hide_same [b] H') z)
    have setF : ∀ {H' : Hp}, Dp K (hide [b] H') vf (lstD dS) → SetA K H' vf ps ss.length := fun {H'} z => soft_setA l2 l3 wp (sp := sp) (rm := rm) (by rw [hdS] at z; exact dp_same (hide_same [b] H') z)
    have s12 : SameX [b] H H2 := s1.trans (SameX.of s2)
    show tSeq _ _ _ [some (.ref b), some v, some vf, none, none, none, none, none, none, none, none, none, none] H2
    refine ⟨4, rfl, by decide, by decide, for_range (lo := 0) (n := 4) (fun i σ H' => ∃ y3 y4 y5 y6 y7 y8 y9 y10 y11, σ = [some (.ref b), some v, some vf, y3, y4, y5, y6, y7, y8, y9, y10, y11, none] ∧ SameX [b] H2 H' ∧ BoxAt H' b (n + 400 + 2000 * i))
      ⟨none, none, none, none, none, none, none, none, none, rfl, SameX.refl _ _, b2⟩ ?_ ?_⟩
    · rintro i σ H' hi ⟨y3, y4, y5, y6, y7, y8, y9, y10, y11, rfl, sx, bx⟩
      refine ⟨_, rfl, b, _, 10, rfl, by decide, bx, by omega, fun T ws H3 s3 nT hT nd wf hlen b3 => ⟨_, rfl, b, _, rfl, b3, by omega, fun nm H4 wnm s4 b4 => ⟨by show 1 ≤ sizeLine; decide, fun G nG => ⟨_, _, rfl, ?_⟩⟩⟩⟩
      have Tb : T ≠ b := fun e => bx.live (e ▸ nT)
      have tn4 : NmAt H4 T ws := NmAt.up hT b3 s4
      have TG : T ≠ G := fun e => nm_some tn4 (e ▸ nG)
      have Gb : G ≠ b := fun e => b4.live (e ▸ nG)
      have sG := same_upd (o := HO.lst [V.str nm]) nG
      have e1 : Same (hide [b] H') (hide [T, b] H3) := SameX.enter (C := [b]) (s3.sub fun c hc => List.mem_cons_of_mem _ hc) hmem nT
      have e2 : Same (hide [T, b] H3) (hide [T, b] H4) := s4.hide fun c hc => List.mem_cons_of_mem _ hc
      have e3 : Same (hide [T, b] H4) (hide [G, T, b] (upd H4 G (.lst [.str nm]))) := SameX.enter (C := []) (sameX_upd List.mem_cons_self) (fun _ z => absurd z List.not_mem_nil) nG
      have dH : Dp K (hide [b] H') v dS := dp_same (sx.hide hmem) d2
      have hS4 : SetH K (hide [G, T, b] (upd H4 G (.lst [.str nm]))) v ps ss := ⟨by omega, l2, l3, wp, hss, sp, rm, by
        have z := dp_same (e1.trans (e2.trans e3)) dH
        rw [hdS] at z
        exact z⟩
      have lv4 : Live [G, T, b] (upd H4 G (.lst [.str nm])) := ((((lvOf b4).cons (o := .lst (ws.map V.str)) tn4)).same sG).cons (o := .lst [.str nm]) upd_same
      show tSeq _ _ _ [some (.ref b), some v, some vf, some (.int (0 + (i : Int))), some (.ref T), some (.ref G), y6, y7, y8, y9, y10, y11, none] (upd H4 G (.lst [.str nm]))
      refine ⟨_, rfl, _, rfl, _, rfl, _, rfl, [G, T, b], b, _, v, ps, ss, T, G, ws, [nm], 4, rfl, by simp, by simp, by simp, TG, lv4, b4.same sG, by decide, by decide, by omega, hS4, sG _ _ tn4, upd_same, wf, fun g hg => by rw [List.mem_singleton.mp hg]; exact wnm, by omega, by show 1 ≤ 50; decide, fun v6 its ws6 H6 fin lm ew s6 b6 tn6 gn6 d6 => ?_⟩
      have sx6 : SameX [b] H2 H6 := fun c o hc e => by
        have c' := sx c o hc e
        have c3 := s3 c o hc c'
        have c4 := s4 c o hc c3
        refine s6 c o (fun z => ?_) (sG _ _ c4)
        simp only [List.mem_cons, List.not_mem_nil, or_false] at z hc
        rcases z with z | z | z
        · exact hc z
        · rw [z, nT] at c'; cases c'
        · rw [z, nG] at c4; cases c4
      have d6b : Dp K (hide [b] H6) v6 (.tuple (lotDs its)) := dp_same hide_leave (dp_same hide_leave d6)
      have dv6 : Dp K (hide [b] H6) v dS := dp_same (sx6.hide hmem) d2
      have df6 : Dp K (hide [b] H6) vf (lstD dS) := dp_same (sx6.hide hmem) df
      have wg1 : ∀ g ∈ [nm], wordS g = true := fun g hg => by rw [List.mem_singleton.mp hg]; exact wnm
      have wt : ∀ g ∈ lotTags its, wordS g = true := fun g hg => wf g (by rw [ew]; exact List.mem_append_left _ hg)
      have ndT : (lotTags its).Nodup := by
        rw [ew] at nd
        exact (List.nodup_append.mp nd).1
      have gL := lot_good1 fin l3 wp wg1 wt
      have hlenL : (lotDs its).length ≤ 8 := by
        have := lotDs_len its
        omega
      have isL := drawn_lot fin wg1 wt ndT
      have gBL : gB (.tuple (lotDs its)) := row_gB hlenL gL (lot_row _)
      have gL4 : gD lf1 8 (.tuple (lotDs its)) 4 = true := (gD_mk (m := 3) hlenL (gDs_of fun e he => gD_mono (fun _ z => z) (by decide) e 3 3 (Nat.le_refl 3) (okGet gL he))).2
      have bulkL : (PyData.tuple (lotDs its)).bulk ≤ 10880 := by
        have hb := gDs_bulk1 (lotDs its) 3 gL
        have hb2 : bulkM 4 3 = 1359 := by decide +kernel
        rw [hb2] at hb
        have hb3 : (lotDs its).length * 1360 ≤ 8 * 1360 := Nat.mul_le_mul_right _ hlenL
        simp only [PyData.bulk]
        omega
      have h0L : 0 < (lotDs its).length := by
        cases hc : its with
        | nil => exact absurd hc fin.ne
        | cons it its' => simp [lotDs, itDs]
      show tSeq _ _ _ [some (.ref b), some v, some vf, some (.int (0 + (i : Int))), some (.ref T), some (.ref G), some v6, y7, y8, y9, y10, y11, none] H6
      refine ⟨_, rfl, _, rfl, v, v6, ps, ss.length, _, rfl, setS dv6, dp_same (hide_same [b] H6) d6b, gBL.fine, fun H7 s7 => ?_⟩
      rw [isL]
      refine ⟨true, true, rfl, rfl, _, rfl, iteF ?_⟩
      have d7 := dp_same (hide_of_same (B := [b]) s7) d6b
      have dv7 := dp_same (hide_of_same (B := [b]) s7) dv6
      have df7 := dp_same (hide_of_same (B := [b]) s7) df6
      have b7 := b6.same s7
      have sx7 : SameX [b] H2 H7 := sx6.trans (SameX.of s7)
      show tSeq _ _ _ [some (.ref b), some v, some vf, some (.int (0 + (i : Int))), some (.ref T), some (.ref G), some v6, y7, y8, y9, y10, y11, none] H7
      have lv7 := lvOf b7
      refine ⟨_, rfl, _, rfl, [b], b, _, v6, lotDs its, rfl, List.mem_singleton.mpr rfl, lv7, b7, by omega, d7, h0L, by omega, fun p8 xs8 es8 H8 s8 b8 h8 dx8 row8 len8 np8 => ?_⟩
      have gs8 : ∀ e ∈ es8, gB e := fun e he => row_gB hlenL gL (row8 e he)
      have o8 : OddB K [b] H8 p8 4 := ⟨es8, xs8, h8, dx8, gs8, len8, np8⟩
      have d8 := dp_same (s8.hide hmem) d7
      have lv8 := lvOf b8
      have okL : okD (.tuple (lotDs its)) 7 = true := gD_ok (by decide) _ 7 (gD_mono (fun _ z => z) (Nat.le_refl 8) _ 4 7 (by decide) gL4)
      refine ⟨_, rfl, [b], v6, _, rfl, lv8, d8, okL, fun v9 H9 s9 d9 => ⟨by show 1 ≤ sizeLine; decide, fun p10 n10 => ?_⟩⟩
      have lv9 := lv8.same s9
      have u10 := same_upd (o := HO.lst [v9]) n10
      have o10 : OddB K [b] (upd H9 p10 (.lst [v9])) p10 1 := OddB.new lv9 n10 (.cons d9 .nil) (fun e he => by rw [List.mem_singleton.mp he]; exact lst_gB gBL)
      refine OddB.cat (lv9.same u10) ((o8.same s9).same u10) o10 (by decide) fun p11 H11 s11 o11 => ?_
      have s711 : SameX [b] H7 H11 := s8.trans (SameX.of ((s9.trans u10).trans s11))
      have b11 := b8.same ((s9.trans u10).trans s11)
      have d11 := dp_same (s711.hide hmem) d7
      have bl11 : H11 b ≠ none := b11.live
      obtain ⟨mB, hmB⟩ : ∃ mB : Nat, mB = n + 400 + 2000 * i + 24 * 10 + 20 + 1 + 24 * 4 + 2 := ⟨_, rfl⟩
      have b11' : BoxAt H11 b mB := b11.le (by omega)
      have o11' : OddB K [b] H11 p11 5 := o11
      refine ⟨12, rfl, by decide, by decide, fun D nD => lc_it (walk_range (lo := 0) (n := 12)) (fun j H3 => SameX [D, b] H11 H3 ∧ BoxAt H3 b (mB + 50 * j) ∧ ∃ ds xs, H3 D = some (.lst xs) ∧ DpAll K (hide [D, b] H3) xs ds ∧ (∀ e ∈ ds, gB e) ∧ ds.length = j) ⟨sameX_upd List.mem_cons_self, ?_, [], [], upd_same, .nil, (fun e he => absurd he List.not_mem_nil), rfl⟩ (fun _ _ _ _ => trivial) ?_ ?_⟩
      · have bD : b ≠ D := fun e => bl11 (by rw [e]; exact nD)
        obtain ⟨x, y, c, z, z2⟩ := b11'
        exact ⟨x, y, c, by rw [upd_ne bD]; exact z, by omega⟩
      · rintro j x H12 H12' hj ⟨s12x, b12, ds, xs, hD12, dx, g, hn'⟩ ⟨rfl, rfl⟩
        have bD : b ≠ D := fun e => bl11 (by rw [e]; exact nD)
        have lvD : Live [D, b] H12' := fun c hc => by
          rcases List.mem_cons.mp hc with rfl | hc
          · rw [hD12]
            exact fun z => by cases z
          · rw [List.mem_singleton.mp hc]
            exact b12.live
        refine ⟨rfl, tYes_ok ⟨_, rfl, _, rfl, 4, [D, b], b, mB + 50 * j, 8, v6, _, rfl, rfl, List.mem_cons_of_mem _ List.mem_cons_self, lvD, b12, by omega, by decide, dp_same (SameX.enter (C := [b]) s12x (fun _ z => z) nD) d11, gL4, fun v' d' H13 g13 k13 s13 b13 d13 => ?_⟩⟩
        have hD13 : H13 D = some (.lst xs) := s13 D _ (fun z => bD (List.mem_singleton.mp z).symm) hD12
        have sub : ∀ c ∈ [b], c ∈ [D, b] := fun c hc => List.mem_cons_of_mem _ hc
        refine ⟨xs, hD13, small1000 (by rw [dps_len dx]; omega), s12x.trans ((s13.sub sub).trans (sameX_upd List.mem_cons_self)), ?_, ds ++ [d'], xs ++ [v'], upd_same, ?_, (fun e he => ?_), by rw [List.length_append, hn']; rfl⟩
        · obtain ⟨x, y, c, z, z2⟩ := b13
          exact ⟨x, y, c, by rw [upd_ne bD]; exact z, by omega⟩
        · rw [hide_upd_in List.mem_cons_self]
          exact dps_snoc (dps_same (s13.hide sub) dx) d13
        · rcases List.mem_append.mp he with he | he
          · exact g e he
          · rw [List.mem_singleton.mp he]
            exact ⟨gD_mono (fun _ z => z) (by decide) d' 5 6 (by decide) g13, by omega⟩
      · rintro H12 ⟨s12x, b12, ds, xs, hD12, dx, g, hn'⟩
        have bD : b ≠ D := fun e => bl11 (by rw [e]; exact nD)
        have oD : OddB K [b] H12 D 12 := ⟨ds, xs, hD12, dps_same hide_leave dx, g, hn', fun z => bD (List.mem_singleton.mp z).symm⟩
        have lv12 := lvOf b12
        refine OddB.cat lv12 (o11'.sameX (List.mem_singleton.mpr rfl) s12x nD) oD (by decide) fun p13 H13 s13 o13 => ?_
        have e1312 : Same (hide [b] H11) (hide [b] H13) := fun c o z => hide_of_same s13 c o (hide_leave c o ((SameX.enter (C := [b]) s12x (fun _ z => z) nD) c o z))
        have sx13 : SameX [b] H2 H13 := fun c o hc e => by
          have c7 := sx7 c o hc e
          have c11 := s711 c o hc c7
          refine s13 c o (s12x c o (fun z => ?_) c11)
          rcases List.mem_cons.mp z with z | z
          · exact ne_of_none c11 nD z
          · exact hc z
        have dv13 := dp_same (sx13.hide hmem) d2
        have df13 := dp_same (sx13.hide hmem) df
        have b13 : BoxAt H13 b (mB + 600) := (b12.same s13).le (by omega)
        have o13' : OddB K [b] H13 p13 17 := o13
        obtain ⟨p0, ps', hps⟩ : ∃ p0 ps', ps = p0 :: ps' := by
          cases ps with
          | nil => simp at l1
          | cons p0 ps' => exact ⟨p0, ps', rfl⟩
        have dK : Dp K (hide [b] H13) v (.tuple [.int sp, .int rm, .tuple (.str p0 :: ps'.map PyData.str), .tuple ss]) := by
          have z := dv13
          rw [hdS, hps] at z
          exact z
        refine odd_known (lvOf b13) o13' rfl rfl rfl dK (wp p0 (by rw [hps]; exact List.mem_cons_self)) l3 fun p14 H14 m14 s14 hm14 o14 => ?_
        obtain ⟨ds14, xs14, h14, dx14, g14, hn14, _⟩ := o14
        have hl14 := dps_len dx14
        have dv14 := dp_same (hide_of_same (B := [b]) s14) dv13
        have df14 := dp_same (hide_of_same (B := [b]) s14) df13
        have lv14 := (lvOf b13).same s14
        refine ⟨p14, rfl, ⟨xs14, SqL.of h14⟩, for_it (walk_list (xs := xs14)) (fun j σ H' => ∃ z8 z9 z10 z11, σ = [some (.ref b), some v, some vf, some (.int (0 + (i : Int))), some (.ref T), some (.ref G), some v6, some (.ref p13), z8, z9, z10, z11, none] ∧ Same H14 H') ⟨y8, y9, y10, y11, rfl, Same.refl _⟩ (fun j σ H' _ h => ?_) ?_ ?_⟩
        · obtain ⟨_, _, _, _, _, s⟩ := h
          exact s.seq (SqL.of h14)
        · rintro j x σ H15 H15' hj ⟨z8, z9, z10, z11, rfl, sm⟩ ⟨rfl, hx⟩
          obtain ⟨d, hd', dd⟩ := dps_get dx14 hx
          have gd9 : gB d := g14 d (List.mem_of_getElem? hd')
          have dd0 : Dp K H14 x d := dp_same (hide_same [b] H14) dd
          obtain ⟨f1, f2, f3, f4⟩ := gd9.facts
          have SA : ∀ {H' : Hp}, Same H14 H' → SetA K H' v ps ss.length := fun {H'} z => setS (dp_same (hide_of_same z) dv14)
          have SB : ∀ {H' : Hp}, Same H14 H' → SetA K H' vf ps ss.length := fun {H'} z => setF (dp_same (hide_of_same z) df14)
          show tSeq _ _ _ [some (.ref b), some v, some vf, some (.int (0 + (i : Int))), some (.ref T), some (.ref G), some v6, some (.ref p13), some x, z9, z10, z11, none] H15'
          refine ⟨_, rfl, x, d, rfl, dp_same sm dd0, f1, f2, f3, f4, _, rfl, _, rfl, v, x, ps, ss.length, d, rfl, SA sm, dp_same sm dd0, gd9.fine, fun H16 s16 => ?_⟩
          rw [lot_eq wpp]
          have m16 := sm.trans s16
          refine ⟨_, _, rfl, ?_⟩
          show tSeq _ _ _ [some (.ref b), some v, some vf, some (.int (0 + (i : Int))), some (.ref T), some (.ref G), some v6, some (.ref p13), some x, some (.str d.shown), some (.bl (isLotD ps ss.length d)), z11, none] H16
          refine ⟨_, rfl, _, rfl, v, x, ps, ss.length, d, rfl, SA m16, dp_same m16 dd0, gd9.fine, fun H17 s17 => ?_⟩
          have m17 := m16.trans s17
          refine ⟨_, rfl, _, rfl, vf, x, ps, ss.length, d, rfl, SB m17, dp_same m17 dd0, gd9.fine, fun H18 s18 => ⟨by show 2 ≤ sizeLine; decide, fun q19 n19 => ?_⟩⟩
          have m18 := m17.trans s18
          have u19 := same_upd (o := HO.lst [.bl (isLotD ps ss.length d), .bl (isLotD ps ss.length d)]) n19
          refine ⟨_, rfl, _, rfl, _, rfl, by show 2 ≤ sizeLine; decide, fun q20 n20 => ?_⟩
          have u20 := same_upd (o := HO.lst [.bl (isLotD ps ss.length d), .bl (isLotD ps ss.length d)]) n20
          have m20 := m18.trans (u19.trans u20)
          refine ⟨7, .ref q19, .ref q20, .list [.bool (isLotD ps ss.length d), .bool (isLotD ps ss.length d)], rfl, rfl, .lst (SqL.of (u20 _ _ upd_same)) (.cons (.bl _) (.cons (.bl _) .nil)), .lst (SqL.of upd_same) (.cons (.bl _) (.cons (.bl _) .nil)), by simp [okD, okDs], fun H21 s21 => ⟨_, rfl, iteF ?_⟩⟩
          have m21 := m20.trans s21
          refine ⟨_, rfl, x, d, rfl, dp_same m21 dd0, f1, f2, f3, f4, _, rfl, rfl, _, rfl, iteNS rfl ?_⟩
          have dv21 := dp_same (hide_of_same (B := [b]) m21) dv14
          have df21 := dp_same (hide_of_same (B := [b]) m21) df14
          refine ⟨_, rfl, _, rfl, [b], v, dS, rfl, lv14.same m21, dv21, okd, fun v22 H22 s22 d22 => ?_⟩
          have m22 := m21.trans s22
          refine ⟨lstD dS, lstD dS, dp_same (hide_same [b] H22) (dp_same (hide_of_same s22) df21), dp_same (hide_same [b] H22) d22, fineS, fineS, _, rfl, ?_⟩
          have er : PyData.eqv (lstD dS) (lstD dS) = true := SeqAt.eqv_refl _ (by
            have z := fineS
            unfold SeqAt.shaped at z
            rw [Bool.and_eq_true] at z
            exact z.1)
          rw [er]
          refine iteF ⟨_, _, _, _, rfl, m22⟩
        · rintro σ H15 ⟨z8, z9, z10, z11, rfl, sm⟩
          refine ⟨_, _, _, _, _, _, _, _, _, rfl, ?_, ?_⟩
          · exact sx13.trans (SameX.of (s14.trans sm))
          · exact (b13.same (s14.trans sm)).le (by omega)
    · rintro σ H' ⟨y3, y4, y5, y6, y7, y8, y9, y10, y11, rfl, sx, bx⟩
      exact q H' (s12.trans sx) (bx.le (by omega))
end
end KV

namespace KV
open PySem PySem.Spec PyProof.Rows L2 RZ
abbrev sLaw : Stmt := topS 61
/-! ### a module's dict of tuples of words -/
theorem keys_not {P : Params} {z : Str} : ∀ {l : List DictEntry} {ks : List Str}, l.map He.keyOf = He.keysIn P ks → z ∉ ks → l.find? (fun e => e.key.isStr z) = none ∧ l.any (fun e => e.refKey) = false
  | [], _, _, _ => ⟨rfl, rfl⟩
  | e :: r, [], h, _ => by cases h
  | e :: r, k :: ks, h, hz => by
    have h1 : He.keyOf e :: r.map He.keyOf = some (k, PyData.keyHash P k) :: He.keysIn P ks := h
    injection h1 with h2 h3
    obtain ⟨i1, i2⟩ := keys_not h3 fun m => hz (List.mem_cons_of_mem _ m)
    unfold He.keyOf at h2
    split at h2
    · rename_i x t q
      have h4 := Option.some.inj h2
      obtain ⟨h5, _⟩ := Prod.mk.inj h4
      subst h5
      have hne : z ≠ x := fun e => hz (by rw [e]; exact List.mem_cons_self)
      have n1 : e.key.isStr z = false := by
        rw [PySem.W.isStr_of, q]
        cases hb : Value.isStrOf z (.str x t) with
        | false => rfl
        | true => exact absurd (by simpa [Value.isStrOf] using hb) (by first | exact hne | exact hne.symm)
      have n2 : e.refKey = false := by
        unfold DictEntry.refKey
        rw [q]
      rw [List.find?_cons, n1, List.any_cons, n2]
      exact ⟨i1, by rw [Bool.false_or]; exact i2⟩
    · cases h2
theorem tab_mk {K : PySem.W.Frag} {w : World} {d : Addr} {es : Array DictEntry} {n : Nat} {ks : List Str} {tab : Str → Option (List Str)} (lk : K.lookup d = some ⟨.type "dict", none, .dict es n, #[]⟩) (hx : es.toList.map He.keyOf = He.keysIn w.params ks) (low : (d == sysModules) = false)
    (hk : ∀ z ∈ ks, tab z ≠ none) (yes : ∀ z vs, tab z = some vs → ∃ a, (∀ H, SqT K H a (vs.map V.str)) ∧ PySem.W.nsIn K d z = some (some (.ref a))) : TabAt K w d tab := by
  refine ⟨⟨es, n, lk, He.keysLit_of hx, low⟩, fun z hz => ?_, yes⟩
  obtain ⟨i1, i2⟩ := keys_not (z := z) hx fun m => hk z m hz
  unfold PySem.W.nsIn
  rw [lk]
  show (match es.toList.find? (fun e => e.key.isStr z) with | some e => some (some e.val) | none => if es.toList.any (fun e => e.refKey) then none else some none) = some none
  rw [i1, i2]
  rfl
theorem sq_mk {K : PySem.W.Frag} {a : Addr} {od : Option Addr} {its : Array Value} {n : Nat} {sl : Array (Option Value)} {xs : List V} (lk : K.lookup a = some ⟨.type "tuple", od, .seq its n, sl⟩) (hv : Vals xs its.toList) (hz : its.size ≤ sizeLine) : ∀ H, SqT K H a xs :=
  fun _ => .inr ⟨_, its, n, lk, rfl, rfl, hz, hv⟩
theorem tab_if {z k : Str} {v vs : List Str} {o : Option (List Str)} {C : Str → List Str → Prop} (h1 : C k v) (h2 : o = some vs → C z vs) (h : (if z = k then some v else o) = some vs) : C z vs := by
  by_cases e : z = k
  · rw [if_pos e] at h
    rw [e, ← Option.some.inj h]
    exact h1
  · rw [if_neg e] at h
    exact h2 h
theorem whereTab_keys : ∀ z ∈ (["pipe", "slot"] : List Str), whereTab z ≠ none := by
  have h : (["pipe", "slot"] : List Str).all (fun z => (whereTab z).isSome) = true := by decide +kernel
  intro z hz e
  have := List.all_eq_true.mp h z hz
  rw [e] at this
  exact nomatch this
theorem deedTab_keys : ∀ z ∈ (["nop", "work", "read", "reads", "write", "shut", "timeout", "linktimeout", "cancel", "cancelall", "update"] : List Str), deedTab z ≠ none := by
  have h : (["nop", "work", "read", "reads", "write", "shut", "timeout", "linktimeout", "cancel", "cancelall", "update"] : List Str).all (fun z => (deedTab z).isSome) = true := by decide +kernel
  intro z hz e
  have := List.all_eq_true.mp h z hz
  rw [e] at this
  exact nomatch this
section
variable {P : Program} {w : World} {K : PySem.W.Frag} {mg : Str → Option Value} {base : Heap}
def spLaw (K : PySem.W.Frag) : Sp := fun vs H Q _ => ∃ (a : Addr) (ns : List Int), vs = [.ref a] ∧ SqL K H a (ns.map V.int) ∧ ns.length ≤ 63 ∧ ∀ H', Q (.bl true) H'
theorem scLaw : FnScope ["_law_script", "_law_k", "_law_box_here", "_law_turn"] ["_law_script"] (defScope sLaw) :=
  ⟨rfl, rfl, rfl, by decide +kernel, rfl, by decide +kernel, by decide +kernel⟩
theorem ok_law {f fR fB : Addr} {fd fdR fdB : FuncData} (F : Fun K "law" "law" sLaw f fd) (FR : Fun K "_law_right" "_law_right" sRight fR fdR) (bR : Binds K fdR ["_law_box_here"] []) (mR : mg "_law_right" = some (.ref fR))
    (GR : FnG P w K mg base 11 fR fdR ["_law_box_here"] spRight)
    (FB : Fun K "_law_box" "_law_box" sBox fB fdB) (bB : Binds K fdB ["_law_script", "_law_k"] []) (mB : mg "_law_box" = some (.ref fB)) (zInt : mg "int" = none) (zLen : mg "len" = none) (zAbs : mg "abs" = none) (zMin : mg "min" = none) (zRange : mg "range" = none) (zAll : mg "all" = none) : FnG P w K mg base 12 f fd ["_law_script"] (spLaw K) := by
  have GB : FnOk P w K mg base CX0 1 fB fdB ["_law_script", "_law_k"] (spBox K) := ok_box FB zInt zLen zAbs
  refine okG F scLaw (fun vs H Q E h => ?_) (fun cdv A outer s H vs Q E hgd hr h => ?_)
  · obtain ⟨a, ns, rfl, _⟩ := h
    rfl
  · obtain ⟨a, ns, rfl, hS, hlen, q⟩ := h
    have hr1 : Room 1 _ := hr.mono (by decide)
    refine ⟨_, pss_cons (ps_for PassesOwn.never rfl (pi_range1 (by rfl) zRange (pa_cons (pe_op op_add pe_int (pe_callB (call_min2 rfl) (by rfl) zMin boot_min (pa_cons pe_int (pa_cons (pe_callB call_len_seq (by rfl) zLen PySem.boot_len (pa_cons (pv 0) pa_nil)) pa_nil)))) pa_nil)) (pg_name (i := 1) scLaw.nd rfl (.inl rfl))
        (pss_cons (ps_set (i := 2) scLaw.nd rfl (.inr rfl) (pe_call GB hr1 (by rfl) mB FB.kp bB .nil pass0 (pa_cons (pv 0) (pa_cons (pv 1) pa_nil))))
        (pss_one (ps_if (pt_not (pt_val (pe_callB (cr_all rfl) (by rfl) zAll boot_all (pa_cons
          (pe_lc (own := [("_law_turn", 3)]) (g := gName 3) (tt := tYes) rfl scLaw.nd (pi_range1 (by rfl) zRange (pa_cons pe_int pa_nil)) (blkOk_by (N := ["_law_script", "_law_k", "_law_box_here", "_law_turn"]) (sc := defScope sLaw) (by decide +kernel))
            (fun _ _ _ _ _ => pg_name (i := 3) scLaw.nd rfl (Or.inl rfl)) (fun _ _ _ _ _ => pts_nil) (fun _ _ _ _ _ => pe_callG GR hgd hr (by rfl) mR FR.kp bR (pa_cons (pv 2) pa_nil))) pa_nil)))) (pss_one (ps_ret pe_bl)) pss_nil))))
      (pss_one (ps_ret pe_bl)), ?_⟩
    refine ⟨_, rfl, a, _, rfl, .inl hS, _, _, rfl, _, _, rfl, rfl, _, rfl, ?_, ?_, for_range (lo := 0) (n := _) (fun i σ H' => ∃ y1 y2, σ = [some (.ref a), y1, y2, none] ∧ Same H H') ⟨none, none, rfl, Same.refl _⟩ ?_ ?_⟩
    · split <;> omega
    · split <;> omega
    · rintro i σ H' hi ⟨y1, y2, rfl, sm⟩
      have hi10 : i < 10 := by
        rw [List.length_map] at hi
        split at hi <;> omega
      refine ⟨_, rfl, _, rfl, a, ns, i, by rw [Int.zero_add]; rfl, sm.seq hS, hi10, hlen, fun p H2 s2 n2 b2 => ?_⟩
      refine ⟨2, rfl, by decide, by decide, fun D nD => lc_it (walk_range (lo := 0) (n := 2)) (fun j H3 => SameX [D, p] H2 H3 ∧ BoxAt H3 p (20000 * j) ∧ H3 D = some (.lst ((List.replicate j true).map V.bl))) ⟨?_, ?_, upd_same⟩ (fun _ _ _ _ => trivial) ?_ ?_⟩
      · exact sameX_upd List.mem_cons_self
      · have pD : p ≠ D := fun e => by
          obtain ⟨_, _, _, z, _⟩ := b2
          rw [e, nD] at z
          cases z
        obtain ⟨x, y, c, z, z2⟩ := b2
        exact ⟨x, y, c, by rw [upd_ne pD]; exact z, z2⟩
      · rintro j x H3 H3' hj ⟨s3, b3, hD3⟩ ⟨rfl, rfl⟩
        refine ⟨rfl, tYes_ok ⟨_, rfl, p, _, rfl, b3, by omega, fun H4 s4 b4 => ?_⟩⟩
        have pD : D ≠ p := fun e => by
          obtain ⟨_, _, _, z, _⟩ := b2
          rw [← e, nD] at z
          cases z
        have hD4 : H4 D = some (.lst ((List.replicate j true).map V.bl)) := s4 D _ (fun z => pD (List.mem_singleton.mp z)) hD3
        refine ⟨_, hD4, by rw [List.length_map, List.length_replicate]; exact small1000 (by omega), ?_, ?_, ?_⟩
        · exact s3.trans ((s4.sub fun c hc => List.mem_cons_of_mem _ hc).trans (sameX_upd List.mem_cons_self))
        · obtain ⟨x, y, c, z, z2⟩ := b4
          exact ⟨x, y, c, by rw [upd_ne pD.symm]; exact z, by omega⟩
        · rw [upd_same, List.replicate_succ', List.map_append]
          rfl
      · rintro H3 ⟨s3, b3, hD3⟩
        refine ⟨D, List.replicate 2 true, rfl, SqL.of hD3, _, rfl, iteBF (by rw [rep_all]; rfl) ?_⟩
        refine ⟨_, _, rfl, fun c o e => ?_⟩
        have e1 := sm c o e
        have e2 := s2 c o e1
        refine s3 c o (fun z => ?_) e2
        rcases List.mem_cons.mp z with z | z
        · exact ne_of_none e2 nD z
        · exact ne_of_none e1 n2 (List.mem_singleton.mp z)
    · rintro σ H' _
      exact q H'
end
end KV

namespace KV
open PySem PySem.Spec PyProof.Rows L2 RZ
theorem all_mk {l : PySem.W.OpenLaw} {w : World} {K : PySem.W.Frag} {h : Heap} {mg : Str → Option Value} {fa : Addr} (X : K.In h) (G : h.Ns mainGlobals mg) (hfa : mg "law" = some (.ref fa))
    {f0 : Addr} {od0 an0 : Option Addr} {sl0 : Array (Option Value)} {oc0 kV0 dc0 pm0 cd0 ct0 : Value} {f1 : Addr} {od1 an1 : Option Addr} {sl1 : Array (Option Value)} {oc1 kV1 dc1 pm1 cd1 ct1 : Value} {f2 : Addr} {od2 an2 : Option Addr} {sl2 : Array (Option Value)} {oc2 kV2 dc2 pm2 cd2 ct2 : Value} {f3 : Addr} {od3 an3 : Option Addr} {sl3 : Array (Option Value)} {oc3 kV3 dc3 pm3 cd3 ct3 : Value} {f4 : Addr} {od4 an4 : Option Addr} {sl4 : Array (Option Value)} {oc4 kV4 dc4 pm4 cd4 ct4 : Value} {f5 : Addr} {od5 an5 : Option Addr} {sl5 : Array (Option Value)} {oc5 kV5 dc5 pm5 cd5 ct5 : Value} {f6 : Addr} {od6 an6 : Option Addr} {sl6 : Array (Option Value)} {oc6 kV6 dc6 pm6 cd6 ct6 : Value} {f7 : Addr} {od7 an7 : Option Addr} {sl7 : Array (Option Value)} {oc7 kV7 dc7 pm7 cd7 ct7 : Value} {f8 : Addr} {od8 an8 : Option Addr} {sl8 : Array (Option Value)} {oc8 kV8 dc8 pm8 cd8 ct8 : Value} {f9 : Addr} {od9 an9 : Option Addr} {sl9 : Array (Option Value)} {oc9 kV9 dc9 pm9 cd9 ct9 : Value} {f10 : Addr} {od10 an10 : Option Addr} {sl10 : Array (Option Value)} {oc10 kV10 dc10 pm10 cd10 ct10 : Value} {f11 : Addr} {od11 an11 : Option Addr} {sl11 : Array (Option Value)} {oc11 kV11 dc11 pm11 cd11 ct11 : Value} {f12 : Addr} {od12 an12 : Option Addr} {sl12 : Array (Option Value)} {oc12 kV12 dc12 pm12 cd12 ct12 : Value} {f13 : Addr} {od13 an13 : Option Addr} {sl13 : Array (Option Value)} {oc13 kV13 dc13 pm13 cd13 ct13 : Value} {f14 : Addr} {od14 an14 : Option Addr} {sl14 : Array (Option Value)} {oc14 kV14 dc14 pm14 cd14 ct14 : Value} {f15 : Addr} {od15 an15 : Option Addr} {sl15 : Array (Option Value)} {oc15 kV15 dc15 pm15 cd15 ct15 : Value} {f16 : Addr} {od16 an16 : Option Addr} {sl16 : Array (Option Value)} {oc16 kV16 dc16 pm16 cd16 ct16 : Value} {f17 : Addr} {od17 an17 : Option Addr} {sl17 : Array (Option Value)} {oc17 kV17 dc17 pm17 cd17 ct17 : Value} {f18 : Addr} {od18 an18 : Option Addr} {sl18 : Array (Option Value)} {oc18 kV18 dc18 pm18 cd18 ct18 : Value} {f19 : Addr} {od19 an19 : Option Addr} {sl19 : Array (Option Value)} {oc19 kV19 dc19 pm19 cd19 ct19 : Value} {f20 : Addr} {od20 an20 : Option Addr} {sl20 : Array (Option Value)} {oc20 kV20 dc20 pm20 cd20 ct20 : Value} {f21 : Addr} {od21 an21 : Option Addr} {sl21 : Array (Option Value)} {oc21 kV21 dc21 pm21 cd21 ct21 : Value} {f22 : Addr} {od22 an22 : Option Addr} {sl22 : Array (Option Value)} {oc22 kV22 dc22 pm22 cd22 ct22 : Value} {f23 : Addr} {od23 an23 : Option Addr} {sl23 : Array (Option Value)} {oc23 kV23 dc23 pm23 cd23 ct23 : Value} {f24 : Addr} {od24 an24 : Option Addr} {sl24 : Array (Option Value)} {oc24 kV24 dc24 pm24 cd24 ct24 : Value} {f25 : Addr} {od25 an25 : Option Addr} {sl25 : Array (Option Value)} {oc25 kV25 dc25 pm25 cd25 ct25 : Value} {f26 : Addr} {od26 an26 : Option Addr} {sl26 : Array (Option Value)} {oc26 kV26 dc26 pm26 cd26 ct26 : Value} {f27 : Addr} {od27 an27 : Option Addr} {sl27 : Array (Option Value)} {oc27 kV27 dc27 pm27 cd27 ct27 : Value} {f28 : Addr} {od28 an28 : Option Addr} {sl28 : Array (Option Value)} {oc28 kV28 dc28 pm28 cd28 ct28 : Value} {f29 : Addr} {od29 an29 : Option Addr} {sl29 : Array (Option Value)} {oc29 kV29 dc29 pm29 cd29 ct29 : Value} {f30 : Addr} {od30 an30 : Option Addr} {sl30 : Array (Option Value)} {oc30 kV30 dc30 pm30 cd30 ct30 : Value} {f31 : Addr} {od31 an31 : Option Addr} {sl31 : Array (Option Value)} {oc31 kV31 dc31 pm31 cd31 ct31 : Value} {f32 : Addr} {od32 an32 : Option Addr} {sl32 : Array (Option Value)} {oc32 kV32 dc32 pm32 cd32 ct32 : Value} {f33 : Addr} {od33 an33 : Option Addr} {sl33 : Array (Option Value)} {oc33 kV33 dc33 pm33 cd33 ct33 : Value} {f34 : Addr} {od34 an34 : Option Addr} {sl34 : Array (Option Value)} {oc34 kV34 dc34 pm34 cd34 ct34 : Value} {f35 : Addr} {od35 an35 : Option Addr} {sl35 : Array (Option Value)} {oc35 kV35 dc35 pm35 cd35 ct35 : Value} {f36 : Addr} {od36 an36 : Option Addr} {sl36 : Array (Option Value)} {oc36 kV36 dc36 pm36 cd36 ct36 : Value} {f37 : Addr} {od37 an37 : Option Addr} {sl37 : Array (Option Value)} {oc37 kV37 dc37 pm37 cd37 ct37 : Value} {f38 : Addr} {od38 an38 : Option Addr} {sl38 : Array (Option Value)} {oc38 kV38 dc38 pm38 cd38 ct38 : Value} {f39 : Addr} {od39 an39 : Option Addr} {sl39 : Array (Option Value)} {oc39 kV39 dc39 pm39 cd39 ct39 : Value} {f40 : Addr} {od40 an40 : Option Addr} {sl40 : Array (Option Value)} {oc40 kV40 dc40 pm40 cd40 ct40 : Value} {f41 : Addr} {od41 an41 : Option Addr} {sl41 : Array (Option Value)} {oc41 kV41 dc41 pm41 cd41 ct41 : Value} {f42 : Addr} {od42 an42 : Option Addr} {sl42 : Array (Option Value)} {oc42 kV42 dc42 pm42 cd42 ct42 : Value} {f43 : Addr} {od43 an43 : Option Addr} {sl43 : Array (Option Value)} {oc43 kV43 dc43 pm43 cd43 ct43 : Value} {f44 : Addr} {od44 an44 : Option Addr} {sl44 : Array (Option Value)} {oc44 kV44 dc44 pm44 cd44 ct44 : Value} {f45 : Addr} {od45 an45 : Option Addr} {sl45 : Array (Option Value)} {oc45 kV45 dc45 pm45 cd45 ct45 : Value} {f46 : Addr} {od46 an46 : Option Addr} {sl46 : Array (Option Value)} {oc46 kV46 dc46 pm46 cd46 ct46 : Value} {f47 : Addr} {od47 an47 : Option Addr} {sl47 : Array (Option Value)} {oc47 kV47 dc47 pm47 cd47 ct47 : Value} {f48 : Addr} {od48 an48 : Option Addr} {sl48 : Array (Option Value)} {oc48 kV48 dc48 pm48 cd48 ct48 : Value} {f49 : Addr} {od49 an49 : Option Addr} {sl49 : Array (Option Value)} {oc49 kV49 dc49 pm49 cd49 ct49 : Value} {f50 : Addr} {od50 an50 : Option Addr} {sl50 : Array (Option Value)} {oc50 kV50 dc50 pm50 cd50 ct50 : Value} {f51 : Addr} {od51 an51 : Option Addr} {sl51 : Array (Option Value)} {oc51 kV51 dc51 pm51 cd51 ct51 : Value} {tk : Tok} {dW : Addr} {esW : Array DictEntry} {nW : Nat} {tW0 : Addr} {odW0 : Option Addr} {itsW0 : Array Value} {qW0 : Nat} {oslW0 : Array (Option Value)} {tW1 : Addr} {odW1 : Option Addr} {itsW1 : Array Value} {qW1 : Nat} {oslW1 : Array (Option Value)} {dD : Addr} {esD : Array DictEntry} {nD : Nat} {tD0 : Addr} {odD0 : Option Addr} {itsD0 : Array Value} {qD0 : Nat} {oslD0 : Array (Option Value)} {tD1 : Addr} {odD1 : Option Addr} {itsD1 : Array Value} {qD1 : Nat} {oslD1 : Array (Option Value)} {tD2 : Addr} {odD2 : Option Addr} {itsD2 : Array Value} {qD2 : Nat} {oslD2 : Array (Option Value)} {tD3 : Addr} {odD3 : Option Addr} {itsD3 : Array Value} {qD3 : Nat} {oslD3 : Array (Option Value)} {tD4 : Addr} {odD4 : Option Addr} {itsD4 : Array Value} {qD4 : Nat} {oslD4 : Array (Option Value)} {tD5 : Addr} {odD5 : Option Addr} {itsD5 : Array Value} {qD5 : Nat} {oslD5 : Array (Option Value)} {tD6 : Addr} {odD6 : Option Addr} {itsD6 : Array Value} {qD6 : Nat} {oslD6 : Array (Option Value)} {tD7 : Addr} {odD7 : Option Addr} {itsD7 : Array Value} {qD7 : Nat} {oslD7 : Array (Option Value)} {tD8 : Addr} {odD8 : Option Addr} {itsD8 : Array Value} {qD8 : Nat} {oslD8 : Array (Option Value)} {tD9 : Addr} {odD9 : Option Addr} {itsD9 : Array Value} {qD9 : Nat} {oslD9 : Array (Option Value)} {tD10 : Addr} {odD10 : Option Addr} {itsD10 : Array Value} {qD10 : Nat} {oslD10 : Array (Option Value)}
    (a0 : PySem.W.nsIn K mainGlobals "is_number" = some (some (.ref f0))) (l0 : K.lookup f0 = some ⟨oc0, od0, .func (PySem.W.fnOf "is_number" "is_number" (defArgs sNum) (defBody sNum) (defScope sNum) .none kV0 dc0 pm0 an0 cd0 ct0), sl0⟩) (c0 : PySem.W.codeIn K cd0 "is_number" = true) (k0 : PySem.W.keepIn K (.ref f0) = true)
    (a1 : PySem.W.nsIn K mainGlobals "is_truth" = some (some (.ref f1))) (l1 : K.lookup f1 = some ⟨oc1, od1, .func (PySem.W.fnOf "is_truth" "is_truth" (defArgs sTruth) (defBody sTruth) (defScope sTruth) .none kV1 dc1 pm1 an1 cd1 ct1), sl1⟩) (c1 : PySem.W.codeIn K cd1 "is_truth" = true) (k1 : PySem.W.keepIn K (.ref f1) = true)
    (a2 : PySem.W.nsIn K mainGlobals "is_letters" = some (some (.ref f2))) (l2 : K.lookup f2 = some ⟨oc2, od2, .func (PySem.W.fnOf "is_letters" "is_letters" (defArgs sLets) (defBody sLets) (defScope sLets) .none kV2 dc2 pm2 an2 cd2 ct2), sl2⟩) (c2 : PySem.W.codeIn K cd2 "is_letters" = true) (k2 : PySem.W.keepIn K (.ref f2) = true)
    (a3 : PySem.W.nsIn K mainGlobals "is_name" = some (some (.ref f3))) (l3 : K.lookup f3 = some ⟨oc3, od3, .func (PySem.W.fnOf "is_name" "is_name" (defArgs sIsName) (defBody sIsName) (defScope sIsName) .none kV3 dc3 pm3 an3 cd3 ct3), sl3⟩) (c3 : PySem.W.codeIn K cd3 "is_name" = true) (k3 : PySem.W.keepIn K (.ref f3) = true)
    (a4 : PySem.W.nsIn K mainGlobals "is_text" = some (some (.ref f4))) (l4 : K.lookup f4 = some ⟨oc4, od4, .func (PySem.W.fnOf "is_text" "is_text" (defArgs sIsText) (defBody sIsText) (defScope sIsText) .none kV4 dc4 pm4 an4 cd4 ct4), sl4⟩) (c4 : PySem.W.codeIn K cd4 "is_text" = true) (k4 : PySem.W.keepIn K (.ref f4) = true)
    (a5 : PySem.W.nsIn K mainGlobals "is_row" = some (some (.ref f5))) (l5 : K.lookup f5 = some ⟨oc5, od5, .func (PySem.W.fnOf "is_row" "is_row" (defArgs sRow) (defBody sRow) (defScope sRow) .none kV5 dc5 pm5 an5 cd5 ct5), sl5⟩) (c5 : PySem.W.codeIn K cd5 "is_row" = true) (k5 : PySem.W.keepIn K (.ref f5) = true)
    (a6 : PySem.W.nsIn K mainGlobals "ascends" = some (some (.ref f6))) (l6 : K.lookup f6 = some ⟨oc6, od6, .func (PySem.W.fnOf "ascends" "ascends" (defArgs sAsc) (defBody sAsc) (defScope sAsc) .none kV6 dc6 pm6 an6 cd6 ct6), sl6⟩) (c6 : PySem.W.codeIn K cd6 "ascends" = true) (k6 : PySem.W.keepIn K (.ref f6) = true)
    (a7 : PySem.W.nsIn K mainGlobals "word_of" = some (some (.ref f7))) (l7 : K.lookup f7 = some ⟨oc7, od7, .func (PySem.W.fnOf "word_of" "word_of" (defArgs sWordOf) (defBody sWordOf) (defScope sWordOf) .none kV7 dc7 pm7 an7 cd7 ct7), sl7⟩) (c7 : PySem.W.codeIn K cd7 "word_of" = true) (k7 : PySem.W.keepIn K (.ref f7) = true)
    (a8 : PySem.W.nsIn K mainGlobals "is_pipe" = some (some (.ref f8))) (l8 : K.lookup f8 = some ⟨oc8, od8, .func (PySem.W.fnOf "is_pipe" "is_pipe" (defArgs sIsPipe) (defBody sIsPipe) (defScope sIsPipe) .none kV8 dc8 pm8 an8 cd8 ct8), sl8⟩) (c8 : PySem.W.codeIn K cd8 "is_pipe" = true) (k8 : PySem.W.keepIn K (.ref f8) = true)
    (a9 : PySem.W.nsIn K mainGlobals "is_slot" = some (some (.ref f9))) (l9 : K.lookup f9 = some ⟨oc9, od9, .func (PySem.W.fnOf "is_slot" "is_slot" (defArgs sIsSlot) (defBody sIsSlot) (defScope sIsSlot) .none kV9 dc9 pm9 an9 cd9 ct9), sl9⟩) (c9 : PySem.W.codeIn K cd9 "is_slot" = true) (k9 : PySem.W.keepIn K (.ref f9) = true)
    (a10 : PySem.W.nsIn K mainGlobals "is_where" = some (some (.ref f10))) (l10 : K.lookup f10 = some ⟨oc10, od10, .func (PySem.W.fnOf "is_where" "is_where" (defArgs sIsWhere) (defBody sIsWhere) (defScope sIsWhere) .none kV10 dc10 pm10 an10 cd10 ct10), sl10⟩) (c10 : PySem.W.codeIn K cd10 "is_where" = true) (k10 : PySem.W.keepIn K (.ref f10) = true)
    (a11 : PySem.W.nsIn K mainGlobals "is_kind" = some (some (.ref f11))) (l11 : K.lookup f11 = some ⟨oc11, od11, .func (PySem.W.fnOf "is_kind" "is_kind" (defArgs sIsKind) (defBody sIsKind) (defScope sIsKind) .none kV11 dc11 pm11 an11 cd11 ct11), sl11⟩) (c11 : PySem.W.codeIn K cd11 "is_kind" = true) (k11 : PySem.W.keepIn K (.ref f11) = true)
    (a12 : PySem.W.nsIn K mainGlobals "has_parts" = some (some (.ref f12))) (l12 : K.lookup f12 = some ⟨oc12, od12, .func (PySem.W.fnOf "has_parts" "has_parts" (defArgs sHasParts) (defBody sHasParts) (defScope sHasParts) .none kV12 dc12 pm12 an12 cd12 ct12), sl12⟩) (c12 : PySem.W.codeIn K cd12 "has_parts" = true) (k12 : PySem.W.keepIn K (.ref f12) = true)
    (a13 : PySem.W.nsIn K mainGlobals "is_deed" = some (some (.ref f13))) (l13 : K.lookup f13 = some ⟨oc13, od13, .func (PySem.W.fnOf "is_deed" "is_deed" (defArgs sIsDeed) (defBody sIsDeed) (defScope sIsDeed) .none kV13 dc13 pm13 an13 cd13 ct13), sl13⟩) (c13 : PySem.W.codeIn K cd13 "is_deed" = true) (k13 : PySem.W.keepIn K (.ref f13) = true)
    (a14 : PySem.W.nsIn K mainGlobals "may_have" = some (some (.ref f14))) (l14 : K.lookup f14 = some ⟨oc14, od14, .func (PySem.W.fnOf "may_have" "may_have" (defArgs sMayHave) (defBody sMayHave) (defScope sMayHave) .none kV14 dc14 pm14 an14 cd14 ct14), sl14⟩) (c14 : PySem.W.codeIn K cd14 "may_have" = true) (k14 : PySem.W.keepIn K (.ref f14) = true)
    (a15 : PySem.W.nsIn K mainGlobals "are_flags" = some (some (.ref f15))) (l15 : K.lookup f15 = some ⟨oc15, od15, .func (PySem.W.fnOf "are_flags" "are_flags" (defArgs sAreFlags) (defBody sAreFlags) (defScope sAreFlags) .none kV15 dc15 pm15 an15 cd15 ct15), sl15⟩) (c15 : PySem.W.codeIn K cd15 "are_flags" = true) (k15 : PySem.W.keepIn K (.ref f15) = true)
    (a16 : PySem.W.nsIn K mainGlobals "is_request" = some (some (.ref f16))) (l16 : K.lookup f16 = some ⟨oc16, od16, .func (PySem.W.fnOf "is_request" "is_request" (defArgs sIsRequest) (defBody sIsRequest) (defScope sIsRequest) .none kV16 dc16 pm16 an16 cd16 ct16), sl16⟩) (c16 : PySem.W.codeIn K cd16 "is_request" = true) (k16 : PySem.W.keepIn K (.ref f16) = true)
    (a17 : PySem.W.nsIn K mainGlobals "is_linktimeout" = some (some (.ref f17))) (l17 : K.lookup f17 = some ⟨oc17, od17, .func (PySem.W.fnOf "is_linktimeout" "is_linktimeout" (defArgs sIsLt) (defBody sIsLt) (defScope sIsLt) .none kV17 dc17 pm17 an17 cd17 ct17), sl17⟩) (c17 : PySem.W.codeIn K cd17 "is_linktimeout" = true) (k17 : PySem.W.keepIn K (.ref f17) = true)
    (a18 : PySem.W.nsIn K mainGlobals "binds" = some (some (.ref f18))) (l18 : K.lookup f18 = some ⟨oc18, od18, .func (PySem.W.fnOf "binds" "binds" (defArgs sBinds) (defBody sBinds) (defScope sBinds) .none kV18 dc18 pm18 an18 cd18 ct18), sl18⟩) (c18 : PySem.W.codeIn K cd18 "binds" = true) (k18 : PySem.W.keepIn K (.ref f18) = true)
    (a19 : PySem.W.nsIn K mainGlobals "begins_chain" = some (some (.ref f19))) (l19 : K.lookup f19 = some ⟨oc19, od19, .func (PySem.W.fnOf "begins_chain" "begins_chain" (defArgs sBegins) (defBody sBegins) (defScope sBegins) .none kV19 dc19 pm19 an19 cd19 ct19), sl19⟩) (c19 : PySem.W.codeIn K cd19 "begins_chain" = true) (k19 : PySem.W.keepIn K (.ref f19) = true)
    (a20 : PySem.W.nsIn K mainGlobals "stands_well" = some (some (.ref f20))) (l20 : K.lookup f20 = some ⟨oc20, od20, .func (PySem.W.fnOf "stands_well" "stands_well" (defArgs sStands) (defBody sStands) (defScope sStands) .none kV20 dc20 pm20 an20 cd20 ct20), sl20⟩) (c20 : PySem.W.codeIn K cd20 "stands_well" = true) (k20 : PySem.W.keepIn K (.ref f20) = true)
    (a21 : PySem.W.nsIn K mainGlobals "is_lot" = some (some (.ref f21))) (l21 : K.lookup f21 = some ⟨oc21, od21, .func (PySem.W.fnOf "is_lot" "is_lot" (defArgs sIsLot) (defBody sIsLot) (defScope sIsLot) .none kV21 dc21 pm21 an21 cd21 ct21), sl21⟩) (c21 : PySem.W.codeIn K cd21 "is_lot" = true) (k21 : PySem.W.keepIn K (.ref f21) = true)
    (a22 : PySem.W.nsIn K mainGlobals "_law_take" = some (some (.ref f22))) (l22 : K.lookup f22 = some ⟨oc22, od22, .func (PySem.W.fnOf "_law_take" "_law_take" (defArgs sTake) (defBody sTake) (defScope sTake) .none kV22 dc22 pm22 an22 cd22 ct22), sl22⟩) (c22 : PySem.W.codeIn K cd22 "_law_take" = true) (k22 : PySem.W.keepIn K (.ref f22) = true)
    (a23 : PySem.W.nsIn K mainGlobals "_law_of" = some (some (.ref f23))) (l23 : K.lookup f23 = some ⟨oc23, od23, .func (PySem.W.fnOf "_law_of" "_law_of" (defArgs sOf) (defBody sOf) (defScope sOf) .none kV23 dc23 pm23 an23 cd23 ct23), sl23⟩) (c23 : PySem.W.codeIn K cd23 "_law_of" = true) (k23 : PySem.W.keepIn K (.ref f23) = true)
    (a24 : PySem.W.nsIn K mainGlobals "_law_name" = some (some (.ref f24))) (l24 : K.lookup f24 = some ⟨oc24, od24, .func (PySem.W.fnOf "_law_name" "_law_name" (defArgs sName) (defBody sName) (defScope sName) .none kV24 dc24 pm24 an24 cd24 ct24), sl24⟩) (c24 : PySem.W.codeIn K cd24 "_law_name" = true) (k24 : PySem.W.keepIn K (.ref f24) = true)
    (a25 : PySem.W.nsIn K mainGlobals "_law_names" = some (some (.ref f25))) (l25 : K.lookup f25 = some ⟨oc25, od25, .func (PySem.W.fnOf "_law_names" "_law_names" (defArgs sNames) (defBody sNames) (defScope sNames) .none kV25 dc25 pm25 an25 cd25 ct25), sl25⟩) (c25 : PySem.W.codeIn K cd25 "_law_names" = true) (k25 : PySem.W.keepIn K (.ref f25) = true)
    (a26 : PySem.W.nsIn K mainGlobals "_law_named_setup" = some (some (.ref f26))) (l26 : K.lookup f26 = some ⟨oc26, od26, .func (PySem.W.fnOf "_law_named_setup" "_law_named_setup" (defArgs sNamed) (defBody sNamed) (defScope sNamed) .none kV26 dc26 pm26 an26 cd26 ct26), sl26⟩) (c26 : PySem.W.codeIn K cd26 "_law_named_setup" = true) (k26 : PySem.W.keepIn K (.ref f26) = true)
    (a27 : PySem.W.nsIn K mainGlobals "_law_lists" = some (some (.ref f27))) (l27 : K.lookup f27 = some ⟨oc27, od27, .func (PySem.W.fnOf "_law_lists" "_law_lists" (defArgs sLists) (defBody sLists) (defScope sLists) .none kV27 dc27 pm27 an27 cd27 ct27), sl27⟩) (c27 : PySem.W.codeIn K cd27 "_law_lists" = true) (k27 : PySem.W.keepIn K (.ref f27) = true)
    (a28 : PySem.W.nsIn K mainGlobals "_law_place" = some (some (.ref f28))) (l28 : K.lookup f28 = some ⟨oc28, od28, .func (PySem.W.fnOf "_law_place" "_law_place" (defArgs sPlace) (defBody sPlace) (defScope sPlace) .none kV28 dc28 pm28 an28 cd28 ct28), sl28⟩) (c28 : PySem.W.codeIn K cd28 "_law_place" = true) (k28 : PySem.W.keepIn K (.ref f28) = true)
    (a29 : PySem.W.nsIn K mainGlobals "_law_letters" = some (some (.ref f29))) (l29 : K.lookup f29 = some ⟨oc29, od29, .func (PySem.W.fnOf "_law_letters" "_law_letters" (defArgs sLetters) (defBody sLetters) (defScope sLetters) .none kV29 dc29 pm29 an29 cd29 ct29), sl29⟩) (c29 : PySem.W.codeIn K cd29 "_law_letters" = true) (k29 : PySem.W.keepIn K (.ref f29) = true)
    (a30 : PySem.W.nsIn K mainGlobals "_law_deed" = some (some (.ref f30))) (l30 : K.lookup f30 = some ⟨oc30, od30, .func (PySem.W.fnOf "_law_deed" "_law_deed" (defArgs sDeed) (defBody sDeed) (defScope sDeed) .none kV30 dc30 pm30 an30 cd30 ct30), sl30⟩) (c30 : PySem.W.codeIn K cd30 "_law_deed" = true) (k30 : PySem.W.keepIn K (.ref f30) = true)
    (a31 : PySem.W.nsIn K mainGlobals "_law_ended" = some (some (.ref f31))) (l31 : K.lookup f31 = some ⟨oc31, od31, .func (PySem.W.fnOf "_law_ended" "_law_ended" (defArgs sEnded) (defBody sEnded) (defScope sEnded) .none kV31 dc31 pm31 an31 cd31 ct31), sl31⟩) (c31 : PySem.W.codeIn K cd31 "_law_ended" = true) (k31 : PySem.W.keepIn K (.ref f31) = true)
    (a32 : PySem.W.nsIn K mainGlobals "_law_lot" = some (some (.ref f32))) (l32 : K.lookup f32 = some ⟨oc32, od32, .func (PySem.W.fnOf "_law_lot" "_law_lot" (defArgs sLot) (defBody sLot) (defScope sLot) .none kV32 dc32 pm32 an32 cd32 ct32), sl32⟩) (c32 : PySem.W.codeIn K cd32 "_law_lot" = true) (k32 : PySem.W.keepIn K (.ref f32) = true)
    (a33 : PySem.W.nsIn K mainGlobals "_law_bent" = some (some (.ref f33))) (l33 : K.lookup f33 = some ⟨oc33, od33, .func (PySem.W.fnOf "_law_bent" "_law_bent" (defArgs sBent) (defBody sBent) (defScope sBent) .none kV33 dc33 pm33 an33 cd33 ct33), sl33⟩) (c33 : PySem.W.codeIn K cd33 "_law_bent" = true) (k33 : PySem.W.keepIn K (.ref f33) = true)
    (a34 : PySem.W.nsIn K mainGlobals "_law_row_of" = some (some (.ref f34))) (l34 : K.lookup f34 = some ⟨oc34, od34, .func (PySem.W.fnOf "_law_row_of" "_law_row_of" (defArgs sRowOf) (defBody sRowOf) (defScope sRowOf) .none kV34 dc34 pm34 an34 cd34 ct34), sl34⟩) (c34 : PySem.W.codeIn K cd34 "_law_row_of" = true) (k34 : PySem.W.keepIn K (.ref f34) = true)
    (a35 : PySem.W.nsIn K mainGlobals "_law_is_word" = some (some (.ref f35))) (l35 : K.lookup f35 = some ⟨oc35, od35, .func (PySem.W.fnOf "_law_is_word" "_law_is_word" (defArgs sIsWord) (defBody sIsWord) (defScope sIsWord) .none kV35 dc35 pm35 an35 cd35 ct35), sl35⟩) (c35 : PySem.W.codeIn K cd35 "_law_is_word" = true) (k35 : PySem.W.keepIn K (.ref f35) = true)
    (a36 : PySem.W.nsIn K mainGlobals "_law_whole" = some (some (.ref f36))) (l36 : K.lookup f36 = some ⟨oc36, od36, .func (PySem.W.fnOf "_law_whole" "_law_whole" (defArgs sWhole) (defBody sWhole) (defScope sWhole) .none kV36 dc36 pm36 an36 cd36 ct36), sl36⟩) (c36 : PySem.W.codeIn K cd36 "_law_whole" = true) (k36 : PySem.W.keepIn K (.ref f36) = true)
    (a37 : PySem.W.nsIn K mainGlobals "_law_part_fits" = some (some (.ref f37))) (l37 : K.lookup f37 = some ⟨oc37, od37, .func (PySem.W.fnOf "_law_part_fits" "_law_part_fits" (defArgs sPartFits) (defBody sPartFits) (defScope sPartFits) .none kV37 dc37 pm37 an37 cd37 ct37), sl37⟩) (c37 : PySem.W.codeIn K cd37 "_law_part_fits" = true) (k37 : PySem.W.keepIn K (.ref f37) = true)
    (a38 : PySem.W.nsIn K mainGlobals "_law_shaped" = some (some (.ref f38))) (l38 : K.lookup f38 = some ⟨oc38, od38, .func (PySem.W.fnOf "_law_shaped" "_law_shaped" (defArgs sShaped) (defBody sShaped) (defScope sShaped) .none kV38 dc38 pm38 an38 cd38 ct38), sl38⟩) (c38 : PySem.W.codeIn K cd38 "_law_shaped" = true) (k38 : PySem.W.keepIn K (.ref f38) = true)
    (a39 : PySem.W.nsIn K mainGlobals "_law_shapes" = some (some (.ref f39))) (l39 : K.lookup f39 = some ⟨oc39, od39, .func (PySem.W.fnOf "_law_shapes" "_law_shapes" (defArgs sShapes) (defBody sShapes) (defScope sShapes) .none kV39 dc39 pm39 an39 cd39 ct39), sl39⟩) (c39 : PySem.W.codeIn K cd39 "_law_shapes" = true) (k39 : PySem.W.keepIn K (.ref f39) = true)
    (a40 : PySem.W.nsIn K mainGlobals "_law_is_wish" = some (some (.ref f40))) (l40 : K.lookup f40 = some ⟨oc40, od40, .func (PySem.W.fnOf "_law_is_wish" "_law_is_wish" (defArgs sIsWish) (defBody sIsWish) (defScope sIsWish) .none kV40 dc40 pm40 an40 cd40 ct40), sl40⟩) (c40 : PySem.W.codeIn K cd40 "_law_is_wish" = true) (k40 : PySem.W.keepIn K (.ref f40) = true)
    (a41 : PySem.W.nsIn K mainGlobals "_law_spots" = some (some (.ref f41))) (l41 : K.lookup f41 = some ⟨oc41, od41, .func (PySem.W.fnOf "_law_spots" "_law_spots" (defArgs sSpots) (defBody sSpots) (defScope sSpots) .none kV41 dc41 pm41 an41 cd41 ct41), sl41⟩) (c41 : PySem.W.codeIn K cd41 "_law_spots" = true) (k41 : PySem.W.keepIn K (.ref f41) = true)
    (a42 : PySem.W.nsIn K mainGlobals "_law_flags_right" = some (some (.ref f42))) (l42 : K.lookup f42 = some ⟨oc42, od42, .func (PySem.W.fnOf "_law_flags_right" "_law_flags_right" (defArgs sFlagsR) (defBody sFlagsR) (defScope sFlagsR) .none kV42 dc42 pm42 an42 cd42 ct42), sl42⟩) (c42 : PySem.W.codeIn K cd42 "_law_flags_right" = true) (k42 : PySem.W.keepIn K (.ref f42) = true)
    (a43 : PySem.W.nsIn K mainGlobals "_law_goes_on" = some (some (.ref f43))) (l43 : K.lookup f43 = some ⟨oc43, od43, .func (PySem.W.fnOf "_law_goes_on" "_law_goes_on" (defArgs sGoesOn) (defBody sGoesOn) (defScope sGoesOn) .none kV43 dc43 pm43 an43 cd43 ct43), sl43⟩) (c43 : PySem.W.codeIn K cd43 "_law_goes_on" = true) (k43 : PySem.W.keepIn K (.ref f43) = true)
    (a44 : PySem.W.nsIn K mainGlobals "_law_stands_right" = some (some (.ref f44))) (l44 : K.lookup f44 = some ⟨oc44, od44, .func (PySem.W.fnOf "_law_stands_right" "_law_stands_right" (defArgs sStandsR) (defBody sStandsR) (defScope sStandsR) .none kV44 dc44 pm44 an44 cd44 ct44), sl44⟩) (c44 : PySem.W.codeIn K cd44 "_law_stands_right" = true) (k44 : PySem.W.keepIn K (.ref f44) = true)
    (a45 : PySem.W.nsIn K mainGlobals "_law_is_lot" = some (some (.ref f45))) (l45 : K.lookup f45 = some ⟨oc45, od45, .func (PySem.W.fnOf "_law_is_lot" "_law_is_lot" (defArgs sLawLot) (defBody sLawLot) (defScope sLawLot) .none kV45 dc45 pm45 an45 cd45 ct45), sl45⟩) (c45 : PySem.W.codeIn K cd45 "_law_is_lot" = true) (k45 : PySem.W.keepIn K (.ref f45) = true)
    (a46 : PySem.W.nsIn K mainGlobals "_law_same" = some (some (.ref f46))) (l46 : K.lookup f46 = some ⟨oc46, od46, .func (PySem.W.fnOf "_law_same" "_law_same" (defArgs sSame) (defBody sSame) (defScope sSame) .none kV46 dc46 pm46 an46 cd46 ct46), sl46⟩) (c46 : PySem.W.codeIn K cd46 "_law_same" = true) (k46 : PySem.W.keepIn K (.ref f46) = true)
    (a47 : PySem.W.nsIn K mainGlobals "_law_box" = some (some (.ref f47))) (l47 : K.lookup f47 = some ⟨oc47, od47, .func (PySem.W.fnOf "_law_box" "_law_box" (defArgs sBox) (defBody sBox) (defScope sBox) .none kV47 dc47 pm47 an47 cd47 ct47), sl47⟩) (c47 : PySem.W.codeIn K cd47 "_law_box" = true) (k47 : PySem.W.keepIn K (.ref f47) = true)
    (a48 : PySem.W.nsIn K mainGlobals "_law_known" = some (some (.ref f48))) (l48 : K.lookup f48 = some ⟨oc48, od48, .func (PySem.W.fnOf "_law_known" "_law_known" (defArgs sKnown) (defBody sKnown) (defScope sKnown) .none kV48 dc48 pm48 an48 cd48 ct48), sl48⟩) (c48 : PySem.W.codeIn K cd48 "_law_known" = true) (k48 : PySem.W.keepIn K (.ref f48) = true)
    (a49 : PySem.W.nsIn K mainGlobals "_law_turned" = some (some (.ref f49))) (l49 : K.lookup f49 = some ⟨oc49, od49, .func (PySem.W.fnOf "_law_turned" "_law_turned" (defArgs sTurned) (defBody sTurned) (defScope sTurned) .none kV49 dc49 pm49 an49 cd49 ct49), sl49⟩) (c49 : PySem.W.codeIn K cd49 "_law_turned" = true) (k49 : PySem.W.keepIn K (.ref f49) = true)
    (a50 : PySem.W.nsIn K mainGlobals "_law_right" = some (some (.ref f50))) (l50 : K.lookup f50 = some ⟨oc50, od50, .func (PySem.W.fnOf "_law_right" "_law_right" (defArgs sRight) (defBody sRight) (defScope sRight) .none kV50 dc50 pm50 an50 cd50 ct50), sl50⟩) (c50 : PySem.W.codeIn K cd50 "_law_right" = true) (k50 : PySem.W.keepIn K (.ref f50) = true)
    (a51 : PySem.W.nsIn K mainGlobals "law" = some (some (.ref f51))) (l51 : K.lookup f51 = some ⟨oc51, od51, .func (PySem.W.fnOf "law" "law" (defArgs sLaw) (defBody sLaw) (defScope sLaw) .none kV51 dc51 pm51 an51 cd51 ct51), sl51⟩) (c51 : PySem.W.codeIn K cd51 "law" = true) (k51 : PySem.W.keepIn K (.ref f51) = true)
    (aL : PySem.W.nsIn K mainGlobals "LETTERS" = some (some (.str "abcdefghijklmnopqrstuvwxyz" tk)))
    (aW : PySem.W.nsIn K mainGlobals "WHERES" = some (some (.ref dW))) (lW : K.lookup dW = some ⟨.type "dict", none, .dict esW nW, #[]⟩) (hW : esW.toList.map He.keyOf = He.keysIn w.params ["pipe", "slot"]) (wW : (dW == sysModules) = false)
    (vW0 : PySem.W.nsIn K dW "pipe" = some (some (.ref tW0))) (sW0 : K.lookup tW0 = some ⟨.type "tuple", odW0, .seq itsW0 qW0, oslW0⟩) (uW0 : Vals ((["pipe"] : List Str).map V.str) itsW0.toList ∧ itsW0.size ≤ sizeLine)
    (vW1 : PySem.W.nsIn K dW "slot" = some (some (.ref tW1))) (sW1 : K.lookup tW1 = some ⟨.type "tuple", odW1, .seq itsW1 qW1, oslW1⟩) (uW1 : Vals ((["slot"] : List Str).map V.str) itsW1.toList ∧ itsW1.size ≤ sizeLine)
    (aD : PySem.W.nsIn K mainGlobals "DEEDS" = some (some (.ref dD))) (lD : K.lookup dD = some ⟨.type "dict", none, .dict esD nD, #[]⟩) (hD : esD.toList.map He.keyOf = He.keysIn w.params ["nop", "work", "read", "reads", "write", "shut", "timeout", "linktimeout", "cancel", "cancelall", "update"]) (wD : (dD == sysModules) = false)
    (vD0 : PySem.W.nsIn K dD "nop" = some (some (.ref tD0))) (sD0 : K.lookup tD0 = some ⟨.type "tuple", odD0, .seq itsD0 qD0, oslD0⟩) (uD0 : Vals (([] : List Str).map V.str) itsD0.toList ∧ itsD0.size ≤ sizeLine)
    (vD1 : PySem.W.nsIn K dD "work" = some (some (.ref tD1))) (sD1 : K.lookup tD1 = some ⟨.type "tuple", odD1, .seq itsD1 qD1, oslD1⟩) (uD1 : Vals ((["good"] : List Str).map V.str) itsD1.toList ∧ itsD1.size ≤ sizeLine)
    (vD2 : PySem.W.nsIn K dD "read" = some (some (.ref tD2))) (sD2 : K.lookup tD2 = some ⟨.type "tuple", odD2, .seq itsD2 qD2, oslD2⟩) (uD2 : Vals ((["where", "from 1"] : List Str).map V.str) itsD2.toList ∧ itsD2.size ≤ sizeLine)
    (vD3 : PySem.W.nsIn K dD "reads" = some (some (.ref tD3))) (sD3 : K.lookup tD3 = some ⟨.type "tuple", odD3, .seq itsD3 qD3, oslD3⟩) (uD3 : Vals ((["where", "from 1"] : List Str).map V.str) itsD3.toList ∧ itsD3.size ≤ sizeLine)
    (vD4 : PySem.W.nsIn K dD "write" = some (some (.ref tD4))) (sD4 : K.lookup tD4 = some ⟨.type "tuple", odD4, .seq itsD4 qD4, oslD4⟩) (uD4 : Vals ((["where", "text"] : List Str).map V.str) itsD4.toList ∧ itsD4.size ≤ sizeLine)
    (vD5 : PySem.W.nsIn K dD "shut" = some (some (.ref tD5))) (sD5 : K.lookup tD5 = some ⟨.type "tuple", odD5, .seq itsD5 qD5, oslD5⟩) (uD5 : Vals ((["where"] : List Str).map V.str) itsD5.toList ∧ itsD5.size ≤ sizeLine)
    (vD6 : PySem.W.nsIn K dD "timeout" = some (some (.ref tD6))) (sD6 : K.lookup tD6 = some ⟨.type "tuple", odD6, .seq itsD6 qD6, oslD6⟩) (uD6 : Vals ((["from 0"] : List Str).map V.str) itsD6.toList ∧ itsD6.size ≤ sizeLine)
    (vD7 : PySem.W.nsIn K dD "linktimeout" = some (some (.ref tD7))) (sD7 : K.lookup tD7 = some ⟨.type "tuple", odD7, .seq itsD7 qD7, oslD7⟩) (uD7 : Vals ((["from 0"] : List Str).map V.str) itsD7.toList ∧ itsD7.size ≤ sizeLine)
    (vD8 : PySem.W.nsIn K dD "cancel" = some (some (.ref tD8))) (sD8 : K.lookup tD8 = some ⟨.type "tuple", odD8, .seq itsD8 qD8, oslD8⟩) (uD8 : Vals ((["name"] : List Str).map V.str) itsD8.toList ∧ itsD8.size ≤ sizeLine)
    (vD9 : PySem.W.nsIn K dD "cancelall" = some (some (.ref tD9))) (sD9 : K.lookup tD9 = some ⟨.type "tuple", odD9, .seq itsD9 qD9, oslD9⟩) (uD9 : Vals (([] : List Str).map V.str) itsD9.toList ∧ itsD9.size ≤ sizeLine)
    (vD10 : PySem.W.nsIn K dD "update" = some (some (.ref tD10))) (sD10 : K.lookup tD10 = some ⟨.type "tuple", odD10, .seq itsD10 qD10, oslD10⟩) (uD10 : Vals ((["slot", "pipe or none"] : List Str).map V.str) itsD10.toList ∧ itsD10.size ≤ sizeLine)
    (z0 : PySem.W.nsIn K mainGlobals "int" = some none)
    (z1 : PySem.W.nsIn K mainGlobals "len" = some none)
    (z2 : PySem.W.nsIn K mainGlobals "tuple" = some none)
    (z3 : PySem.W.nsIn K mainGlobals "list" = some none)
    (z4 : PySem.W.nsIn K mainGlobals "range" = some none)
    (z5 : PySem.W.nsIn K mainGlobals "isinstance" = some none)
    (z6 : PySem.W.nsIn K mainGlobals "all" = some none)
    (z7 : PySem.W.nsIn K mainGlobals "zip" = some none)
    (z8 : PySem.W.nsIn K mainGlobals "bool" = some none)
    (z9 : PySem.W.nsIn K mainGlobals "str" = some none)
    (z10 : PySem.W.nsIn K mainGlobals "repr" = some none)
    (z11 : PySem.W.nsIn K mainGlobals "abs" = some none)
    (z12 : PySem.W.nsIn K mainGlobals "min" = some none)
    (z13 : PySem.W.nsIn K mainGlobals "sorted" = some none)
    (z14 : PySem.W.nsIn K mainGlobals "set" = some none)
    (z15 : PySem.W.nsIn K mainGlobals "enumerate" = some none) :
    ∃ fd : FuncData, (∀ (s : Shared) (v : Value), BindsTo s fd ⟨[v], []⟩ [("_law_script", v)]) ∧ ∀ base : Heap, K.In base → base.Ns mainGlobals mg → FnG l.prog w K mg base 12 fa fd ["_law_script"] (spLaw K) := by
  have e := hfa.symm.trans (PySem.W.mg_of X G a51)
  cases e
  have F0 := fun_mk (st := sNum) l0 c0 k0
  have b0 := F0.binds (ps := ["thing", "least"]) fun _ _ _ _ _ _ us hl => match us, hl with | [_, _], _ => rfl
  have m0 := PySem.W.mg_of X G a0
  have F1 := fun_mk (st := sTruth) l1 c1 k1
  have b1 := F1.binds (ps := ["thing"]) fun _ _ _ _ _ _ us hl => match us, hl with | [_], _ => rfl
  have m1 := PySem.W.mg_of X G a1
  have F2 := fun_mk (st := sLets) l2 c2 k2
  have b2 := F2.binds (ps := ["thing", "least"]) fun _ _ _ _ _ _ us hl => match us, hl with | [_, _], _ => rfl
  have m2 := PySem.W.mg_of X G a2
  have F3 := fun_mk (st := sIsName) l3 c3 k3
  have b3 := F3.binds (ps := ["thing"]) fun _ _ _ _ _ _ us hl => match us, hl with | [_], _ => rfl
  have m3 := PySem.W.mg_of X G a3
  have F4 := fun_mk (st := sIsText) l4 c4 k4
  have b4 := F4.binds (ps := ["thing"]) fun _ _ _ _ _ _ us hl => match us, hl with | [_], _ => rfl
  have m4 := PySem.W.mg_of X G a4
  have F5 := fun_mk (st := sRow) l5 c5 k5
  have b5 := F5.binds (ps := ["thing", "many"]) fun _ _ _ _ _ _ us hl => match us, hl with | [_, _], _ => rfl
  have m5 := PySem.W.mg_of X G a5
  have F6 := fun_mk (st := sAsc) l6 c6 k6
  have b6 := F6.binds (ps := ["names"]) fun _ _ _ _ _ _ us hl => match us, hl with | [_], _ => rfl
  have m6 := PySem.W.mg_of X G a6
  have F7 := fun_mk (st := sWordOf) l7 c7 k7
  have b7 := F7.binds (ps := ["thing"]) fun _ _ _ _ _ _ us hl => match us, hl with | [_], _ => rfl
  have m7 := PySem.W.mg_of X G a7
  have F8 := fun_mk (st := sIsPipe) l8 c8 k8
  have b8 := F8.binds (ps := ["setup", "thing"]) fun _ _ _ _ _ _ us hl => match us, hl with | [_, _], _ => rfl
  have m8 := PySem.W.mg_of X G a8
  have F9 := fun_mk (st := sIsSlot) l9 c9 k9
  have b9 := F9.binds (ps := ["setup", "thing"]) fun _ _ _ _ _ _ us hl => match us, hl with | [_, _], _ => rfl
  have m9 := PySem.W.mg_of X G a9
  have F10 := fun_mk (st := sIsWhere) l10 c10 k10
  have b10 := F10.binds (ps := ["setup", "thing"]) fun _ _ _ _ _ _ us hl => match us, hl with | [_, _], _ => rfl
  have m10 := PySem.W.mg_of X G a10
  have F11 := fun_mk (st := sIsKind) l11 c11 k11
  have b11 := F11.binds (ps := ["setup", "part", "kind"]) fun _ _ _ _ _ _ us hl => match us, hl with | [_, _, _], _ => rfl
  have m11 := PySem.W.mg_of X G a11
  have F12 := fun_mk (st := sHasParts) l12 c12 k12
  have b12 := F12.binds (ps := ["setup", "thing", "kinds"]) fun _ _ _ _ _ _ us hl => match us, hl with | [_, _, _], _ => rfl
  have m12 := PySem.W.mg_of X G a12
  have F13 := fun_mk (st := sIsDeed) l13 c13 k13
  have b13 := F13.binds (ps := ["setup", "thing"]) fun _ _ _ _ _ _ us hl => match us, hl with | [_, _], _ => rfl
  have m13 := PySem.W.mg_of X G a13
  have F14 := fun_mk (st := sMayHave) l14 c14 k14
  have b14 := F14.binds (ps := ["deed", "flag"]) fun _ _ _ _ _ _ us hl => match us, hl with | [_, _], _ => rfl
  have m14 := PySem.W.mg_of X G a14
  have F15 := fun_mk (st := sAreFlags) l15 c15 k15
  have b15 := F15.binds (ps := ["deed", "thing"]) fun _ _ _ _ _ _ us hl => match us, hl with | [_, _], _ => rfl
  have m15 := PySem.W.mg_of X G a15
  have F16 := fun_mk (st := sIsRequest) l16 c16 k16
  have b16 := F16.binds (ps := ["setup", "thing"]) fun _ _ _ _ _ _ us hl => match us, hl with | [_, _], _ => rfl
  have m16 := PySem.W.mg_of X G a16
  have F17 := fun_mk (st := sIsLt) l17 c17 k17
  have b17 := F17.binds (ps := ["request"]) fun _ _ _ _ _ _ us hl => match us, hl with | [_], _ => rfl
  have m17 := PySem.W.mg_of X G a17
  have F18 := fun_mk (st := sBinds) l18 c18 k18
  have b18 := F18.binds (ps := ["request"]) fun _ _ _ _ _ _ us hl => match us, hl with | [_], _ => rfl
  have m18 := PySem.W.mg_of X G a18
  have F19 := fun_mk (st := sBegins) l19 c19 k19
  have b19 := F19.binds (ps := ["lot", "at"]) fun _ _ _ _ _ _ us hl => match us, hl with | [_, _], _ => rfl
  have m19 := PySem.W.mg_of X G a19
  have F20 := fun_mk (st := sStands) l20 c20 k20
  have b20 := F20.binds (ps := ["lot", "at"]) fun _ _ _ _ _ _ us hl => match us, hl with | [_, _], _ => rfl
  have m20 := PySem.W.mg_of X G a20
  have F21 := fun_mk (st := sIsLot) l21 c21 k21
  have b21 := F21.binds (ps := ["setup", "thing"]) fun _ _ _ _ _ _ us hl => match us, hl with | [_, _], _ => rfl
  have m21 := PySem.W.mg_of X G a21
  have F22 := fun_mk (st := sTake) l22 c22 k22
  have b22 := F22.binds (ps := ["_law_box_here", "_law_below"]) fun _ _ _ _ _ _ us hl => match us, hl with | [_, _], _ => rfl
  have m22 := PySem.W.mg_of X G a22
  have F23 := fun_mk (st := sOf) l23 c23 k23
  have b23 := F23.binds (ps := ["_law_box_here", "_law_some"]) fun _ _ _ _ _ _ us hl => match us, hl with | [_, _], _ => rfl
  have m23 := PySem.W.mg_of X G a23
  have F24 := fun_mk (st := sName) l24 c24 k24
  have b24 := F24.binds (ps := ["_law_box_here"]) fun _ _ _ _ _ _ us hl => match us, hl with | [_], _ => rfl
  have m24 := PySem.W.mg_of X G a24
  have F25 := fun_mk (st := sNames) l25 c25 k25
  have b25 := F25.binds (ps := ["_law_box_here", "_law_many_so"]) fun _ _ _ _ _ _ us hl => match us, hl with | [_, _], _ => rfl
  have m25 := PySem.W.mg_of X G a25
  have F26 := fun_mk (st := sNamed) l26 c26 k26
  have b26 := F26.binds (ps := ["_law_box_here", "_law_least_so"]) fun _ _ _ _ _ _ us hl => match us, hl with | [_, _], _ => rfl
  have m26 := PySem.W.mg_of X G a26
  have F27 := fun_mk (st := sLists) l27 c27 k27
  have b27 := F27.binds (ps := ["_law_matter"]) fun _ _ _ _ _ _ us hl => match us, hl with | [_], _ => rfl
  have m27 := PySem.W.mg_of X G a27
  have F28 := fun_mk (st := sPlace) l28 c28 k28
  have b28 := F28.binds (ps := ["_law_box_here", "_law_setup_so"]) fun _ _ _ _ _ _ us hl => match us, hl with | [_, _], _ => rfl
  have m28 := PySem.W.mg_of X G a28
  have F29 := fun_mk (st := sLetters) l29 c29 k29
  have b29 := F29.binds (ps := ["_law_box_here", "_law_most_so"]) fun _ _ _ _ _ _ us hl => match us, hl with | [_, _], _ => rfl
  have m29 := PySem.W.mg_of X G a29
  have F30 := fun_mk (st := sDeed) l30 c30 k30
  have b30 := F30.binds (ps := ["_law_box_here", "_law_setup_so", "_law_gone"]) fun _ _ _ _ _ _ us hl => match us, hl with | [_, _, _], _ => rfl
  have m30 := PySem.W.mg_of X G a30
  have F31 := fun_mk (st := sEnded) l31 c31 k31
  have b31 := F31.binds (ps := ["_law_batch"]) fun _ _ _ _ _ _ us hl => match us, hl with | [_], _ => rfl
  have m31 := PySem.W.mg_of X G a31
  have F32 := fun_mk (st := sLot) l32 c32 k32
  have b32 := F32.binds (ps := ["_law_box_here", "_law_setup_so", "_law_tags_so", "_law_gone", "_law_many_so"]) fun _ _ _ _ _ _ us hl => match us, hl with | [_, _, _, _, _], _ => rfl
  have m32 := PySem.W.mg_of X G a32
  have F33 := fun_mk (st := sBent) l33 c33 k33
  have b33 := F33.binds (ps := ["_law_box_here", "_law_bit"]) fun _ _ _ _ _ _ us hl => match us, hl with | [_, _], _ => rfl
  have m33 := PySem.W.mg_of X G a33
  have F34 := fun_mk (st := sRowOf) l34 c34 k34
  have b34 := F34.binds (ps := ["_law_matter", "_law_size"]) fun _ _ _ _ _ _ us hl => match us, hl with | [_, _], _ => rfl
  have m34 := PySem.W.mg_of X G a34
  have F35 := fun_mk (st := sIsWord) l35 c35 k35
  have b35 := F35.binds (ps := ["_law_matter", "_law_most_so"]) fun _ _ _ _ _ _ us hl => match us, hl with | [_, _], _ => rfl
  have m35 := PySem.W.mg_of X G a35
  have F36 := fun_mk (st := sWhole) l36 c36 k36
  have b36 := F36.binds (ps := ["_law_matter", "_law_least_so"]) fun _ _ _ _ _ _ us hl => match us, hl with | [_, _], _ => rfl
  have m36 := PySem.W.mg_of X G a36
  have F37 := fun_mk (st := sPartFits) l37 c37 k37
  have b37 := F37.binds (ps := ["_law_kind_so", "_law_bit"]) fun _ _ _ _ _ _ us hl => match us, hl with | [_, _], _ => rfl
  have m37 := PySem.W.mg_of X G a37
  have F38 := fun_mk (st := sShaped) l38 c38 k38
  have b38 := F38.binds (ps := ["_law_shapes_so", "_law_matter"]) fun _ _ _ _ _ _ us hl => match us, hl with | [_, _], _ => rfl
  have m38 := PySem.W.mg_of X G a38
  have F39 := fun_mk (st := sShapes) l39 c39 k39
  have b39 := F39.binds (ps := []) fun _ _ _ _ _ _ us hl => match us, hl with | [], _ => rfl
  have m39 := PySem.W.mg_of X G a39
  have F40 := fun_mk (st := sIsWish) l40 c40 k40
  have b40 := F40.binds (ps := ["_law_matter"]) fun _ _ _ _ _ _ us hl => match us, hl with | [_], _ => rfl
  have m40 := PySem.W.mg_of X G a40
  have F41 := fun_mk (st := sSpots) l41 c41 k41
  have b41 := F41.binds (ps := ["_law_deed_so"]) fun _ _ _ _ _ _ us hl => match us, hl with | [_], _ => rfl
  have m41 := PySem.W.mg_of X G a41
  have F42 := fun_mk (st := sFlagsR) l42 c42 k42
  have b42 := F42.binds (ps := ["_law_wish"]) fun _ _ _ _ _ _ us hl => match us, hl with | [_], _ => rfl
  have m42 := PySem.W.mg_of X G a42
  have F43 := fun_mk (st := sGoesOn) l43 c43 k43
  have b43 := F43.binds (ps := ["_law_wish"]) fun _ _ _ _ _ _ us hl => match us, hl with | [_], _ => rfl
  have m43 := PySem.W.mg_of X G a43
  have F44 := fun_mk (st := sStandsR) l44 c44 k44
  have b44 := F44.binds (ps := ["_law_batch", "_law_at"]) fun _ _ _ _ _ _ us hl => match us, hl with | [_, _], _ => rfl
  have m44 := PySem.W.mg_of X G a44
  have F45 := fun_mk (st := sLawLot) l45 c45 k45
  have b45 := F45.binds (ps := ["_law_setup_so", "_law_matter"]) fun _ _ _ _ _ _ us hl => match us, hl with | [_, _], _ => rfl
  have m45 := PySem.W.mg_of X G a45
  have F46 := fun_mk (st := sSame) l46 c46 k46
  have b46 := F46.binds (ps := ["_law_found", "_law_due"]) fun _ _ _ _ _ _ us hl => match us, hl with | [_, _], _ => rfl
  have m46 := PySem.W.mg_of X G a46
  have F47 := fun_mk (st := sBox) l47 c47 k47
  have b47 := F47.binds (ps := ["_law_script", "_law_k"]) fun _ _ _ _ _ _ us hl => match us, hl with | [_, _], _ => rfl
  have m47 := PySem.W.mg_of X G a47
  have F48 := fun_mk (st := sKnown) l48 c48 k48
  have b48 := F48.binds (ps := ["_law_setup_so"]) fun _ _ _ _ _ _ us hl => match us, hl with | [_], _ => rfl
  have m48 := PySem.W.mg_of X G a48
  have F49 := fun_mk (st := sTurned) l49 c49 k49
  have b49 := F49.binds (ps := ["_law_box_here", "_law_some"]) fun _ _ _ _ _ _ us hl => match us, hl with | [_, _], _ => rfl
  have m49 := PySem.W.mg_of X G a49
  have F50 := fun_mk (st := sRight) l50 c50 k50
  have b50 := F50.binds (ps := ["_law_box_here"]) fun _ _ _ _ _ _ us hl => match us, hl with | [_], _ => rfl
  have m50 := PySem.W.mg_of X G a50
  have F51 := fun_mk (st := sLaw) l51 c51 k51
  have m51 := PySem.W.mg_of X G a51
  have mW := PySem.W.mg_of X G aW
  have mD := PySem.W.mg_of X G aD
  have mL := PySem.W.mg_of X G aL
  have kI := kb2s (a := "setup") (b := "thing") F21 fun _ _ _ _ _ _ _ _ => ⟨rfl, rfl, rfl⟩
  have y0 := PySem.W.mg_none_of X G z0
  have y1 := PySem.W.mg_none_of X G z1
  have y2 := PySem.W.mg_none_of X G z2
  have y3 := PySem.W.mg_none_of X G z3
  have y4 := PySem.W.mg_none_of X G z4
  have y5 := PySem.W.mg_none_of X G z5
  have y6 := PySem.W.mg_none_of X G z6
  have y7 := PySem.W.mg_none_of X G z7
  have y8 := PySem.W.mg_none_of X G z8
  have y9 := PySem.W.mg_none_of X G z9
  have y10 := PySem.W.mg_none_of X G z10
  have y11 := PySem.W.mg_none_of X G z11
  have y12 := PySem.W.mg_none_of X G z12
  have y13 := PySem.W.mg_none_of X G z13
  have y14 := PySem.W.mg_none_of X G z14
  have y15 := PySem.W.mg_none_of X G z15
  have TW : TabAt K w dW whereTab := by
    refine tab_mk lW hW wW (whereTab_keys) fun z ks hz => ?_
    unfold whereTab at hz
    refine tab_if (C := fun z vs => ∃ a, (∀ H, SqT K H a (vs.map V.str)) ∧ PySem.W.nsIn K dW z = some (some (.ref a))) ?_ (fun hz => ?_) hz
    · exact ⟨_, sq_mk sW0 uW0.1 uW0.2, vW0⟩
    refine tab_if (C := fun z vs => ∃ a, (∀ H, SqT K H a (vs.map V.str)) ∧ PySem.W.nsIn K dW z = some (some (.ref a))) ?_ (fun hz => ?_) hz
    · exact ⟨_, sq_mk sW1 uW1.1 uW1.2, vW1⟩
    exact nomatch hz
  have TD : TabAt K w dD deedTab := by
    refine tab_mk lD hD wD (deedTab_keys) fun z ks hz => ?_
    unfold deedTab at hz
    refine tab_if (C := fun z vs => ∃ a, (∀ H, SqT K H a (vs.map V.str)) ∧ PySem.W.nsIn K dD z = some (some (.ref a))) ?_ (fun hz => ?_) hz
    · exact ⟨_, sq_mk sD0 uD0.1 uD0.2, vD0⟩
    refine tab_if (C := fun z vs => ∃ a, (∀ H, SqT K H a (vs.map V.str)) ∧ PySem.W.nsIn K dD z = some (some (.ref a))) ?_ (fun hz => ?_) hz
    · exact ⟨_, sq_mk sD1 uD1.1 uD1.2, vD1⟩
    refine tab_if (C := fun z vs => ∃ a, (∀ H, SqT K H a (vs.map V.str)) ∧ PySem.W.nsIn K dD z = some (some (.ref a))) ?_ (fun hz => ?_) hz
    · exact ⟨_, sq_mk sD2 uD2.1 uD2.2, vD2⟩
    refine tab_if (C := fun z vs => ∃ a, (∀ H, SqT K H a (vs.map V.str)) ∧ PySem.W.nsIn K dD z = some (some (.ref a))) ?_ (fun hz => ?_) hz
    · exact ⟨_, sq_mk sD3 uD3.1 uD3.2, vD3⟩
    refine tab_if (C := fun z vs => ∃ a, (∀ H, SqT K H a (vs.map V.str)) ∧ PySem.W.nsIn K dD z = some (some (.ref a))) ?_ (fun hz => ?_) hz
    · exact ⟨_, sq_mk sD4 uD4.1 uD4.2, vD4⟩
    refine tab_if (C := fun z vs => ∃ a, (∀ H, SqT K H a (vs.map V.str)) ∧ PySem.W.nsIn K dD z = some (some (.ref a))) ?_ (fun hz => ?_) hz
    · exact ⟨_, sq_mk sD5 uD5.1 uD5.2, vD5⟩
    refine tab_if (C := fun z vs => ∃ a, (∀ H, SqT K H a (vs.map V.str)) ∧ PySem.W.nsIn K dD z = some (some (.ref a))) ?_ (fun hz => ?_) hz
    · exact ⟨_, sq_mk sD6 uD6.1 uD6.2, vD6⟩
    refine tab_if (C := fun z vs => ∃ a, (∀ H, SqT K H a (vs.map V.str)) ∧ PySem.W.nsIn K dD z = some (some (.ref a))) ?_ (fun hz => ?_) hz
    · exact ⟨_, sq_mk sD7 uD7.1 uD7.2, vD7⟩
    refine tab_if (C := fun z vs => ∃ a, (∀ H, SqT K H a (vs.map V.str)) ∧ PySem.W.nsIn K dD z = some (some (.ref a))) ?_ (fun hz => ?_) hz
    · exact ⟨_, sq_mk sD8 uD8.1 uD8.2, vD8⟩
    refine tab_if (C := fun z vs => ∃ a, (∀ H, SqT K H a (vs.map V.str)) ∧ PySem.W.nsIn K dD z = some (some (.ref a))) ?_ (fun hz => ?_) hz
    · exact ⟨_, sq_mk sD9 uD9.1 uD9.2, vD9⟩
    refine tab_if (C := fun z vs => ∃ a, (∀ H, SqT K H a (vs.map V.str)) ∧ PySem.W.nsIn K dD z = some (some (.ref a))) ?_ (fun hz => ?_) hz
    · exact ⟨_, sq_mk sD10 uD10.1 uD10.2, vD10⟩
    exact nomatch hz
  refine ⟨PySem.W.fnOf "law" "law" (defArgs sLaw) (defBody sLaw) (defScope sLaw) .none kV51 dc51 pm51 an51 cd51 ct51, fun s v => .of_eq rfl, fun base _ _ => ?_⟩
  have g0 : FnOk l.prog w K mg base CX0 1 f0 _ ["thing", "least"] (spNum K) := ok_num (k := 0) F0 y5 y0 y8
  have g1 : FnOk l.prog w K mg base CX0 1 f1 _ ["thing"] (spTruth K) := ok_truth (k := 0) F1
  have g2 : FnOk l.prog w K mg base CX0 1 f2 _ ["thing", "least"] (spLets K) := ok_lets (k := 0) F2 y5 y1 y9 y6 mL
  have g3 : FnOk l.prog w K mg base CX0 2 f3 _ ["thing"] (spIsName K) := ok_isName (k := 0) F3 F2 b2 m2 g2 y1
  have g4 : FnOk l.prog w K mg base CX0 2 f4 _ ["thing"] (spIsText K) := ok_isText (k := 0) F4 F2 b2 m2 g2 y1
  have g5 : FnOk l.prog w K mg base CX0 1 f5 _ ["thing", "many"] (spRow K) := ok_row (k := 0) F5 y5 y1 y2
  have g6 : FnOk l.prog w K mg base CX0 1 f6 _ ["names"] (spAsc K) := ok_asc (k := 0) F6 y6 y7
  have g7 : FnOk l.prog w K mg base CX0 1 f7 _ ["thing"] (spWordOf K) := ok_wordOf (k := 0) F7 y5 y1 y2 y9
  have g8 : FnOk l.prog w K mg base CX0 1 f8 _ ["setup", "thing"] (spIsPipe K) := ok_isPipe (k := 0) F8
  have g9 : FnOk l.prog w K mg base CX0 2 f9 _ ["setup", "thing"] (spIsSlot K) := ok_isSlot (k := 0) F9 F0 b0 m0 g0 y1
  have g10 : FnOk l.prog w K mg base CX0 3 f11 _ ["setup", "part", "kind"] (spKind K ok0) := ok_isKind0 (k := 0) F11 F8 b8 m8 (g8.mono (by decide)) F9 b9 m9 g9
  have g11 : FnOk l.prog w K mg base CX0 4 f12 _ ["setup", "thing", "kinds"] (spParts K ok0) := ok_hasParts (k := 0) F12 F11 b11 m11 g10 y1 y6 y7
  have g12 : FnOk l.prog w K mg base CX0 5 f10 _ ["setup", "thing"] (spIsWhere K) := ok_isWhere (k := 0) F10 F7 b7 m7 (g7.mono (by decide)) F12 b12 m12 g11 mW TW
  have g13 : FnOk l.prog w K mg base CX0 6 f11 _ ["setup", "part", "kind"] (spKind K ok1) := ok_isKind1 (k := 5) F11 F1 b1 m1 (g1.mono (by decide)) F0 b0 m0 (g0.mono (by decide)) F3 b3 m3 (g3.mono (by decide)) F4 b4 m4 (g4.mono (by decide)) F8 b8 m8 (g8.mono (by decide)) F9 b9 m9 (g9.mono (by decide)) F10 b10 m10 g12
  have g14 : FnOk l.prog w K mg base CX0 7 f12 _ ["setup", "thing", "kinds"] (spParts K ok1) := ok_hasParts (k := 3) F12 F11 b11 m11 g13 y1 y6 y7
  have g15 : FnOk l.prog w K mg base CX0 8 f13 _ ["setup", "thing"] (spIsDeed K) := ok_isDeed (k := 7) F13 F7 b7 m7 (g7.mono (by decide)) F12 b12 m12 g14 mD TD
  have g16 : FnOk l.prog w K mg base CX0 1 f14 _ ["deed", "flag"] (spMayHave K) := ok_mayHave (k := 0) F14
  have g17 : FnOk l.prog w K mg base CX0 2 f15 _ ["deed", "thing"] (spAreFlags K) := ok_areFlags (k := 1) F15 F14 b14 m14 g16 F6 b6 m6 g6 y5 y2 y6
  have g18 : FnOk l.prog w K mg base CX0 9 f16 _ ["setup", "thing"] (spIsRequest K) := ok_isRequest (k := 8) F16 F5 b5 m5 (g5.mono (by decide)) F3 b3 m3 (g3.mono (by decide)) F13 b13 m13 g15 F15 b15 m15 (g17.mono (by decide))
  have g19 : FnOk l.prog w K mg base CX0 1 f17 _ ["request"] (spLtA K) := ok_ltA (k := 0) F17
  have g20 : FnOk l.prog w K mg base CX0 1 f18 _ ["request"] (spBindsA K) := ok_bindsA (k := 0) F18
  have g21 : FnOk l.prog w K mg base CX0 2 f19 _ ["lot", "at"] (spBegins K) := ok_begins (k := 1) F19 F17 b17 m17 g19 F18 b18 m18 g20 y1
  have g22 : FnOk l.prog w K mg base CX0 3 f20 _ ["lot", "at"] (spStands K) := ok_stands (k := 2) F20 F17 b17 m17 (g19.mono (by decide)) F18 b18 m18 (g20.mono (by decide)) F19 b19 m19 g21 y1
  have g23 : FnOk l.prog w K mg base CX0 10 f21 _ ["setup", "thing"] (spIsLot K) := ok_isLot (k := 9) F21 F16 b16 m16 g18 F20 b20 m20 (g22.mono (by decide)) y5 y2 y6 y1 y14 y4
  have g24 : FnOk l.prog w K mg base CX0 1 f22 _ ["_law_box_here", "_law_below"] spTake := ok_take (k := 0) F22 y0
  have g25 : FnOk l.prog w K mg base CX0 2 f23 _ ["_law_box_here", "_law_some"] (spOf K) := ok_of (k := 0) F23 F22 b22 m22 y0 y1
  have g26 : FnOk l.prog w K mg base CX0 3 f24 _ ["_law_box_here"] (spName K) := ok_name (k := 0) F24 F22 b22 m22 F23 b23 m23 y0 y1 y4
  have g27 : FnOk l.prog w K mg base CX0 4 f25 _ ["_law_box_here", "_law_many_so"] (spNames K) := ok_names (k := 0) F25 F24 b24 m24 g26 y4
  have g28 : FnOk l.prog w K mg base CX0 5 f26 _ ["_law_box_here", "_law_least_so"] (spNamed K) := ok_named (k := 0) F26 F22 b22 m22 (g24.mono (by decide)) F23 b23 m23 (g25.mono (by decide)) F25 b25 m25 g27 y4 y2 y13
  have g29 : FnOk l.prog w K mg base CX0 4 f30 _ ["_law_box_here", "_law_setup_so", "_law_gone"] (spDeed K) := ok_deed (k := 0) F30 F22 b22 m22 F23 b23 m23 F28 b28 m28 F29 b29 m29 y0 y1 y4
  have g30 : FnOk l.prog w K mg base CX0 1 f31 _ ["_law_batch"] (spEnded K) := ok_ended (k := 0) F31 y2
  have g31 : FnOk l.prog w K mg base CX0 5 f32 _ ["_law_box_here", "_law_setup_so", "_law_tags_so", "_law_gone", "_law_many_so"] (spLot K) := ok_lot (k := 0) F32 F22 b22 m22 (g24.mono (by decide)) F30 b30 m30 g29 F31 b31 m31 (g30.mono (by decide)) y4 y2 y13
  have g32 : FnOk l.prog w K mg base CX0 8 f27 _ ["_law_matter"] (spLists K 7) := ok_lists F27 b27 m27 y5 y3 y2 7
  have g33 : FnOk l.prog w K mg base CX0 8 f46 _ ["_law_found", "_law_due"] (spSame K 8) := ok_same F46 b46 m46 y5 y3 y2 y1 y6 y7 y8 y9 y0 8
  have g34 : FnOk l.prog w K mg base CX0 7 f33 _ ["_law_box_here", "_law_bit"] (spBentB K 5) := ok_bentB F33 b33 m33 F22 b22 m22 F23 b23 m23 y0 y1 y5 y3 y2 y8 y9 5
  have g35 : FnOk l.prog w K mg base CX0 1 f34 _ ["_law_matter", "_law_size"] (spRow K) := ok_rowOf (k := 0) F34 y5 y1 y2
  have g36 : FnOk l.prog w K mg base CX0 1 f35 _ ["_law_matter", "_law_most_so"] (spIsWord K) := ok_isWord (k := 0) F35 y5 y1 y9
  have g37 : FnOk l.prog w K mg base CX0 1 f36 _ ["_law_matter", "_law_least_so"] (spNum K) := ok_whole (k := 0) F36 y5 y0 y8
  have g38 : FnOk l.prog w K mg base CX0 2 f37 _ ["_law_kind_so", "_law_bit"] (spFits K) := ok_fits (k := 1) F37 F34 b34 m34 g35 F35 b35 m35 g36 F36 b36 m36 g37 y5 y9 y8 y0
  have g39 : FnOk l.prog w K mg base CX0 3 f38 _ ["_law_shapes_so", "_law_matter"] (spShaped K) := ok_shaped (k := 2) F38 F37 b37 m37 g38 y5 y2 y9 y1 y6 y4
  have g40 : FnOk l.prog w K mg base CX0 1 f39 _ [] spShapes := ok_shapes (k := 0) F39
  have g41 : FnOk l.prog w K mg base CX0 4 f40 _ ["_law_matter"] (spWish K) := ok_isWish (k := 3) F40 F34 b34 m34 (g35.mono (by decide)) F35 b35 m35 (g36.mono (by decide)) F39 b39 m39 (g40.mono (by decide)) F38 b38 m38 g39 y5 y2 y9 y6
  have g42 : FnOk l.prog w K mg base CX0 2 f41 _ ["_law_deed_so"] (spSpots K) := ok_spots (k := 1) F41 F39 b39 m39 g40 y0
  have g43 : FnOk l.prog w K mg base CX0 1 f42 _ ["_law_wish"] (spFlagsR K) := ok_flagsR (k := 0) F42 y3 y13 y14
  have g44 : FnOk l.prog w K mg base CX0 1 f43 _ ["_law_wish"] (spBindsA K) := ok_goesOn (k := 0) F43
  have g45 : FnOk l.prog w K mg base CX0 2 f44 _ ["_law_batch", "_law_at"] (spStandsL K) := ok_standsR (k := 1) F44 F43 b43 m43 g44 y1
  have g46 : FnOk l.prog w K mg base CX0 5 f45 _ ["_law_setup_so", "_law_matter"] (spLawLot K) := ok_lawLot (k := 4) F45 F40 b40 m40 g41 F41 b41 m41 (g42.mono (by decide)) F42 b42 m42 (g43.mono (by decide)) F44 b44 m44 (g45.mono (by decide)) y5 y2 y6 y1 y14 y15
  have g47 : FnOk l.prog w K mg base CX0 1 f48 _ ["_law_setup_so"] (spKnown K) := ok_known (k := 0) F48 y1
  have g48 : FnOk l.prog w K mg base CX0 2 f49 _ ["_law_box_here", "_law_some"] (spTurned K) := ok_turned (k := 1) F49 F22 b22 m22 g24 y1 y3 y2
  have gRight : FnG l.prog w K mg base 11 f50 _ ["_law_box_here"] spRight := ok_right F50 F26 b26 m26 (g28.mono (by decide)) F27 b27 m27 (g32.mono (by decide)) F25 b25 m25 (g27.mono (by decide)) F24 b24 m24 (g26.mono (by decide)) F32 b32 m32 (g31.mono (by decide)) F21 b21 kI m21 g23 F49 b49 m49 (g48.mono (by decide)) F33 b33 m33 (g34.mono (by decide)) F48 b48 m48 (g47.mono (by decide)) F45 b45 m45 (g46.mono (by decide)) F46 b46 m46 (g33.mono (by decide)) y4 y10
  exact ok_law F51 F50 b50 m50 gRight F47 b47 m47 y0 y1 y11 y12 y4 y6
end KV

open PySem PySem.W PyProof.Rows
set_option maxRecDepth 100000 in
set_option maxHeartbeats 0 in
theorem PySem.Challenge.cw_endonce_k01_lots_holds : PySem.Challenge.rw_endonce_k01_lots.Holds := by
  w_on; o_law; k_head; (case hw => w_witness2)
  k_fill
  refine KV.walkG (l := PySem.Challenge.rw_endonce_k01_lots) (n := 63) (k := 12) (x := "_law_script") (sp := fun w => KV.spLaw _) rfl (by decide) rfl ⟨rfl, by decide, by decide⟩ (fun w h Y => PySem.W.kIn_of Y) ?F (fun _ _ a ns hl _ hS => ⟨a, ns, rfl, hS, hl, fun _ => rfl⟩)
  case F =>
    intro w mg fa h KX G hmg
    refine' KV.all_mk KX G hmg ?a0 ?l0 ?c0 ?k0 ?a1 ?l1 ?c1 ?k1 ?a2 ?l2 ?c2 ?k2 ?a3 ?l3 ?c3 ?k3 ?a4 ?l4 ?c4 ?k4 ?a5 ?l5 ?c5 ?k5 ?a6 ?l6 ?c6 ?k6 ?a7 ?l7 ?c7 ?k7 ?a8 ?l8 ?c8 ?k8 ?a9 ?l9 ?c9 ?k9 ?a10 ?l10 ?c10 ?k10 ?a11 ?l11 ?c11 ?k11 ?a12 ?l12 ?c12 ?k12 ?a13 ?l13 ?c13 ?k13 ?a14 ?l14 ?c14 ?k14 ?a15 ?l15 ?c15 ?k15 ?a16 ?l16 ?c16 ?k16 ?a17 ?l17 ?c17 ?k17 ?a18 ?l18 ?c18 ?k18 ?a19 ?l19 ?c19 ?k19 ?a20 ?l20 ?c20 ?k20 ?a21 ?l21 ?c21 ?k21 ?a22 ?l22 ?c22 ?k22 ?a23 ?l23 ?c23 ?k23 ?a24 ?l24 ?c24 ?k24 ?a25 ?l25 ?c25 ?k25 ?a26 ?l26 ?c26 ?k26 ?a27 ?l27 ?c27 ?k27 ?a28 ?l28 ?c28 ?k28 ?a29 ?l29 ?c29 ?k29 ?a30 ?l30 ?c30 ?k30 ?a31 ?l31 ?c31 ?k31 ?a32 ?l32 ?c32 ?k32 ?a33 ?l33 ?c33 ?k33 ?a34 ?l34 ?c34 ?k34 ?a35 ?l35 ?c35 ?k35 ?a36 ?l36 ?c36 ?k36 ?a37 ?l37 ?c37 ?k37 ?a38 ?l38 ?c38 ?k38 ?a39 ?l39 ?c39 ?k39 ?a40 ?l40 ?c40 ?k40 ?a41 ?l41 ?c41 ?k41 ?a42 ?l42 ?c42 ?k42 ?a43 ?l43 ?c43 ?k43 ?a44 ?l44 ?c44 ?k44 ?a45 ?l45 ?c45 ?k45 ?a46 ?l46 ?c46 ?k46 ?a47 ?l47 ?c47 ?k47 ?a48 ?l48 ?c48 ?k48 ?a49 ?l49 ?c49 ?k49 ?a50 ?l50 ?c50 ?k50 ?a51 ?l51 ?c51 ?k51 ?aL ?aW ?lW ?hW ?wW ?vW0 ?sW0 ?uW0 ?vW1 ?sW1 ?uW1 ?aD ?lD ?hD ?wD ?vD0 ?sD0 ?uD0 ?vD1 ?sD1 ?uD1 ?vD2 ?sD2 ?uD2 ?vD3 ?sD3 ?uD3 ?vD4 ?sD4 ?uD4 ?vD5 ?sD5 ?uD5 ?vD6 ?sD6 ?uD6 ?vD7 ?sD7 ?uD7 ?vD8 ?sD8 ?uD8 ?vD9 ?sD9 ?uD9 ?vD10 ?sD10 ?uD10 ?z0 ?z1 ?z2 ?z3 ?z4 ?z5 ?z6 ?z7 ?z8 ?z9 ?z10 ?z11 ?z12 ?z13 ?z14 ?z15
    (case a0 => k_is)
    (case l0 => k_is)
    (case c0 => k_is)
    (case k0 => k_is)
    (case a1 => k_is)
    (case l1 => k_is)
    (case c1 => k_is)
    (case k1 => k_is)
    (case a2 => k_is)
    (case l2 => k_is)
    (case c2 => k_is)
    (case k2 => k_is)
    (case a3 => k_is)
    (case l3 => k_is)
    (case c3 => k_is)
    (case k3 => k_is)
    (case a4 => k_is)
    (case l4 => k_is)
    (case c4 => k_is)
    (case k4 => k_is)
    (case a5 => k_is)
    (case l5 => k_is)
    (case c5 => k_is)
    (case k5 => k_is)
    (case a6 => k_is)
    (case l6 => k_is)
    (case c6 => k_is)
    (case k6 => k_is)
    (case a7 => k_is)
    (case l7 => k_is)
    (case c7 => k_is)
    (case k7 => k_is)
    (case a8 => k_is)
    (case l8 => k_is)
    (case c8 => k_is)
    (case k8 => k_is)
    (case a9 => k_is)
    (case l9 => k_is)
    (case c9 => k_is)
    (case k9 => k_is)
    (case a10 => k_is)
    (case l10 => k_is)
    (case c10 => k_is)
    (case k10 => k_is)
    (case a11 => k_is)
    (case l11 => k_is)
    (case c11 => k_is)
    (case k11 => k_is)
    (case a12 => k_is)
    (case l12 => k_is)
    (case c12 => k_is)
    (case k12 => k_is)
    (case a13 => k_is)
    (case l13 => k_is)
    (case c13 => k_is)
    (case k13 => k_is)
    (case a14 => k_is)
    (case l14 => k_is)
    (case c14 => k_is)
    (case k14 => k_is)
    (case a15 => k_is)
    (case l15 => k_is)
    (case c15 => k_is)
    (case k15 => k_is)
    (case a16 => k_is)
    (case l16 => k_is)
    (case c16 => k_is)
    (case k16 => k_is)
    (case a17 => k_is)
    (case l17 => k_is)
    (case c17 => k_is)
    (case k17 => k_is)
    (case a18 => k_is)
    (case l18 => k_is)
    (case c18 => k_is)
    (case k18 => k_is)
    (case a19 => k_is)
    (case l19 => k_is)
    (case c19 => k_is)
    (case k19 => k_is)
    (case a20 => k_is)
    (case l20 => k_is)
    (case c20 => k_is)
    (case k20 => k_is)
    (case a21 => k_is)
    (case l21 => k_is)
    (case c21 => k_is)
    (case k21 => k_is)
    (case a22 => k_is)
    (case l22 => k_is)
    (case c22 => k_is)
    (case k22 => k_is)
    (case a23 => k_is)
    (case l23 => k_is)
    (case c23 => k_is)
    (case k23 => k_is)
    (case a24 => k_is)
    (case l24 => k_is)
    (case c24 => k_is)
    (case k24 => k_is)
    (case a25 => k_is)
    (case l25 => k_is)
    (case c25 => k_is)
    (case k25 => k_is)
    (case a26 => k_is)
    (case l26 => k_is)
    (case c26 => k_is)
    (case k26 => k_is)
    (case a27 => k_is)
    (case l27 => k_is)
    (case c27 => k_is)
    (case k27 => k_is)
    (case a28 => k_is)
    (case l28 => k_is)
    (case c28 => k_is)
    (case k28 => k_is)
    (case a29 => k_is)
    (case l29 => k_is)
    (case c29 => k_is)
    (case k29 => k_is)
    (case a30 => k_is)
    (case l30 => k_is)
    (case c30 => k_is)
    (case k30 => k_is)
    (case a31 => k_is)
    (case l31 => k_is)
    (case c31 => k_is)
    (case k31 => k_is)
    (case a32 => k_is)
    (case l32 => k_is)
    (case c32 => k_is)
    (case k32 => k_is)
    (case a33 => k_is)
    (case l33 => k_is)
    (case c33 => k_is)
    (case k33 => k_is)
    (case a34 => k_is)
    (case l34 => k_is)
    (case c34 => k_is)
    (case k34 => k_is)
    (case a35 => k_is)
    (case l35 => k_is)
    (case c35 => k_is)
    (case k35 => k_is)
    (case a36 => k_is)
    (case l36 => k_is)
    (case c36 => k_is)
    (case k36 => k_is)
    (case a37 => k_is)
    (case l37 => k_is)
    (case c37 => k_is)
    (case k37 => k_is)
    (case a38 => k_is)
    (case l38 => k_is)
    (case c38 => k_is)
    (case k38 => k_is)
    (case a39 => k_is)
    (case l39 => k_is)
    (case c39 => k_is)
    (case k39 => k_is)
    (case a40 => k_is)
    (case l40 => k_is)
    (case c40 => k_is)
    (case k40 => k_is)
    (case a41 => k_is)
    (case l41 => k_is)
    (case c41 => k_is)
    (case k41 => k_is)
    (case a42 => k_is)
    (case l42 => k_is)
    (case c42 => k_is)
    (case k42 => k_is)
    (case a43 => k_is)
    (case l43 => k_is)
    (case c43 => k_is)
    (case k43 => k_is)
    (case a44 => k_is)
    (case l44 => k_is)
    (case c44 => k_is)
    (case k44 => k_is)
    (case a45 => k_is)
    (case l45 => k_is)
    (case c45 => k_is)
    (case k45 => k_is)
    (case a46 => k_is)
    (case l46 => k_is)
    (case c46 => k_is)
    (case k46 => k_is)
    (case a47 => k_is)
    (case l47 => k_is)
    (case c47 => k_is)
    (case k47 => k_is)
    (case a48 => k_is)
    (case l48 => k_is)
    (case c48 => k_is)
    (case k48 => k_is)
    (case a49 => k_is)
    (case l49 => k_is)
    (case c49 => k_is)
    (case k49 => k_is)
    (case a50 => k_is)
    (case l50 => k_is)
    (case c50 => k_is)
    (case k50 => k_is)
    (case a51 => k_is)
    (case l51 => k_is)
    (case c51 => k_is)
    (case k51 => k_is)
    (case aL => k_is)
    (case aW => k_is)
    (case lW => k_is)
    (case hW => rfl)
    (case wW => rfl)
    (case vW0 => k_is)
    (case sW0 => k_is)
    (case uW0 => exact ⟨.cons ⟨_, rfl⟩ (.nil), by decide⟩)
    (case vW1 => k_is)
    (case sW1 => k_is)
    (case uW1 => exact ⟨.cons ⟨_, rfl⟩ (.nil), by decide⟩)
    (case aD => k_is)
    (case lD => k_is)
    (case hD => rfl)
    (case wD => rfl)
    (case vD0 => k_is)
    (case sD0 => k_is)
    (case uD0 => exact ⟨.nil, by decide⟩)
    (case vD1 => k_is)
    (case sD1 => k_is)
    (case uD1 => exact ⟨.cons ⟨_, rfl⟩ (.nil), by decide⟩)
    (case vD2 => k_is)
    (case sD2 => k_is)
    (case uD2 => exact ⟨.cons ⟨_, rfl⟩ (.cons ⟨_, rfl⟩ (.nil)), by decide⟩)
    (case vD3 => k_is)
    (case sD3 => k_is)
    (case uD3 => exact ⟨.cons ⟨_, rfl⟩ (.cons ⟨_, rfl⟩ (.nil)), by decide⟩)
    (case vD4 => k_is)
    (case sD4 => k_is)
    (case uD4 => exact ⟨.cons ⟨_, rfl⟩ (.cons ⟨_, rfl⟩ (.nil)), by decide⟩)
    (case vD5 => k_is)
    (case sD5 => k_is)
    (case uD5 => exact ⟨.cons ⟨_, rfl⟩ (.nil), by decide⟩)
    (case vD6 => k_is)
    (case sD6 => k_is)
    (case uD6 => exact ⟨.cons ⟨_, rfl⟩ (.nil), by decide⟩)
    (case vD7 => k_is)
    (case sD7 => k_is)
    (case uD7 => exact ⟨.cons ⟨_, rfl⟩ (.nil), by decide⟩)
    (case vD8 => k_is)
    (case sD8 => k_is)
    (case uD8 => exact ⟨.cons ⟨_, rfl⟩ (.nil), by decide⟩)
    (case vD9 => k_is)
    (case sD9 => k_is)
    (case uD9 => exact ⟨.nil, by decide⟩)
    (case vD10 => k_is)
    (case sD10 => k_is)
    (case uD10 => exact ⟨.cons ⟨_, rfl⟩ (.cons ⟨_, rfl⟩ (.nil)), by decide⟩)
    (case z0 => k_is)
    (case z1 => k_is)
    (case z2 => k_is)
    (case z3 => k_is)
    (case z4 => k_is)
    (case z5 => k_is)
    (case z6 => k_is)
    (case z7 => k_is)
    (case z8 => k_is)
    (case z9 => k_is)
    (case z10 => k_is)
    (case z11 => k_is)
    (case z12 => k_is)
    (case z13 => k_is)
    (case z14 => k_is)
    (case z15 => k_is)
