import PyProof.Rows.All
import Wide.All
import OpenK.AllK
import Wide.FinOn
import PyProof.ReprRoads
import HandS.ForMost
import HandS.IsInst
import HandS.NoneIn
import HandS.TupAny
import HandS.Style
import HandS.Defaults
import HandS.Zip
import HandS.Walk
import HandS.Deep
import OpenK.KMore
import HandS.SetFor
import HandS.SetTxt0
import HandS.Strs
import PyProof.Rows.SortShellAny
import HandS.Text
import HandS.Steps
import HandS.MapJoin
import HandS.More
import HandS.RevTup
import PySem.Challenge.RW_endonce_k00_setups
set_option Elab.async false
set_option linter.all false
set_option maxRecDepth 100000
set_option maxHeartbeats 4000000
namespace KV
open PySem PySem.Spec PyProof.Rows L2
/-! ### heaps -/
theorem same_upd {H : Hp} {p : Addr} {o : HO} (h : H p = none) : Same H (upd H p o) := fun b x e => by
  rw [upd_ne (ne_of_none e h)]
  exact e
theorem same_seqT {K : PySem.W.Frag} {H H' : Hp} {a : Addr} {xs : List V} (e : Same H H') (h : SqT K H a xs) : SqT K H' a xs := by
  rcases h with (h | ⟨o, h⟩) | h
  · exact .inl (.inl (e _ _ h))
  · exact .inl (.inr ⟨o, e _ _ h⟩)
  · exact .inr h
mutual
theorem dp_same {K : PySem.W.Frag} {H H' : Hp} (e : Same H H') : ∀ {v : V} {d : PyData}, Dp K H v d → Dp K H' v d
  | _, _, .non => .non
  | _, _, .bl b => .bl b
  | _, _, .int i => .int i
  | _, _, .str x => .str x
  | _, _, .lst h1 h2 => .lst (e.seq h1) (dps_same e h2)
  | _, _, .tup h1 h2 => .tup (same_seqT e h1) (dps_same e h2)
theorem dps_same {K : PySem.W.Frag} {H H' : Hp} (e : Same H H') : ∀ {vs : List V} {ds : List PyData}, DpAll K H vs ds → DpAll K H' vs ds
  | _, _, .nil => .nil
  | _, _, .cons h1 h2 => .cons (dp_same e h1) (dps_same e h2)
end
theorem dps_len {K : PySem.W.Frag} {H : Hp} : ∀ {vs : List V} {ds : List PyData}, DpAll K H vs ds → vs.length = ds.length
  | _, _, .nil => rfl
  | _, _, .cons _ h => congrArg (· + 1) (dps_len h)
theorem dps_get {K : PySem.W.Frag} {H : Hp} : ∀ {vs : List V} {ds : List PyData} {i : Nat} {v : V}, DpAll K H vs ds → vs[i]? = some v → ∃ d, ds[i]? = some d ∧ Dp K H v d
  | _, _, 0, _, .cons h1 _, e => ⟨_, rfl, by cases e; exact h1⟩
  | _, _, i + 1, _, .cons _ h2, e => dps_get (i := i) h2 e
theorem dps_get' {K : PySem.W.Frag} {H : Hp} : ∀ {vs : List V} {ds : List PyData} {i : Nat} {d : PyData}, DpAll K H vs ds → ds[i]? = some d → ∃ v, vs[i]? = some v ∧ Dp K H v d
  | _, _, 0, _, .cons h1 _, e => ⟨_, rfl, by cases e; exact h1⟩
  | _, _, i + 1, _, .cons _ h2, e => dps_get' (i := i) h2 e
theorem dps_app {K : PySem.W.Frag} {H : Hp} : ∀ {vs ws : List V} {ds es : List PyData}, DpAll K H vs ds → DpAll K H ws es → DpAll K H (vs ++ ws) (ds ++ es)
  | _, _, _, _, .nil, h => h
  | _, _, _, _, .cons h1 h2, h => .cons h1 (dps_app h2 h)
theorem dps_drop {K : PySem.W.Frag} {H : Hp} : ∀ {vs : List V} {ds : List PyData} (n : Nat), DpAll K H vs ds → DpAll K H (vs.drop n) (ds.drop n)
  | _, _, 0, h => h
  | _, _, n + 1, .nil => .nil
  | _, _, n + 1, .cons _ h => dps_drop n h
theorem dps_take {K : PySem.W.Frag} {H : Hp} : ∀ {vs : List V} {ds : List PyData} (n : Nat), DpAll K H vs ds → DpAll K H (vs.take n) (ds.take n)
  | _, _, 0, _ => .nil
  | _, _, n + 1, .nil => .nil
  | _, _, n + 1, .cons h1 h => .cons h1 (dps_take n h)
/-- the heap without some objects -/
def hide (B : List Addr) (H : Hp) : Hp := fun c => if c ∈ B then none else H c
theorem hide_out {B : List Addr} {H : Hp} {c : Addr} (h : c ∉ B) : hide B H c = H c := if_neg h
theorem hide_in {B : List Addr} {H : Hp} {c : Addr} (h : c ∈ B) : hide B H c = none := if_pos h
theorem hide_some {B : List Addr} {H : Hp} {c : Addr} {o : HO} (h : hide B H c = some o) : c ∉ B ∧ H c = some o := by
  by_cases e : c ∈ B
  · rw [hide_in e] at h; cases h
  · rw [hide_out e] at h; exact ⟨e, h⟩
theorem hide_same (B : List Addr) (H : Hp) : Same (hide B H) H := fun c o h => (hide_some h).2
theorem hide_nil (H : Hp) : hide [] H = H := funext fun c => hide_out List.not_mem_nil
/-- all but these is as it was -/
def SameX (B : List Addr) (H H' : Hp) : Prop := ∀ c o, c ∉ B → H c = some o → H' c = some o
theorem SameX.refl (B : List Addr) (H : Hp) : SameX B H H := fun _ _ _ h => h
theorem SameX.trans {B : List Addr} {H H1 H2 : Hp} (h1 : SameX B H H1) (h2 : SameX B H1 H2) : SameX B H H2 := fun c o n h => h2 c o n (h1 c o n h)
theorem SameX.of {B : List Addr} {H H' : Hp} (h : Same H H') : SameX B H H' := fun c o _ e => h c o e
theorem SameX.sub {B C : List Addr} {H H' : Hp} (h : SameX B H H') (s : ∀ b ∈ B, b ∈ C) : SameX C H H' := fun c o n e => h c o (fun z => n (s c z)) e
theorem SameX.same {H H' : Hp} (h : SameX [] H H') : Same H H' := fun c o e => h c o List.not_mem_nil e
theorem SameX.hide {B C : List Addr} {H H' : Hp} (h : SameX C H H') (s : ∀ b ∈ C, b ∈ B) : Same (hide B H) (hide B H') := fun c o e => by
  obtain ⟨n, e⟩ := hide_some e
  rw [hide_out n]
  exact h c o (fun z => n (s c z)) e
theorem sameX_upd {B : List Addr} {b : Addr} {H : Hp} {o : HO} (h : b ∈ B) : SameX B H (upd H b o) := fun c z n e => by
  have k : c ≠ b := fun q => n (by rw [q]; exact h)
  rw [upd_ne k]
  exact e
/-- a new object among the hidden ones -/
theorem SameX.enter {B C : List Addr} {H H' : Hp} {D : Addr} (h : SameX (D :: C) H H') (s : ∀ b ∈ C, b ∈ B) (n : H D = none) : Same (KV.hide B H) (KV.hide (D :: B) H') := fun c o e => by
  obtain ⟨k, e⟩ := hide_some e
  have cD : c ≠ D := ne_of_none e n
  have kD : c ∉ D :: B := fun z => (List.mem_cons.mp z).elim cD k
  rw [hide_out kD]
  exact h c o (fun z => (List.mem_cons.mp z).elim cD fun z => k (s c z)) e
/-- the new object goes: what was told without it stands with it -/
theorem hide_leave {B : List Addr} {H : Hp} {D : Addr} : Same (hide (D :: B) H) (hide B H) := fun c o e => by
  obtain ⟨k, e⟩ := hide_some e
  rw [hide_out (fun z => k (List.mem_cons_of_mem _ z))]
  exact e
theorem hide_upd {B : List Addr} {p : Addr} {H : Hp} {o : HO} (n : p ∉ B) : hide B (upd H p o) = upd (hide B H) p o := by
  funext c
  by_cases e : c ∈ B
  · have k : c ≠ p := fun z => n (by rw [← z]; exact e)
    rw [hide_in e, upd_ne k, hide_in e]
  · rw [hide_out e]
    by_cases q : c = p
    · subst q
      rw [upd_same, upd_same]
    · rw [upd_ne q, upd_ne q, hide_out e]
theorem hide_upd_in {B : List Addr} {p : Addr} {H : Hp} {o : HO} (n : p ∈ B) : hide B (upd H p o) = hide B H := by
  funext c
  by_cases e : c ∈ B
  · rw [hide_in e, hide_in e]
  · have k : c ≠ p := fun z => e (by rw [z]; exact n)
    rw [hide_out e, hide_out e, upd_ne k]
/-- these stand -/
def Live (B : List Addr) (H : Hp) : Prop := ∀ b ∈ B, H b ≠ none
theorem Live.nil (H : Hp) : Live [] H := fun _ h => absurd h List.not_mem_nil
theorem Live.new {B : List Addr} {H : Hp} {p : Addr} (h : Live B H) (e : H p = none) : p ∉ B := fun z => h p z e
theorem Live.same {B : List Addr} {H H' : Hp} (h : Live B H) (s : Same H H') : Live B H' := fun b hb e => by
  cases q : H b with
  | none => exact h b hb q
  | some o => rw [s b o q] at e; cases e
theorem Live.cons {B : List Addr} {H : Hp} {D : Addr} {o : HO} (h : Live B H) (e : H D = some o) : Live (D :: B) H := fun b hb => by
  rcases List.mem_cons.mp hb with rfl | hb
  · rw [e]; exact fun z => nomatch z
  · exact h b hb
theorem Live.tail {B : List Addr} {H : Hp} {D : Addr} (h : Live (D :: B) H) : Live B H := fun b hb => h b (List.mem_cons_of_mem _ hb)
theorem Live.upd {B : List Addr} {H : Hp} {p : Addr} {o : HO} (h : Live B H) : Live B (upd H p o) := fun b hb => by
  by_cases e : b = p
  · rw [e, upd_same]; exact fun z => nomatch z
  · rw [upd_ne e]; exact h b hb
/-- the box of draws: below n draws by its third number -/
def BoxAt (H : Hp) (b : Addr) (n : Nat) : Prop := ∃ x y c : Int, H b = some (.lst [.int x, .int y, .int c]) ∧ 0 ≤ y ∧ y < 2 ^ 62 ∧ 0 ≤ c ∧ c ≤ n
theorem BoxAt.le {H : Hp} {b : Addr} {n m : Nat} (h : BoxAt H b n) (k : n ≤ m) : BoxAt H b m := by
  obtain ⟨x, y, c, h1, h2, h3, h4, h5⟩ := h
  exact ⟨x, y, c, h1, h2, h3, h4, by omega⟩
theorem BoxAt.same {H H' : Hp} {b : Addr} {n : Nat} (h : BoxAt H b n) (e : Same H H') : BoxAt H' b n := by
  obtain ⟨x, y, c, h1, h2⟩ := h
  exact ⟨x, y, c, e _ _ h1, h2⟩
theorem BoxAt.new {H : Hp} {b p : Addr} {n : Nat} (h : BoxAt H b n) (e : H p = none) : p ≠ b := by
  obtain ⟨x, y, c, h1, _⟩ := h
  exact fun z => by rw [z, h1] at e; cases e
/-! ### data -/
mutual
def tupD : PyData → PyData
  | .list xs => .tuple (tupDs xs)
  | .tuple xs => .tuple (tupDs xs)
  | .none => .none
  | .bool b => .bool b
  | .int i => .int i
  | .str s => .str s
  | .dict k => .dict k
def tupDs : List PyData → List PyData
  | [] => []
  | d :: ds => tupD d :: tupDs ds
end
mutual
def lstD : PyData → PyData
  | .list xs => .list (lstDs xs)
  | .tuple xs => .list (lstDs xs)
  | .none => .none
  | .bool b => .bool b
  | .int i => .int i
  | .str s => .str s
  | .dict k => .dict k
def lstDs : List PyData → List PyData
  | [] => []
  | d :: ds => lstD d :: lstDs ds
end
mutual
/-- no dict, at most so deep, no sequence longer than 1000 -/
def okD : PyData → Nat → Bool
  | .list xs, n => decide (0 < n) && decide (xs.length ≤ 1000) && okDs xs (n - 1)
  | .tuple xs, n => decide (0 < n) && decide (xs.length ≤ 1000) && okDs xs (n - 1)
  | .none, _ => true
  | .bool _, _ => true
  | .int _, _ => true
  | .str _, _ => true
  | .dict _, _ => false
def okDs : List PyData → Nat → Bool
  | [], _ => true
  | d :: ds, n => okD d n && okDs ds n
end
theorem tupDs_map : ∀ ds, tupDs ds = ds.map tupD
  | [] => by simp [tupDs]
  | d :: ds => by simp [tupDs, tupDs_map ds]
theorem lstDs_map : ∀ ds, lstDs ds = ds.map lstD
  | [] => by simp [lstDs]
  | d :: ds => by simp [lstDs, lstDs_map ds]
theorem tupDs_len (ds : List PyData) : (tupDs ds).length = ds.length := by rw [tupDs_map, List.length_map]
theorem lstDs_len (ds : List PyData) : (lstDs ds).length = ds.length := by rw [lstDs_map, List.length_map]
theorem okDs_all : ∀ ds n, okDs ds n = ds.all fun d => okD d n
  | [], _ => by simp [okDs]
  | d :: ds, n => by simp [okDs, okDs_all ds n]
theorem okDs_get {ds : List PyData} {n i : Nat} {d : PyData} (h : okDs ds n = true) (e : ds[i]? = some d) : okD d n = true := by
  rw [okDs_all, List.all_eq_true] at h
  exact h d (List.mem_of_getElem? e)
mutual
theorem tup_lst : ∀ d, tupD (lstD d) = tupD d
  | .list xs => by simp only [lstD, tupD, tup_lsts xs]
  | .tuple xs => by simp only [lstD, tupD, tup_lsts xs]
  | .none => by simp only [lstD]
  | .bool b => by simp only [lstD]
  | .int i => by simp only [lstD]
  | .str s => by simp only [lstD]
  | .dict k => by simp only [lstD]
theorem tup_lsts : ∀ ds, tupDs (lstDs ds) = tupDs ds
  | [] => by simp only [lstDs]
  | d :: ds => by simp only [lstDs, tupDs, tup_lst d, tup_lsts ds]
end
mutual
theorem ok_lst : ∀ d n, okD (lstD d) n = okD d n
  | .list xs, n => by simp only [lstD, okD, ok_lsts xs, lstDs_len]
  | .tuple xs, n => by simp only [lstD, okD, ok_lsts xs, lstDs_len]
  | .none, n => by simp only [lstD]
  | .bool b, n => by simp only [lstD]
  | .int i, n => by simp only [lstD]
  | .str s, n => by simp only [lstD]
  | .dict k, n => by simp only [lstD]
theorem ok_lsts : ∀ ds n, okDs (lstDs ds) n = okDs ds n
  | [], n => by simp only [lstDs]
  | d :: ds, n => by simp only [lstDs, okDs, ok_lst d, ok_lsts ds]
end
mutual
theorem ok_tup : ∀ d n, okD (tupD d) n = okD d n
  | .list xs, n => by simp only [tupD, okD, ok_tups xs, tupDs_len]
  | .tuple xs, n => by simp only [tupD, okD, ok_tups xs, tupDs_len]
  | .none, n => by simp only [tupD]
  | .bool b, n => by simp only [tupD]
  | .int i, n => by simp only [tupD]
  | .str s, n => by simp only [tupD]
  | .dict k, n => by simp only [tupD]
theorem ok_tups : ∀ ds n, okDs (tupDs ds) n = okDs ds n
  | [], n => by simp only [tupDs]
  | d :: ds, n => by simp only [tupDs, okDs, ok_tup d, ok_tups ds]
end
mutual
/-- how many sequences -/
def nodesD : PyData → Nat
  | .list xs => nodesDs xs + 1
  | .tuple xs => nodesDs xs + 1
  | .none => 0
  | .bool _ => 0
  | .int _ => 0
  | .str _ => 0
  | .dict _ => 0
def nodesDs : List PyData → Nat
  | [] => 0
  | d :: ds => nodesD d + nodesDs ds
end
theorem ok_seq {xs : List PyData} {n : Nat} {d : PyData} (hd : d = .list xs ∨ d = .tuple xs) (h : okD d n = true) : ∃ m, n = m + 1 ∧ xs.length ≤ 1000 ∧ okDs xs m = true := by
  have h' : (decide (0 < n) && decide (xs.length ≤ 1000) && okDs xs (n - 1)) = true := by
    rcases hd with rfl | rfl <;> simpa only [okD] using h
  simp only [Bool.and_eq_true, decide_eq_true_eq] at h'
  obtain ⟨⟨h1, h2⟩, h3⟩ := h'
  exact ⟨n - 1, by omega, h2, h3⟩
/-- an atom -/
def isAtom : PyData → Bool
  | .none => true
  | .bool _ => true
  | .int _ => true
  | .str _ => true
  | _ => false
def isSeq : PyData → Bool
  | .list _ => true
  | .tuple _ => true
  | _ => false
/-! ### the class of a value -/
def tyD : PyData → String
  | .none => "NoneType"
  | .bool _ => "bool"
  | .int _ => "int"
  | .str _ => "str"
  | .list _ => "list"
  | .tuple _ => "tuple"
  | .dict _ => "dict"
theorem dp_ty {K : PySem.W.Frag} {H : Hp} {v : V} {d : PyData} (h : Dp K H v d) : TyX K H v (.type (tyD d)) := by
  cases h with
  | non => exact .base .non
  | bl b => exact .base (.bl b)
  | int i => exact .base (.int i)
  | str x => exact .base (.str x)
  | lst h1 _ =>
    rcases h1 with (h | ⟨o, h⟩) | ⟨o, its, n, h, hc, _⟩
    · exact .base (.lst h)
    · exact .base (.frz h)
    · exact .kList h hc
  | tup h1 _ =>
    rcases h1 with (h | ⟨o, h⟩) | ⟨o, its, n, h, hc, _⟩
    · exact .base (.tup h)
    · exact .fTuple h
    · exact .kTuple h hc
theorem kit_lt {K : PySem.W.Frag} {a : String} {r1 r2 : Bool} (h1 : kitB a "list" = some r1) (h2 : kitB a "tuple" = some r2) : PySem.W.kitAny K (.type a) [.type "list", .type "tuple"] = some (r1 || r2) := by
  cases r1 with
  | true => exact kitAny_cons (kit_ty h1) (fun z => nomatch z) fun _ => rfl
  | false =>
    cases r2 with
    | true => exact kitAny_cons (kit_ty h1) (fun _ => kitAny_cons (kit_ty h2) (fun z => nomatch z) fun _ => rfl) fun z => nomatch z
    | false => exact kitAny_cons (kit_ty h1) (fun _ => kitAny_cons (kit_ty h2) (fun _ => kitAny_nil) fun z => nomatch z) fun z => nomatch z
theorem kit_seq {K : PySem.W.Frag} : ∀ (d : PyData), PySem.W.kitAny K (.type (tyD d)) [.type "list", .type "tuple"] = some (isSeq d)
  | .none => kit_lt (a := "NoneType") (r1 := false) (r2 := false) (by decide +kernel) (by decide +kernel)
  | .bool _ => kit_lt (a := "bool") (r1 := false) (r2 := false) (by decide +kernel) (by decide +kernel)
  | .int _ => kit_lt (a := "int") (r1 := false) (r2 := false) (by decide +kernel) (by decide +kernel)
  | .str _ => kit_lt (a := "str") (r1 := false) (r2 := false) (by decide +kernel) (by decide +kernel)
  | .list _ => kit_lt (a := "list") (r1 := true) (r2 := false) (by decide +kernel) (by decide +kernel)
  | .tuple _ => kit_lt (a := "tuple") (r1 := false) (r2 := true) (by decide +kernel) (by decide +kernel)
  | .dict _ => kit_lt (a := "dict") (r1 := false) (r2 := false) (by decide +kernel) (by decide +kernel)
theorem cls_lt : Paired ClsV [.ty "list", .ty "tuple"] [.type "list", .type "tuple"] := .cons (.ty _) (.cons (.ty _) .nil)
theorem tup_atom : ∀ {d : PyData}, isSeq d = false → tupD d = d
  | .none, _ => by simp only [tupD]
  | .bool _, _ => by simp only [tupD]
  | .int _, _ => by simp only [tupD]
  | .str _, _ => by simp only [tupD]
  | .dict _, _ => by simp only [tupD]
theorem lst_atom : ∀ {d : PyData}, isSeq d = false → lstD d = d
  | .none, _ => by simp only [lstD]
  | .bool _, _ => by simp only [lstD]
  | .int _, _ => by simp only [lstD]
  | .str _, _ => by simp only [lstD]
  | .dict _, _ => by simp only [lstD]
/-- a sequence, of either kind -/
theorem dp_seq {K : PySem.W.Frag} {H : Hp} {v : V} {d : PyData} (h : Dp K H v d) (hs : isSeq d = true) : ∃ a xs ds, v = .ref a ∧ (SqL K H a xs ∧ d = .list ds ∨ SqT K H a xs ∧ d = .tuple ds) ∧ DpAll K H xs ds := by
  cases h with
  | lst h1 h2 => exact ⟨_, _, _, rfl, .inl ⟨h1, rfl⟩, h2⟩
  | tup h1 h2 => exact ⟨_, _, _, rfl, .inr ⟨h1, rfl⟩, h2⟩
  | non => exact nomatch hs
  | bl _ => exact nomatch hs
  | int _ => exact nomatch hs
  | str _ => exact nomatch hs
theorem dps_snoc {K : PySem.W.Frag} {H : Hp} {vs : List V} {ds : List PyData} {v : V} {d : PyData} (h : DpAll K H vs ds) (h1 : Dp K H v d) : DpAll K H (vs ++ [v]) (ds ++ [d]) := dps_app h (.cons h1 .nil)
theorem take_snoc {α : Type} {l : List α} {i : Nat} {x : α} (h : l[i]? = some x) : l.take (i + 1) = l.take i ++ [x] := by
  rw [List.take_add_one, h]
  rfl
/-! ### rules -/
section
variable {X : Cx} {pos : Pos}
/-- unpacking a list or a tuple -/
def gSeq (K : PySem.W.Frag) (n : Nat) (t : TGs) : TG := fun v σ H Q => ∃ a xs, v = .ref a ∧ (SqT K H a xs ∨ SqL K H a xs) ∧ xs.length = n ∧ t xs σ H Q
theorem pg_seq {es : List Expr} {k : Nat} {t : TGs} {n : Nat} (hc : X.calm = true) (h : PGs X es t)
    (hn : (assignEach es X.env).length = n := by rfl) (hst : (assignEach es X.env).findIdx? (·.1) = none := by rfl) : PG X (.Tuple es k pos) (gSeq X.K n t) := by
  refine ⟨fun pins s σ H v u Q I r hw => ?_⟩
  obtain ⟨a, xs, e1, hq | hq, hl, hw⟩ := hw
  · exact (pg_tup hc h hn hst).run pins s σ H v u Q I r ⟨a, xs, e1, hq, hl, hw⟩
  · exact (pg_unl hc h hn hst).run pins s σ H v u Q I r ⟨a, xs, e1, hq, hl, hw⟩
/-- walking a list or a tuple -/
def iSeq (K : PySem.W.Frag) (tl : TE) : TI := fun σ H R => iList K tl σ H R ∨ iTup K tl σ H R
theorem pi_seq {tg l : Expr} {tl : TE} (hl : PE X l tl) : PI X tg l (iSeq X.K tl) := by
  refine ⟨fun pins s σ H R I h => ?_⟩
  rcases h with h | h
  · exact (pi_list hl).run pins s σ H R I h
  · exact (pi_tup hl).run pins s σ H R I h
/-- isinstance(x, (list, tuple)) of data -/
def rIsSeq (K : PySem.W.Frag) : List V → Hp → VK → Prop := fun vs H Q => ∃ v tp d, vs = [v, .ref tp] ∧ H tp = some (.tup [.ty "list", .ty "tuple"]) ∧ Dp K H v d ∧ Q (.bl (isSeq d)) H
theorem cr_isSeq : CallR X (.builtin "isinstance") (rIsSeq X.K) := by
  intro pins s σ H vs us Q I r h
  obtain ⟨v, tp, d, rfl, ht, hd, q⟩ := h
  exact call_isiT pins s σ H _ us Q I r ⟨v, tp, _, _, _, _, rfl, ht, cls_lt, dp_ty hd, kit_seq d, q⟩
/-- repr of data -/
def rRepr (K : PySem.W.Frag) : List V → Hp → VK → Prop := fun vs H Q => ∃ v d, vs = [v] ∧ (∃ a, v = .ref a) ∧ Dp K H v d ∧ d.showable = true ∧ d.hasDict = false ∧ d.depth ≤ 60 ∧ d.shown.length ≤ sizeLine ∧ Q (.str d.shown) H
theorem cr_repr (hg : X.A.guards = some []) (hu : X.A.units + 64 < cLine) : CallR X (.builtin "repr") (rRepr X.K) := by
  intro pins s σ H vs us Q I r h
  obtain ⟨v, d, rfl, ⟨a, rfl⟩, hd, hs, hn, hdp, hz, q⟩ := h
  obtain ⟨u, rfl, ru⟩ := vals1 r
  cases (show u = Value.ref a from ru)
  obtain ⟨as, rd⟩ := Dp.reads I d (.ref a) (.ref a) hd rfl
  exact repr_of_reads' rd hs (fun z => by rw [hn] at z; cases z) hg (by omega) (fun _ _ e => e) (fun h' u tk hk => ⟨.str d.shown, H, I.kept hk, ⟨_, rfl⟩, q⟩) hz
end
end KV

namespace KV
open PySem PySem.Spec PyProof.Rows L2
/-! ### promises kept where no repr is under way -/
structure FnG (P : Program) (w : World) (K : PySem.W.Frag) (mg : Str → Option Value) (base : Heap) (k : Nat) (f : Addr) (fd : FuncData) (ps : List Str) (sp : Sp) : Prop where
  size : ∀ vs H Q E, sp vs H Q E → vs.length = ps.length
  goes : ∀ (A : Around) (outer : List Env) (s : Shared) (H : Hp) (args : Args) (us : List Value) (vs : List V) (Q : VK) (E : XK), A.guards = some [] → Room k A →
    Env0 P w K mg base A outer s H → BindsTo s fd args (ps.zip us) → Vals vs us → sp vs H Q E →
    codeAny (model P w) A (.call (.ref f) args) (CR CX0 outer P w H s Q E) s
theorem FnG.of {P : Program} {w : World} {K : PySem.W.Frag} {mg : Str → Option Value} {base : Heap} {k : Nat} {f : Addr} {fd : FuncData} {ps : List Str} {sp : Sp}
    (F : FnOk P w K mg base CX0 k f fd ps sp) : FnG P w K mg base k f fd ps sp :=
  ⟨F.len, fun A o s H args us vs Q E _ hr e0 hb r h => F.run A o s H args us vs Q E hr e0 hb r h⟩
/-- a def by its body, where no repr is under way -/
theorem okG {P : Program} {w : World} {K : PySem.W.Frag} {mg : Str → Option Value} {base : Heap} {x qual : Str} {st : Stmt} {f : Addr} {fd : FuncData} {N ps : List Str} {k : Nat} {sp : Sp}
    (F : Fun K x qual st f fd) (S : FnScope N ps (defScope st)) (size : ∀ vs H Q E, sp vs H Q E → vs.length = ps.length)
    (body : ∀ (cd : Value) (A : Around) (outer : List Env) (s : Shared) (H : Hp) (vs : List V) (Q : VK) (E : XK), A.guards = some [] →
      Room k (A.deeper (envOfC qual (defScope st) s.heap.objs.size f cd)) → sp vs H Q E →
      ∃ t, PSs (cxOf CX0 P w K mg base N qual (defScope st) f cd A outer s H E).nox (defBody st) t ∧ t { nx := fun _ H' => Q .non H', rt := Q } (start N vs) H) :
    FnG P w K mg base (k + 1) f fd ps sp := by
  obtain ⟨oc, od, kV, doc, pm, an, cd, ct, osl, rfl, lk, hcd⟩ := F.ex
  refine ⟨size, fun A outer s H args us vs Q E hgd room e0 binds rv hp => ?_⟩
  have inK : K.In s.heap := e0.mod.kin.keeps fun b o z => (e0.bs b o z).1
  have noLim : s.heap.NoLimit := e0.mod.nolimit.keeps fun b o z => (e0.bs b o z).1
  refine codeAny_call_function room.depth (inK _ _ lk) rfl S.co S.gen rfl (PySem.W.codeRec_of inK hcd) (binds _ _ _ _ ?_)
  refine wpAny_newFunctionEnv_cells S.kind (fun z hz => ?_) fun env he s1 x1 => ?_
  · obtain ⟨zn, zv⟩ := z
    exact (S.par zn (List.of_mem_zip hz).1).imp id fun q => ⟨q, PySem.W.cellsFrom_some _ _ _ (.inl q)⟩
  · subst he
    refine ⟨noLim.keeps x1.toInCall.keep, codeAny_func ?_⟩
    obtain ⟨t, ht, hq⟩ := body cd A outer s H vs Q E hgd (room.deeper _) hp
    have I := inv_start (CX := CX0) (P := P) (w := w) (K := K) (mg := mg) (base := base) (E := E) S room.hd e0 (size _ _ _ _ hp) rv x1
    refine wpAny_mono (ht.nox.run [] s1 (start N vs) H _ I hq) (fun fl s' hs => ?_) fun e s' hs => hs
    cases fl with
    | ret u =>
      obtain ⟨v, σ', H', J, q1, q2⟩ := hs
      exact ⟨v, H', J.os, J.bare, J.base, J.hok, q1, q2⟩
    | next =>
      obtain ⟨σ', H', J, q2⟩ := hs
      exact ⟨V.non, H', J.os, J.bare, J.base, J.hok, rfl, q2⟩
    | brk => obtain ⟨_, _, _, z⟩ := hs; exact z.elim
    | cont => obtain ⟨_, _, _, z⟩ := hs; exact z.elim
section
variable {X : Cx} {k : Nat} {f : Addr} {fd : FuncData} {ps ks : List Str} {sp : Sp} {E : XK} {x : Str} {p pos : Pos} {e : Expr} {es : List Expr} {t tk : TA} {kws : List Keyword}
/-- f(e, ..) of such a def -/
theorem pe_callG (F : FnG X.prog X.w X.K X.mg X.base k f fd ps sp) (hgd : X.A.guards = some []) (hr : Room k X.A) (hg : Gl X x) (hm : X.mg x = some (.ref f)) (hk : PySem.W.keepIn X.K (.ref f) = true) (hb : Binds X.K fd ps [])
    (ha : PA X (e :: es) t) (hdb : (x == ("__debug__" : Str)) = false := by decide) (he : starEach (e :: es) X.env = (false, eval e X.env) :: starEach es X.env := by rfl)
    (hpl : (backTo pos (starEach es X.env)).any (·.1) = false := by rfl) : PE X (.Call (.Name x p) (e :: es) [] pos) (tCall sp [] E0 t) := by
  refine ⟨fun pins s σ H Q I h => wpAny_Call_Name_kw (ld_glob I hg hm ?_ hdb)⟩
  refine PySem.W.callWith_K (h₀ := X.base) I.ok.mod.kin hk (thn (ha.run pos pins s σ H _ I h) fun us s1 hv => ?_) he hpl
  obtain ⟨vs, H1, I1, rv, q⟩ := hv
  have q0 : sp vs H1 Q E0 := by
    have q1 : sp (vs ++ []) H1 Q E0 := q
    rw [List.append_nil] at q1
    exact q1
  refine ⟨I1.kIn, wpAny_call (codeAny_mono (F.goes X.A X.stack s1 H1 ⟨us, []⟩ us vs Q E0 hgd hr I1.env0 ?_ rv q0) fun r s' hq => ?_)⟩
  · have hb1 := hb s1 us I1.kIn (by rw [List.append_nil, ← rv.length]; exact F.size _ _ _ _ q0)
    rw [List.append_nil] at hb1
    exact hb1
  · cases r with
    | error z => exact (show False from hq).elim
    | ok fl =>
      cases fl with
      | ret u => exact I1.after hq
      | next => exact (show False from hq).elim
      | brk => exact (show False from hq).elim
      | cont => exact (show False from hq).elim
variable {g : List Value → List Value → List Value} {gV : List V → List V → List V}
/-- f(k = v, ..) without positional values -/
theorem pe_callK0 (F : FnOk X.prog X.w X.K X.mg X.base CX0 k f fd ps sp) (hr : Room k X.A) (hg : Gl X x) (hm : X.mg x = some (.ref f)) (hk : PySem.W.keepIn X.K (.ref f) = true) (hb : KBinds X.K fd ps ks g gV)
    (hkw : PK X kws tk) (hall : (backToKw pos (keywordEach kws X.env)).all (·.1.isSome) = true := by rfl) (hks : (backToKw pos (keywordEach kws X.env)).filterMap (·.1) = ks := by rfl)
    (hdb : (x == ("__debug__" : Str)) = false := by decide)
    (hpl : ((backTo pos (starEach [] X.env)).any (·.1) || (backToKw pos (keywordEach kws X.env)).any (·.1.isNone)) = false := by rfl) :
    PE X (.Call (.Name x p) [] kws pos) (tCallK sp gV E0 tNil tk) := by
  refine ⟨fun pins s σ H Q I h => wpAny_Call_Name_kw (ld_glob I hg hm ?_ hdb)⟩
  refine PySem.W.callWith_KW0 (h₀ := X.base) I.ok.mod.kin hk hall (thn (hkw.run pos pins s σ H _ I h) fun ws s2 hv => ?_) hpl
  obtain ⟨zs, H2, I2, rz, q2⟩ := hv
  refine ⟨I2.kIn, ?_⟩
  rw [hks]
  exact run_fnk (us := []) (vs := []) F hr hb pass0 I2 .nil rz q2
end
/-- one parameter, given by its name -/
theorem kb1 {K : PySem.W.Frag} {x qual : Str} {st : Stmt} {f : Addr} {fd : FuncData} {a : Str} (F : Fun K x qual st f fd)
    (h : ∀ (kV doc pm : Value) (an : Option Addr) (cdv ct u : Value), bindArgs (PySem.W.fnOf x qual (defArgs st) (defBody st) (defScope st) .none kV doc pm an cdv ct) ⟨[], [(a, u)]⟩ = pure [(a, u)] ∧
      bindArgs (PySem.W.fnOf x qual (defArgs st) (defBody st) (defScope st) .none kV doc pm an cdv ct) ⟨[u], []⟩ = pure [(a, u)]) :
    KBinds K fd [a] [a] (fun us ws => us ++ ws) (fun vs zs => vs ++ zs) := by
  obtain ⟨oc, od, kV, doc, pm, an, cdv, ct, osl, rfl, lk, hcd⟩ := F.ex
  refine ⟨fun s us ws _ hl => ?_, fun r1 r2 => r1.append r2⟩
  match us, ws, hl with
  | [], [u], _ => exact .of_eq (h kV doc pm an cdv ct u).1
  | [u], [], _ => exact .of_eq (h kV doc pm an cdv ct u).2
/-! ### the head: the law's promise at the heap behind the top -/
theorem law_goes {P : Program} {w : World} {K : PySem.W.Frag} {mg mb : Str → Option Value} {k : Nat} {fa a : Addr} {fd : FuncData} {x : Str} {sp : Sp} {s₁ : Shared} {vs : List Value} {ns : List Int}
    (inK : K.In s₁.heap) (ng : s₁.heap.Ns mainGlobals mg) (nb : s₁.heap.Ns builtinsNs mb) (nbb : ∀ y : Str, y ≠ "__name__" → mb y = bootBuiltins y) (noLim : s₁.heap.NoLimit) (noGen : s₁.gens = #[])
    (cell : s₁.heap.get? a = some { cls := .type "list", data := .seq vs.toArray }) (nums : IntsAre vs ns) (short : ns.length ≤ sizeLine) (room : Room k callerA)
    (F : ∀ base : Heap, K.In base → base.Ns mainGlobals mg → FnG P w K mg base k fa fd [x] sp) (binds : ∀ (s : Shared) (u : Value), BindsTo s fd ⟨[u], []⟩ [(x, u)])
    (asks : ∀ H : Hp, Only H → SqL K H a (ns.map V.int) → sp [.ref a] H (fun v _ => v = .bl true) fun _ _ _ => False) :
    codeAny (model P w) callerA (.call (.ref fa) ⟨[.ref a], []⟩) (fun r s' => r = .ok (.ret (.bool true)) ∧ PySem.OldK s₁.heap s'.heap ∧ s'.os = s₁.os ∧ AllBare s'.gens) s₁ := by
  have rv := vals_ints nums
  have nLen := nums.length
  -- whatever is tracked is the script alone
  have main : ∀ H : Hp, Only H → SqL K H a (ns.map V.int) → HOk P w H s₁.heap → (∀ b, H b ≠ none → b = a ∧ K.lookup a = none) →
      codeAny (model P w) callerA (.call (.ref fa) ⟨[.ref a], []⟩) (fun r s' => r = .ok (.ret (.bool true)) ∧ PySem.OldK s₁.heap s'.heap ∧ s'.os = s₁.os ∧ AllBare s'.gens) s₁ := by
    intro H only seq ok alone
    have clear : ∀ {b : Addr} {o : Obj}, s₁.heap.get? b = some o → (∀ es ep, o.data = .dict es ep → True) → (∃ es ep, o.data = Data.dict es ep) → H b = none := fun {b o} eo _ hx => by
      obtain ⟨es, ep, hd⟩ := hx
      refine Classical.byContradiction fun z => ?_
      obtain ⟨rfl, _⟩ := alone b z
      rw [cell] at eo
      cases eo
      exact nomatch (show Data.seq vs.toArray _ = Data.dict es ep from hd)
    have nsB : ∀ {b : Addr} {m : Str → Option Value}, s₁.heap.Ns b m → (hidT s₁.heap H).Ns b m := fun {b m} ⟨o, es, ep, e, d, r⟩ => ⟨o, es, ep, hidT_get e (clear e (fun _ _ _ => trivial) ⟨es, ep, d⟩), d, r⟩
    have inB : K.In (hidT s₁.heap H) := fun b o e => hidT_get (inK b o e) (Classical.byContradiction fun z => by
      obtain ⟨rfl, hn⟩ := alone b z
      rw [hn] at e
      cases e)
    have md : Mod K mg (hidT s₁.heap H) := ⟨inB, nsB ng, ⟨mb, nsB nb, nbb⟩, let ⟨mc, h1, h2⟩ := noLim; ⟨mc, nsB h1, h2⟩⟩
    have e0 : Env0 P w K mg (hidT s₁.heap H) callerA [] s₁ H := ⟨rfl, md, fun b o e => of_hidT e, Nat.le_of_eq (hidT_size _ _), trivial, fun b hb => absurd hb List.not_mem_nil, ok, .of_eq noGen⟩
    refine codeAny_mono ((F _ inB (nsB ng)).goes callerA [] s₁ H ⟨[.ref a], []⟩ [.ref a] [.ref a] _ _ rfl room e0 (binds s₁ (.ref a)) (.cons rfl .nil) (asks H only seq)) fun r s' h => ?_
    cases r with
    | error e => exact (show False from h).elim
    | ok fl =>
      cases fl with
      | next => exact (show False from h).elim
      | brk => exact (show False from h).elim
      | cont => exact (show False from h).elim
      | ret u =>
        obtain ⟨v, H', os, bare, un, ok', rr, qv⟩ := h
        cases (show v = .bl true from qv)
        cases (show u = Value.bool true from rr)
        refine ⟨rfl, PySem.OldK.of_keep fun b o e => ?_, os, bare⟩
        cases hb : H b with
        | none => exact un.keep b o e hb (by intro z; exact absurd z List.not_mem_nil) (by simp)
        | some u =>
          rcases only b with z | ⟨ob, xs, z⟩
          · rw [hb] at z
            cases z
          · have e1 := (ok b _ z).1
            have e2 := (ok' b _ (un.frzs b ob _ z)).1
            rw [e] at e1
            cases e1
            exact e2
  cases hk : K.lookup a with
  | some o =>
    have e := inK a o hk
    rw [cell] at e
    cases e
    refine main (fun _ => none) (fun _ => .inl rfl) (.inr ⟨_, vs.toArray, _, hk, rfl, rfl, rfl, ?_, by simpa using rv⟩) (fun b u z => by cases z) (fun b z => absurd rfl z)
    rw [List.size_toArray, nLen]
    exact short
  | none =>
    have at_a : ∀ {b : Addr} {z : HO}, (if b = a then some (HO.frz { cls := .type "list", data := .seq vs.toArray } (.lst (ns.map V.int))) else none) = some z → b = a ∧ z = HO.frz { cls := .type "list", data := .seq vs.toArray } (.lst (ns.map V.int)) := fun {b z} e => by
      by_cases c : b = a
      · rw [if_pos c] at e
        exact ⟨c, (Option.some.inj e).symm⟩
      · rw [if_neg c] at e
        cases e
    refine main (fun b => if b = a then some (.frz { cls := .type "list", data := .seq vs.toArray } (.lst (ns.map V.int))) else none) (fun b => ?_) (.inl (.inr ⟨_, if_pos rfl⟩)) (fun b u z => ?_) (fun b z => ⟨?_, hk⟩)
    · by_cases c : b = a
      · exact .inr ⟨_, _, if_pos c⟩
      · exact .inl (if_neg c)
    · obtain ⟨rfl, rfl⟩ := at_a z
      exact ⟨cell, by rw [List.length_map]; exact short, vs, _, rv, cell⟩
    · by_cases c : b = a
      · exact c
      · exact absurd (if_neg c) z
theorem walkG {l : PySem.W.OpenLaw} {n k : Nat} {q : Program} {loose : List Str} {XP : (Str → Option Value) → Heap → Prop} {YP : World → Heap → Prop} {d : DefRec} {K : Params → PySem.W.Frag} {sp : World → Sp} {x : Str}
    (hn : l.most = some n) (hn2 : n ≤ sizeLine) (hdf : d.params.defaults = []) (room : Room k callerA)
    (hY : ∀ (w : World) (h : Heap), YP w h → (K w.params).In h)
    (F : ∀ (w : World) (mg : Str → Option Value) (fa : Addr) (h : Heap), (K w.params).In h → h.Ns mainGlobals mg → mg d.name = some (.ref fa) →
      ∃ fd : FuncData, (∀ (s : Shared) (u : Value), BindsTo s fd ⟨[u], []⟩ [(x, u)]) ∧
        ∀ base : Heap, (K w.params).In base → base.Ns mainGlobals mg → FnG l.prog w (K w.params) mg base k fa fd [x] (sp w))
    (asks : ∀ (w : World) (H : Hp) (a : Addr) (ns : List Int), ns.length ≤ n → Only H → SqL (K w.params) H a (ns.map V.int) → sp w [.ref a] H (fun v _ => v = .bl true) fun _ _ _ => False) :
    PySem.W.WalkO q loose XP YP l.row.toRowW d [] (fun f vs => PySem.call f vs) := by
  refine Att.attach_call hn hdf fun w _ s₁ mg mb fa _ _ _ _ a vs ns G Y _ _ _ hmg hobj hints hlen hgen => ?_
  have inK := hY w _ Y
  obtain ⟨fd, hb, hF⟩ := F w mg fa _ inK G.T.g hmg
  exact law_goes inK G.T.g G.T.b G.T.builtins G.T.nolimit hgen hobj hints (Nat.le_trans hlen hn2) room hF hb fun H h1 h2 => asks w H a ns hlen h1 h2
end KV

namespace KV
open PySem PySem.Spec PyProof.Rows L2
/-! ### the text -/
def topS (i : Nat) : Stmt := PySem.Challenge.pw_endonce_k00_setups.main.body.getD i (.Pass ⟨0, 0, 0, 0⟩)
abbrev sTake : Stmt := topS 11
section
variable {P : Program} {w : World} {K : PySem.W.Frag} {mg : Str → Option Value} {base : Heap}
/-! ### _law_take -/
def spTake : Sp := fun vs H Q _ => ∃ (b : Addr) (n : Nat) (m : Int), vs = [.ref b, .int m] ∧ 0 < m ∧ m < 2 ^ 20 ∧ BoxAt H b n ∧ n ≤ 2 ^ 40 ∧
  ∀ (r : Int) (H' : Hp), 0 ≤ r → r < m → SameX [b] H H' → BoxAt H' b (n + 1) → Q (.int r) H'
theorem sameB_upd {b : Addr} {H : Hp} {o : HO} : SameX [b] H (upd H b o) := sameX_upd (List.mem_singleton.mpr rfl)
theorem scTake : FnScope ["_law_box_here", "_law_below", "_law_found", "_law_once", "_law_odd", "_law_twice"] ["_law_box_here", "_law_below"] (defScope sTake) :=
  ⟨rfl, rfl, rfl, by decide +kernel, rfl, by decide +kernel, by decide +kernel⟩
theorem ok_take {f : Addr} {fd : FuncData} {k : Nat} (F : Fun K "_law_take" "_law_take" sTake f fd) (mi : mg "int" = none) : FnOk P w K mg base CX0 (k + 1) f fd ["_law_box_here", "_law_below"] spTake := by
  refine F.ok scTake (fun vs H Q E h => ?_) (fun cdv A outer s H vs Q E hr h => ?_)
  · obtain ⟨b, n, m, rfl, _⟩ := h
    rfl
  · obtain ⟨b, n, m, rfl, hm0, hm1, hB, hn, q⟩ := h
    obtain ⟨x, y, c, hb, hy0, hy1, hc0, hc1⟩ := hB
    refine ⟨_, pss_cons (ps_if (pt_cmpR op_gt (pe_ix ix_seq (pv 0) pe_int (fun _ _ => rfl)) pe_int (nomark _))
        (pss_cons (ps_set (i := 2) scTake.nd rfl (.inl rfl) (pe_op op_mod (pe_callTy call_int1 (by rfl) mi PyProof.Rows.boot_int (pa_cons (pe_ix ix_seq (pv 0) pe_int (fun _ _ => rfl)) pa_nil)) (pv 1)))
        (pss_cons (ps_asg (pe_op op_fdiv (pe_ix ix_seq (pv 0) pe_int (fun _ _ => rfl)) (pv 1)) (pg_sub (pv 0) pe_int set_list))
        (pss_one (ps_ret (pv 2))))) pss_nil)
      (pss_cons (ps_asg (pe_op op_add (pe_ix ix_seq (pv 0) pe_int (fun _ _ => rfl)) pe_int) (pg_sub (pv 0) pe_int set_list))
      (pss_cons (ps_set (i := 3) scTake.nd rfl (.inl rfl) (pe_op op_mod (pe_callTy call_int1 (by rfl) mi PyProof.Rows.boot_int (pa_cons (pe_op op_mul
          (pe_op op_add (pe_ix ix_seq (pv 0) pe_int (fun _ _ => rfl)) (pe_op op_mul pe_int (pe_ix ix_seq (pv 0) pe_int (fun _ _ => rfl))))
          (pe_op op_add pe_int (pe_ix ix_seq (pv 0) pe_int (fun _ _ => rfl)))) pa_nil)) pe_int))
      (pss_cons (ps_set (i := 4) scTake.nd rfl (.inl rfl) (pe_op op_add (pe_op op_mod (pe_callTy call_int1 (by rfl) mi PyProof.Rows.boot_int (pa_cons (pv 3) pa_nil)) pe_int) pe_int))
      (pss_cons (ps_set (i := 5) scTake.nd rfl (.inl rfl) (pe_op op_mod (pe_callTy call_int1 (by rfl) mi PyProof.Rows.boot_int (pa_cons (pe_op op_mul
          (pe_op op_add (pe_op op_add (pv 3) (pe_ix ix_seq (pv 0) pe_int (fun _ _ => rfl))) (pe_op op_fdiv (pe_ix ix_seq (pv 0) pe_int (fun _ _ => rfl)) pe_int)) (pv 4)) pa_nil)) pe_int))
      (pss_one (ps_ret (pe_op op_mod (pe_callTy call_int1 (by rfl) mi PyProof.Rows.boot_int (pa_cons (pe_op op_fdiv (pe_op op_mod
          (pe_callTy call_int1 (by rfl) mi PyProof.Rows.boot_int (pa_cons (pe_op op_add (pe_op op_mul (pv 5) pe_int) (pv 3)) pa_nil)) pe_int) pe_int) pa_nil)) (pv 1)))))))), ?_⟩
    refine ⟨_, rfl, .inl ⟨_, _, _, _, rfl, rfl, SqL.of hb, atI_nat (j := 0) rfl, ?_⟩⟩
    refine ⟨_, _, rfl, rfl, _, rfl, ite2 (fun e => ?_) (fun e => ?_)⟩
    · refine ⟨_, rfl, .inl ⟨_, _, _, _, rfl, rfl, SqL.of hb, atI_nat (j := 0) rfl, ?_⟩⟩
      refine .inl ⟨_, rfl, _, rfl, _, _, rfl, rfl, hm0, ?_⟩
      refine ⟨_, rfl, .inl ⟨_, _, _, _, rfl, rfl, SqL.of hb, atI_nat (j := 0) rfl, _, rfl, _, _, rfl, rfl, ⟨hm0, by omega⟩, ?_⟩⟩
      refine ⟨_, rfl, _, _, _, 0, rfl, rfl, hb, rfl, ?_⟩
      refine ⟨_, rfl, ?_⟩
      exact q _ _ (Int.emod_nonneg _ (by omega)) (Int.emod_lt_of_pos _ hm0) sameB_upd ⟨_, y, c, upd_same, hy0, hy1, hc0, by omega⟩
    · -- box[2] = box[2] + 1
      refine ⟨_, rfl, .inl ⟨_, _, _, _, rfl, rfl, SqL.of hb, atI_nat (j := 2) rfl, _, _, rfl, rfl, ?_⟩⟩
      refine ⟨_, rfl, _, _, _, 2, rfl, rfl, hb, rfl, ?_⟩
      have h1 : ∀ (u v z : Int), (upd H b (.lst [.int u, .int v, .int z])) b = some (.lst [.int u, .int v, .int z]) := fun u v z => upd_same
      show tSeq _ _ _ _ (upd H b (.lst [.int x, .int y, .int (c + 1)]))
      -- once
      refine ⟨_, rfl, .inl ⟨_, _, _, _, rfl, rfl, SqL.of (h1 _ _ _), atI_nat (j := 1) rfl, _, rfl, .inl ⟨_, _, _, _, rfl, rfl, SqL.of (h1 _ _ _), atI_nat (j := 2) rfl, _, _, rfl, rfl, .inl ⟨by decide, by decide⟩, _, _, rfl, rfl,
        _, rfl, .inl ⟨_, _, _, _, rfl, rfl, SqL.of (h1 _ _ _), atI_nat (j := 2) rfl, _, _, rfl, rfl, _, _, rfl, rfl, .inr ⟨by omega, by omega⟩, .inl ⟨_, rfl, _, _, rfl, rfl, (by show (0 : Int) < _; decide), ?_⟩⟩⟩⟩⟩
      have o0 : 0 ≤ (y + 48271 * (c + 1)) * (39373 + (c + 1)) % 2147483647 := Int.emod_nonneg _ (by decide)
      have o1 : (y + 48271 * (c + 1)) * (39373 + (c + 1)) % 2147483647 < 2147483647 := Int.emod_lt_of_pos _ (by decide)
      generalize (y + 48271 * (c + 1)) * (39373 + (c + 1)) % 2147483647 = once at o0 o1
      -- odd
      refine ⟨_, rfl, .inl ⟨_, rfl, _, _, rfl, rfl, (by show (0 : Int) < _; decide), _, _, rfl, rfl, ?_⟩⟩
      have d0 : 0 ≤ once % 40009 := Int.emod_nonneg _ (by decide)
      have d1 : once % 40009 < 40009 := Int.emod_lt_of_pos _ (by decide)
      generalize once % 40009 = odd at d0 d1
      -- twice
      refine ⟨_, rfl, _, rfl, .inl ⟨_, _, _, _, rfl, rfl, SqL.of (h1 _ _ _), atI_nat (j := 2) rfl, _, _, rfl, rfl, _, rfl, .inl ⟨_, _, _, _, rfl, rfl, SqL.of (h1 _ _ _), atI_nat (j := 1) rfl, _, _, rfl, rfl, ⟨by decide, by decide⟩, _, _, rfl, rfl,
        _, rfl, _, _, rfl, rfl, .inr ⟨by omega, by omega⟩, .inl ⟨_, rfl, _, _, rfl, rfl, (by show (0 : Int) < _; decide), ?_⟩⟩⟩⟩
      have t0 : 0 ≤ (once + (c + 1) + y / 1000003) * (odd + 7) % 2147483629 := Int.emod_nonneg _ (by decide)
      have t1 : (once + (c + 1) + y / 1000003) * (odd + 7) % 2147483629 < 2147483629 := Int.emod_lt_of_pos _ (by decide)
      generalize (once + (c + 1) + y / 1000003) * (odd + 7) % 2147483629 = twice at t0 t1
      -- the draw
      refine ⟨_, rfl, _, _, rfl, rfl, .inr ⟨by decide, by decide⟩, _, rfl, _, _, rfl, rfl, .inl ⟨_, rfl, _, _, rfl, rfl, (by show (0 : Int) < _; decide), _, _, rfl, rfl, ⟨by decide, by decide⟩, .inl ⟨_, rfl, _, rfl, _, _, rfl, rfl, hm0, ?_⟩⟩⟩
      exact q _ _ (Int.emod_nonneg _ (by omega)) (Int.emod_lt_of_pos _ hm0) sameB_upd ⟨x, y, c + 1, upd_same, hy0, hy1, by omega, by omega⟩
end
end KV

namespace KV
open PySem PySem.Spec PyProof.Rows L2
/-- pairs of two lists of one length -/
inductive All2 {α β : Type} (R : α → β → Prop) : List α → List β → Prop
  | nil : All2 R [] []
  | cons {a : α} {b : β} {as : List α} {bs : List β} : R a b → All2 R as bs → All2 R (a :: as) (b :: bs)
theorem All2.snoc {α β : Type} {R : α → β → Prop} {as : List α} {bs : List β} {a : α} {b : β} (h : All2 R as bs) (k : R a b) : All2 R (as ++ [a]) (bs ++ [b]) := by
  induction h with
  | nil => exact .cons k .nil
  | cons h1 _ ih => exact .cons h1 ih
theorem All2.fn {α β : Type} {f : α → β} : ∀ {as : List α} {bs : List β}, All2 (fun a b => b = f a) as bs → bs = as.map f
  | _, _, .nil => rfl
  | _, _, .cons h1 h2 => by rw [h1, h2.fn]; rfl
theorem SameX.live {B C : List Addr} {H H' : Hp} (h : SameX C H H') (l : Live B H) (k : ∀ b ∈ C, H' b ≠ none) : Live B H' := fun b hb e => by
  by_cases c : b ∈ C
  · exact k b c e
  · cases q : H b with
    | none => exact l b hb q
    | some o => rw [h b o c q] at e; cases e
theorem tYes_ok {σ : L2.St} {H : Hp} {R1 R2 : Hp → Prop} (h : R1 H) : tYes σ H fun b H3 => if b = true then R1 H3 else R2 H3 := by
  show (if true = true then R1 H else R2 H)
  rw [if_pos rfl]
  exact h
/-- walking data -/
def iDat (K : PySem.W.Frag) (B : List Addr) (tl : TE) : TI := fun σ H R => tl σ H fun x H1 => ∃ a xs, x = .ref a ∧ (SqL K (hide B H1) a xs ∨ SqT K (hide B H1) a xs) ∧ ∀ J G, Walk J xs.length G (YAt xs) → (∀ H2, Same (hide B H1) H2 → G H2) → R J H1
theorem pi_dat {X : Cx} {tg l : Expr} {tl : TE} (B : List Addr) (hl : PE X l tl) : PI X tg l (iDat X.K B tl) := by
  refine ⟨fun pins s σ H R I h => ?_⟩
  refine thn (hl.run pins s σ H _ I h) fun v s1 hv => ?_
  obtain ⟨x, H1, I1, r1, a, xs, rfl, hk, q⟩ := hv
  cases r1
  rcases hk with hk | hk
  · have hk1 := (hide_same B H1).seq hk
    obtain ⟨its, rv, p, hz⟩ := I1.list hk1
    refine wpAny_pyIter_list p.isList ?_
    refine ⟨s1.heap.objs.size, [s1.heap.objs.size], _, _, H1, rfl, I1.kept (t' := s1.toks) fun b o e => Heap.get?_push_of_some _ e, turn_list a _, ⟨_, Heap.get?_push_size _ rfl, rfl, rfl⟩, fun b hb => ?_, q _ _ (walk_list (xs := xs)) fun H2 h2 => h2.seq hk⟩
    cases List.mem_singleton.mp hb
    exact I1.fpOk (Nat.le_refl _) (I1.hok.fresh (Nat.le_refl _))
  · have hk1 := same_seqT (hide_same B H1) hk
    obtain ⟨its, rv, p, hz⟩ := I1.tuple hk1
    refine wpAny_pyIter_tuple (show s1.heap.IsTuple a its.toArray from p) ?_
    refine ⟨s1.heap.objs.size, [s1.heap.objs.size], _, _, H1, rfl, I1.kept (t' := s1.toks) fun b o e => Heap.get?_push_of_some _ e, turn_tuple a _, ⟨_, Heap.get?_push_size _ rfl, rfl, rfl⟩, fun b hb => ?_, q _ _ (walk_tup (xs := xs)) fun H2 h2 => same_seqT h2 hk⟩
    cases List.mem_singleton.mp hb
    exact I1.fpOk (Nat.le_refl _) (I1.hok.fresh (Nat.le_refl _))
/-- a comprehension that makes of each part of a sequence a value -/
theorem lc_dp {K : PySem.W.Frag} {J : It} {G : Hp → Prop} {xs : List V} (w : Walk J xs.length G (YAt xs)) {ds : List PyData} {B C : List Addr} {σ : L2.St} {i : Nat} {te : TE} {H1 : Hp} {D : Addr} {Qd : Hp → Prop}
    (hx : DpAll K (hide B H1) xs ds) (hB : Live B H1) (hC : ∀ b ∈ C, b ∈ B) (nD : H1 D = none) (hz : xs.length ≤ 1000) (hG : ∀ H, Same (hide B H1) H → G H)
    (Pb : Nat → Hp → Prop) (s0 : Pb 0 H1) (hSt : ∀ j H o, H D = none ∨ (∃ l, H D = some (.lst l)) → Pb j H → Pb j (upd H D o)) (hLv : ∀ j H, Pb j H → ∀ b ∈ C, H b ≠ none) (R : PyData → PyData → Prop)
    (step : ∀ (j : Nat) (x : V) (d : PyData) (H : Hp) (Q : VK), xs[j]? = some x → ds[j]? = some d → Live (D :: B) H → Pb j H → Dp K (hide (D :: B) H) x d →
      (∀ y H' d', SameX C H H' → R d d' → Dp K (hide (D :: B) H') y d' → Pb (j + 1) H' → Q y H') → te ((wipe σ [i]).set i (some x)) H Q)
    (hd : ∀ H acc ds', SameX (D :: C) H1 H → Live (D :: B) H → Pb xs.length H → H D = some (.lst acc) → DpAll K (hide (D :: B) H) acc ds' → All2 R ds ds' → Qd H) :
    ∃ W : Nat → Nat → Hp → Prop, (∃ m, W 0 m (upd H1 D (.lst []))) ∧ ∀ i' m H, W i' m H →
      (J.stop i' H ∧ Qd H) ∨ (J.go i' H ∧ ∃ Nx : Hp → Prop, (∀ H', Nx H' → ∃ m', m' < m ∧ W (i' + 1) m' H') ∧ ∀ x H', J.yld i' H x H' → gName i x (wipe σ [i]) H' fun σ2 H2 => wipe σ2 [i] = wipe σ [i] ∧ tYes σ2 H2 fun b H3 =>
        if b = true then te σ2 H3 fun y H4 => ∃ acc, H4 D = some (.lst acc) ∧ acc.length < sizeLine ∧ Nx (upd H4 D (.lst (acc ++ [y]))) else Nx H3) := by
  have nB : D ∉ B := hB.new nD
  have nC : D ∉ C := fun z => nB (hC D z)
  have hl := dps_len hx
  refine lc_it w (fun j H => SameX (D :: C) H1 H ∧ Live (D :: B) H ∧ Pb j H ∧ ∃ acc ds', H D = some (.lst acc) ∧ acc.length = j ∧ DpAll K (hide (D :: B) H) acc ds' ∧ All2 R (ds.take j) ds') ?_ (fun j H _ h => hG H ((h.1.enter hC nD).trans (hide_same _ _))) ?_ ?_
  · refine ⟨fun c o n e => ?_, Live.cons hB.upd upd_same, hSt 0 H1 _ (.inl nD) s0, [], [], upd_same, rfl, .nil, .nil⟩
    rw [upd_ne (ne_of_none e nD)]
    exact e
  · rintro j x H H' hj ⟨hs, lv, st, acc, ds', hD, hacc, ha, h2⟩ ⟨rfl, hx1⟩
    obtain ⟨d, hd1, hdp⟩ := dps_get hx hx1
    refine ⟨?_, ?_⟩
    · show wipe ((wipe σ [i]).set i (some x)) [i] = wipe σ [i]
      show ((((σ.set i none)).set i (some x)).set i none) = σ.set i none
      rw [List.set_set, List.set_set]
    · refine tYes_ok ?_
      refine step j x d _ _ hx1 hd1 lv st (dp_same (hs.enter hC nD) hdp) fun y H4 d' s4 r4 dp4 st4 => ?_
      have hD4 : H4 D = some (.lst acc) := s4 D _ nC hD
      refine ⟨acc, hD4, by rw [hacc]; exact small1000 (by omega), ?_, ?_, hSt _ _ _ (.inr ⟨_, hD4⟩) st4, acc ++ [y], ds' ++ [d'], upd_same, by rw [List.length_append, hacc]; rfl, ?_, ?_⟩
      · exact hs.trans ((s4.sub fun b hb => List.mem_cons_of_mem _ hb).trans (sameX_upd List.mem_cons_self))
      · exact Live.upd (s4.live lv (hLv _ _ st4))
      · rw [hide_upd_in List.mem_cons_self]
        exact dps_snoc (dps_same (s4.hide fun b hb => List.mem_cons_of_mem _ (hC b hb)) ha) dp4
      · rw [take_snoc hd1]
        exact h2.snoc r4
  · rintro H ⟨hs, lv, st, acc, ds', hD, hacc, ha, h2⟩
    refine hd H acc ds' hs lv st hD ha ?_
    rw [hl, List.take_length] at h2
    exact h2
/-- the same, any target -/
theorem lc_dg {K : PySem.W.Frag} {J : It} {G : Hp → Prop} {xs : List V} (w : Walk J xs.length G (YAt xs)) {ds : List PyData} {B C : List Addr} {σ : L2.St} {vs : List Nat} {g : TG} {te : TE} {H1 : Hp} {D : Addr} {Qd : Hp → Prop}
    (hx : DpAll K (hide B H1) xs ds) (hB : Live B H1) (hC : ∀ b ∈ C, b ∈ B) (nD : H1 D = none) (hz : xs.length ≤ 1000) (hG : ∀ H, Same (hide B H1) H → G H)
    (Pb : Nat → Hp → Prop) (s0 : Pb 0 H1) (hSt : ∀ j H o, H D = none ∨ (∃ l, H D = some (.lst l)) → Pb j H → Pb j (upd H D o)) (hLv : ∀ j H, Pb j H → ∀ b ∈ C, H b ≠ none) (R : PyData → PyData → Prop)
    (step : ∀ (j : Nat) (x : V) (d : PyData) (H : Hp) (Q : VK), xs[j]? = some x → ds[j]? = some d → Live (D :: B) H → Pb j H → Dp K (hide (D :: B) H) x d →
      (∀ y H' d', SameX C H H' → R d d' → Dp K (hide (D :: B) H') y d' → Pb (j + 1) H' → Q y H') → g x (wipe σ vs) H fun σ2 H2 => wipe σ2 vs = wipe σ vs ∧ te σ2 H2 Q)
    (hd : ∀ H acc ds', SameX (D :: C) H1 H → Live (D :: B) H → Pb xs.length H → H D = some (.lst acc) → DpAll K (hide (D :: B) H) acc ds' → All2 R ds ds' → Qd H) :
    ∃ W : Nat → Nat → Hp → Prop, (∃ m, W 0 m (upd H1 D (.lst []))) ∧ ∀ i' m H, W i' m H →
      (J.stop i' H ∧ Qd H) ∨ (J.go i' H ∧ ∃ Nx : Hp → Prop, (∀ H', Nx H' → ∃ m', m' < m ∧ W (i' + 1) m' H') ∧ ∀ x H', J.yld i' H x H' → g x (wipe σ vs) H' fun σ2 H2 => wipe σ2 vs = wipe σ vs ∧ tYes σ2 H2 fun b H3 =>
        if b = true then te σ2 H3 fun y H4 => ∃ acc, H4 D = some (.lst acc) ∧ acc.length < sizeLine ∧ Nx (upd H4 D (.lst (acc ++ [y]))) else Nx H3) := by
  have nB : D ∉ B := hB.new nD
  have nC : D ∉ C := fun z => nB (hC D z)
  have hl := dps_len hx
  refine lc_it w (fun j H => SameX (D :: C) H1 H ∧ Live (D :: B) H ∧ Pb j H ∧ ∃ acc ds', H D = some (.lst acc) ∧ acc.length = j ∧ DpAll K (hide (D :: B) H) acc ds' ∧ All2 R (ds.take j) ds') ?_ (fun j H _ h => hG H ((h.1.enter hC nD).trans (hide_same _ _))) ?_ ?_
  · refine ⟨fun c o n e => ?_, Live.cons hB.upd upd_same, hSt 0 H1 _ (.inl nD) s0, [], [], upd_same, rfl, .nil, .nil⟩
    rw [upd_ne (ne_of_none e nD)]
    exact e
  · rintro j x H H' hj ⟨hs, lv, st, acc, ds', hD, hacc, ha, h2⟩ ⟨rfl, hx1⟩
    obtain ⟨d, hd1, hdp⟩ := dps_get hx hx1
    have key : ∀ {A : Prop} {R1 R2 : Hp → Prop} {s2 : L2.St} {H2 : Hp}, (A ∧ tYes s2 H2 fun b H3 => if b = true then R1 H3 else R2 H3) = (A ∧ R1 H2) := fun {A R1 R2 s2 H2} => by
      show (A ∧ if true = true then R1 H2 else R2 H2) = (A ∧ R1 H2)
      rw [if_pos rfl]
    simp only [key]
    · refine step j x d _ _ hx1 hd1 lv st (dp_same (hs.enter hC nD) hdp) fun y H4 d' s4 r4 dp4 st4 => ?_
      have hD4 : H4 D = some (.lst acc) := s4 D _ nC hD
      refine ⟨acc, hD4, by rw [hacc]; exact small1000 (by omega), ?_, ?_, hSt _ _ _ (.inr ⟨_, hD4⟩) st4, acc ++ [y], ds' ++ [d'], upd_same, by rw [List.length_append, hacc]; rfl, ?_, ?_⟩
      · exact hs.trans ((s4.sub fun b hb => List.mem_cons_of_mem _ hb).trans (sameX_upd List.mem_cons_self))
      · exact Live.upd (s4.live lv (hLv _ _ st4))
      · rw [hide_upd_in List.mem_cons_self]
        exact dps_snoc (dps_same (s4.hide fun b hb => List.mem_cons_of_mem _ (hC b hb)) ha) dp4
      · rw [take_snoc hd1]
        exact h2.snoc r4
  · rintro H ⟨hs, lv, st, acc, ds', hD, hacc, ha, h2⟩
    refine hd H acc ds' hs lv st hD ha ?_
    rw [hl, List.take_length] at h2
    exact h2
end KV

namespace KV
open PySem PySem.Spec PyProof.Rows L2
def tNone : TE := fun _ _ _ => False
theorem pe_never {X : Cx} {e : Expr} : PE X e tNone := ⟨fun _ _ _ _ _ _ h => h.elim⟩
theorem nodesDs_app : ∀ (as bs : List PyData), nodesDs (as ++ bs) = nodesDs as + nodesDs bs
  | [], bs => by simp only [List.nil_append, nodesDs, Nat.zero_add]
  | a :: as, bs => by simp only [List.cons_append, nodesDs, nodesDs_app as bs, Nat.add_assoc]
theorem nodes_take {ds : List PyData} {j : Nat} {e : PyData} (h : ds[j]? = some e) : nodesDs (ds.take (j + 1)) = nodesDs (ds.take j) + nodesD e := by
  rw [take_snoc h, nodesDs_app]
  simp only [nodesDs, Nat.add_zero]
theorem nodes_le : ∀ (ds : List PyData) (j : Nat), nodesDs (ds.take j) ≤ nodesDs ds
  | [], j => by rw [List.take_nil]; exact Nat.le_refl _
  | d :: ds, 0 => by simp only [List.take_zero, nodesDs]; exact Nat.zero_le _
  | d :: ds, j + 1 => by
    have h := nodes_le ds j
    simp only [List.take_succ_cons, nodesDs]
    omega
theorem all2_len {α β : Type} {R : α → β → Prop} {as : List α} {bs : List β} (h : All2 R as bs) : as.length = bs.length := by
  induction h with
  | nil => rfl
  | cons _ _ ih => rw [List.length_cons, List.length_cons, ih]
theorem all2_tup {m : Nat} {as bs : List PyData} (h : All2 (fun e e' => tupD e' = tupD e ∧ okD e' m = true) as bs) : bs.map tupD = as.map tupD ∧ okDs bs m = true := by
  induction h with
  | nil => exact ⟨rfl, by simp only [okDs]⟩
  | cons h1 _ ih => exact ⟨by rw [List.map_cons, List.map_cons, h1.1, ih.1], by simp only [okDs, h1.2, ih.2, Bool.and_self]⟩
theorem ok_mk {ds : List PyData} {m : Nat} (h1 : ds.length ≤ 1000) (h2 : okDs ds m = true) : okD (.list ds) (m + 1) = true ∧ okD (.tuple ds) (m + 1) = true := by
  have h : (decide (0 < m + 1) && decide (ds.length ≤ 1000) && okDs ds (m + 1 - 1)) = true := by
    rw [decide_eq_true (Nat.succ_pos m), decide_eq_true h1, Nat.add_sub_cancel, h2]
    rfl
  exact ⟨by simpa only [okD] using h, by simpa only [okD] using h⟩
theorem ok_atom {d : PyData} (h : okD d 0 = true) : isSeq d = false := by
  cases d with
  | list xs => exact nomatch (show (decide (0 < 0) && decide (xs.length ≤ 1000) && okDs xs (0 - 1)) = true by simpa only [okD] using h)
  | tuple xs => exact nomatch (show (decide (0 < 0) && decide (xs.length ≤ 1000) && okDs xs (0 - 1)) = true by simpa only [okD] using h)
  | _ => rfl
theorem hide_of_same {B : List Addr} {H H' : Hp} (h : Same H H') : Same (hide B H) (hide B H') := (SameX.of h).hide (C := []) fun b hb => absurd hb List.not_mem_nil
/-- a new object, told without the hidden ones -/
theorem hide_new {B : List Addr} {H : Hp} {p : Addr} {o : HO} (lv : Live B H) (n : H p = none) : hide B (upd H p o) p = some o := by
  rw [hide_out (lv.new n), upd_same]
theorem hide_grow {B : List Addr} {H : Hp} {p : Addr} {o : HO} (lv : Live B H) (n : H p = none) : Same (hide B H) (hide B (upd H p o)) := hide_of_same (same_upd n)
abbrev sLists : Stmt := topS 16
section
variable {P : Program} {w : World} {K : PySem.W.Frag} {mg : Str → Option Value} {base : Heap}
/-! ### _law_lists -/
def spLists (K : PySem.W.Frag) (n : Nat) : Sp := fun vs H Q _ => ∃ (B : List Addr) (v : V) (d : PyData), vs = [v] ∧ Live B H ∧ Dp K (hide B H) v d ∧ okD d n = true ∧
  ∀ (v' : V) (H' : Hp), Same H H' → Dp K (hide B H') v' (lstD d) → Q v' H'
theorem scLists : FnScope ["_law_matter", "_law_bit"] ["_law_matter"] (defScope sLists) :=
  ⟨rfl, rfl, rfl, by decide +kernel, rfl, by decide +kernel, by decide +kernel⟩
theorem ok_lists {f : Addr} {fd : FuncData} (F : Fun K "_law_lists" "_law_lists" sLists f fd) (bF : Binds K fd ["_law_matter"] []) (mF : mg "_law_lists" = some (.ref f)) (mi : mg "isinstance" = none) (ml : mg "list" = none) (mt : mg "tuple" = none) :
    ∀ n : Nat, FnOk P w K mg base CX0 (n + 1) f fd ["_law_matter"] (spLists K n) := by
  intro n
  induction n with
  | zero =>
    refine F.ok scLists (fun vs H Q E h => ?_) (fun cdv A outer s H vs Q E hr h => ?_)
    · obtain ⟨B, v, d, rfl, _⟩ := h
      rfl
    · obtain ⟨B, v, d, rfl, lv, hd, hok, q⟩ := h
      have ha := ok_atom hok
      refine ⟨_, pss_one (ps_ret (pe_ifExp (pt_val (pe_callB cr_isSeq (by rfl) mi boot_isinstance (pa_cons (pv 0) (pa_cons (pe_tup (pa_cons (pe_bltn (v := .ty "list") (by rfl) ml (by decide +kernel) rfl) (pa_cons (pe_bltn (v := .ty "tuple") (by rfl) mt (by decide +kernel) rfl) pa_nil))) pa_nil))))
        pe_never (pv 0))), ?_⟩
      refine ⟨_, rfl, by show 2 ≤ sizeLine; decide, fun t nt => ⟨_, _, d, rfl, upd_same, dp_same (same_upd nt) (dp_same (hide_same B H) hd), _, rfl, ?_⟩⟩
      rw [ha]
      refine iteF ⟨_, rfl, q _ _ (same_upd nt) ?_⟩
      rw [lst_atom ha]
      exact dp_same (hide_of_same (same_upd nt)) hd
  | succ n ih =>
    refine F.ok scLists (fun vs H Q E h => ?_) (fun cdv A outer s H vs Q E hr h => ?_)
    · obtain ⟨B, v, d, rfl, _⟩ := h
      rfl
    · obtain ⟨B, v, d, rfl, lv, hd, hok, q⟩ := h
      refine ⟨_, pss_one (ps_ret (pe_ifExp (pt_val (pe_callB cr_isSeq (by rfl) mi boot_isinstance (pa_cons (pv 0) (pa_cons (pe_tup (pa_cons (pe_bltn (v := .ty "list") (by rfl) ml (by decide +kernel) rfl) (pa_cons (pe_bltn (v := .ty "tuple") (by rfl) mt (by decide +kernel) rfl) pa_nil))) pa_nil))))
        (pe_lc (own := [("_law_bit", 1)]) (g := gName 1) (tt := tYes) rfl scLists.nd (pi_dat B (pv 0)) (blkOk_by (N := ["_law_matter", "_law_bit"]) (sc := defScope sLists) (by decide +kernel)) (fun _ _ _ _ _ => pg_name (i := 1) scLists.nd rfl (Or.inl rfl)) (fun _ _ _ _ _ => pts_nil)
            (fun _ _ _ _ _ => pe_call ih hr (by rfl) mF F.kp bF .nil pass0 (pa_cons (pv 1) pa_nil))) (pv 0))), ?_⟩
      refine ⟨_, rfl, by show 2 ≤ sizeLine; decide, fun t nt => ⟨_, _, d, rfl, upd_same, dp_same (same_upd nt) (dp_same (hide_same B H) hd), _, rfl, ?_⟩⟩
      have s1 : Same H (upd H t (.tup [.ty "list", .ty "tuple"])) := same_upd nt
      have hd1 : Dp K (hide B (upd H t (.tup [.ty "list", .ty "tuple"]))) v d := dp_same (hide_of_same s1) hd
      have lv1 := lv.same s1
      generalize upd H t (.tup [.ty "list", .ty "tuple"]) = H1 at s1 hd1 lv1
      cases ha : isSeq d with
      | false =>
        refine iteF ⟨_, rfl, q _ _ s1 ?_⟩
        rw [lst_atom ha]
        exact hd1
      | true =>
        refine iteT ?_
        obtain ⟨a, xs, ds, rfl, hk, hall⟩ := dp_seq hd1 ha
        have hkk : d = .list ds ∨ d = .tuple ds := hk.imp And.right And.right
        obtain ⟨m, hm, hlen, hok2⟩ := ok_seq hkk hok
        have em : m = n := by omega
        subst em
        have elst : lstD d = .list (ds.map lstD) := by
          rcases hkk with rfl | rfl <;> simp only [lstD, lstDs_map]
        have hl := dps_len hall
        have hkB : SqL K (hide B H1) a xs ∨ SqT K (hide B H1) a xs := hk.imp And.left And.left
        refine ⟨_, rfl, a, xs, rfl, hkB, fun J G wk hG D nD => lc_dp (K := K) wk (ds := ds) (B := B) (C := []) (i := 1) hall lv1 (fun b hb => absurd hb List.not_mem_nil) nD (by omega) hG
            (fun _ _ => True) trivial (fun _ _ _ _ _ => trivial) (fun _ _ _ b hb => absurd hb List.not_mem_nil) (fun e e' => e' = lstD e)
            (fun j x e H2 Q2 _ he lv2 _ hdp2 k2 => ⟨_, rfl, D :: B, x, e, rfl, lv2, hdp2, okDs_get hok2 he, fun y H3 s3 hd3 => k2 y H3 _ (SameX.of s3) rfl hd3 trivial⟩)
            (fun H2 acc ds' s2 lv2 _ hD2 hacc h2 => q _ _ (fun c o e => ?_) ?_)⟩
        · have e1 := s1 c o e
          have cD : c ≠ D := ne_of_none e1 nD
          exact s2 c o (fun z => (List.mem_cons.mp z).elim cD (fun z => absurd z List.not_mem_nil)) e1
        · rw [elst, ← h2.fn]
          exact .lst (SqL.of (by rw [hide_out (lv1.new nD)]; exact hD2)) (dps_same hide_leave hacc)
end
end KV

namespace KV
open PySem PySem.Spec PyProof.Rows L2 RZ
/-- isinstance(x, T), one built-in class, of data -/
def rIsOne (K : PySem.W.Frag) (n : String) : List V → Hp → VK → Prop := fun vs H Q => ∃ v d, vs = [v, .ty n] ∧ Dp K H v d ∧ ∃ b, kitB (tyD d) n = some b ∧ Q (.bl b) H
theorem cr_isOne {X : Cx} (n : String) : CallR X (.builtin "isinstance") (rIsOne X.K n) := by
  intro pins s σ H vs us Q I r h
  obtain ⟨v, d, rfl, hd, b, hb, q⟩ := h
  exact call_isi pins s σ H _ us Q I r ⟨v, .ty n, _, _, b, rfl, .ty n, dp_ty hd, kit_ty hb, q⟩
theorem kit_bs {K : PySem.W.Frag} {a : String} {r1 r2 : Bool} (h1 : kitB a "bool" = some r1) (h2 : kitB a "str" = some r2) : PySem.W.kitAny K (.type a) [.type "bool", .type "str"] = some (r1 || r2) := by
  cases r1 with
  | true => exact kitAny_cons (kit_ty h1) (fun z => nomatch z) fun _ => rfl
  | false =>
    cases r2 with
    | true => exact kitAny_cons (kit_ty h1) (fun _ => kitAny_cons (kit_ty h2) (fun z => nomatch z) fun _ => rfl) fun z => nomatch z
    | false => exact kitAny_cons (kit_ty h1) (fun _ => kitAny_cons (kit_ty h2) (fun _ => kitAny_nil) fun z => nomatch z) fun z => nomatch z
def isBS : PyData → Bool
  | .bool _ => true
  | .str _ => true
  | _ => false
theorem kit_isBS {K : PySem.W.Frag} : ∀ (d : PyData), PySem.W.kitAny K (.type (tyD d)) [.type "bool", .type "str"] = some (isBS d)
  | .none => kit_bs (a := "NoneType") (r1 := false) (r2 := false) (by decide +kernel) (by decide +kernel)
  | .bool _ => kit_bs (a := "bool") (r1 := true) (r2 := false) (by decide +kernel) (by decide +kernel)
  | .int _ => kit_bs (a := "int") (r1 := false) (r2 := false) (by decide +kernel) (by decide +kernel)
  | .str _ => kit_bs (a := "str") (r1 := false) (r2 := true) (by decide +kernel) (by decide +kernel)
  | .list _ => kit_bs (a := "list") (r1 := false) (r2 := false) (by decide +kernel) (by decide +kernel)
  | .tuple _ => kit_bs (a := "tuple") (r1 := false) (r2 := false) (by decide +kernel) (by decide +kernel)
  | .dict _ => kit_bs (a := "dict") (r1 := false) (r2 := false) (by decide +kernel) (by decide +kernel)
/-- isinstance(x, (bool, str)) of data -/
def rIsBS (K : PySem.W.Frag) : List V → Hp → VK → Prop := fun vs H Q => ∃ v tp d, vs = [v, .ref tp] ∧ H tp = some (.tup [.ty "bool", .ty "str"]) ∧ Dp K H v d ∧ Q (.bl (isBS d)) H
theorem cr_isBS {X : Cx} : CallR X (.builtin "isinstance") (rIsBS X.K) := by
  intro pins s σ H vs us Q I r h
  obtain ⟨v, tp, d, rfl, ht, hd, q⟩ := h
  exact call_isiT pins s σ H _ us Q I r ⟨v, tp, _, _, _, _, rfl, ht, .cons (.ty _) (.cons (.ty _) .nil), dp_ty hd, kit_isBS d, q⟩
theorem walk_zipT {K : PySem.W.Frag} {a b : Addr} {xs ys : List V} {n : Nat} (hn : n = min xs.length ys.length) : Walk (ItzT K a b) n (fun H => SqT K H a xs ∧ SqT K H b ys) (YPair (fun i => xs[i]?) (fun i => ys[i]?)) := by
  subst hn
  refine ⟨fun i _ hi q => ?_, fun _ q => ⟨xs, ys, q.1, q.2, by omega⟩, fun i H v H' _ q y => ?_⟩
  · have h1 : i < xs.length := by omega
    have h2 : i < ys.length := by omega
    exact ⟨xs, ys, xs[i], ys[i], q.1, q.2, by simp [h1], by simp [h2]⟩
  · obtain ⟨T, x, z, h1, h2, h3, h4, h5⟩ := y
    exact ⟨T, x, z, h1, h2, h3, h4 xs q.1, h5 ys q.2⟩
theorem rep_bls (n : Nat) : (List.replicate n true).map V.bl = List.replicate n (.bl true) := by rw [List.map_replicate]
theorem rep_all (n : Nat) : (List.replicate n true).all id = true := by
  rw [List.all_eq_true]
  intro x hx
  exact (List.mem_replicate.mp hx).2
theorem seq_len {K : PySem.W.Frag} {H : Hp} {a : Addr} {xs : List V} (h : SqL K H a xs ∨ SqT K H a xs) : True := trivial
theorem iteD {p A B : Prop} [Decidable p] (h : p) (a : A) : if decide p = true then A else B := by
  rw [decide_eq_true h]
  exact iteT a
theorem iteDN {p A B : Prop} [Decidable p] (h : ¬ p) (b : B) : if decide p = true then A else B := by
  rw [decide_eq_false h]
  exact iteF b
theorem q_true {p : Prop} [Decidable p] {Q : VK} {H : Hp} (h : p) (q : Q (.bl true) H) : Q (.bl (decide p)) H := by
  rw [decide_eq_true h]
  exact q
/-- a comprehension over two sequences of the same data, each pair found the same -/
theorem lc_same {K : PySem.W.Frag} {J : It} {G : Hp → Prop} {xs ys : List V} {n : Nat} (w : Walk J n G (YPair (fun i => xs[i]?) (fun i => ys[i]?))) {ds : List PyData} {σ : L2.St} {vs : List Nat} {te : TE} {H1 : Hp} {D : Addr} {Qd : Hp → Prop}
    (hx : DpAll K H1 xs ds) (hy : DpAll K H1 ys ds) (hn : n = xs.length) (nD : H1 D = none) (hz : n ≤ 1000) (hG : ∀ H, Same H1 H → G H) (hw : ∀ x y : V, wipe (((wipe σ vs).set 3 (some x)).set 4 (some y)) vs = wipe σ vs)
    (step : ∀ (j : Nat) (x y : V) (d : PyData) (H : Hp) (Q : VK), ds[j]? = some d → Dp K H x d → Dp K H y d → (∀ H', Same H H' → Q (.bl true) H') → te (((wipe σ vs).set 3 (some x)).set 4 (some y)) H Q)
    (hd : ∀ H, SameX [D] H1 H → H D = some (.lst ((List.replicate n true).map V.bl)) → Qd H) :
    ∃ W : Nat → Nat → Hp → Prop, (∃ m, W 0 m (upd H1 D (.lst []))) ∧ ∀ i' m H, W i' m H →
      (J.stop i' H ∧ Qd H) ∨ (J.go i' H ∧ ∃ Nx : Hp → Prop, (∀ H', Nx H' → ∃ m', m' < m ∧ W (i' + 1) m' H') ∧ ∀ x H', J.yld i' H x H' → gTup K 2 (gCons (gName 3) (gCons (gName 4) gNil)) x (wipe σ vs) H' fun σ2 H2 => wipe σ2 vs = wipe σ vs ∧ tYes σ2 H2 fun b H3 =>
        if b = true then te σ2 H3 fun y H4 => ∃ acc, H4 D = some (.lst acc) ∧ acc.length < sizeLine ∧ Nx (upd H4 D (.lst (acc ++ [y]))) else Nx H3) := by
  have base : ∀ {H : Hp}, SameX [D] H1 H → Same H1 H := fun {H} h c o e => h c o (fun z => ne_of_none e nD (List.mem_singleton.mp z)) e
  refine lc_it w (fun j H => SameX [D] H1 H ∧ H D = some (.lst ((List.replicate j true).map V.bl))) ⟨fun c o n e => ?_, upd_same⟩ (fun j H _ h => hG H (base h.1)) ?_ (fun H h => hd H h.1 h.2)
  · rw [upd_ne (ne_of_none e nD)]
    exact e
  · rintro j v H H' hj ⟨hs, hD⟩ ⟨T, x, y, rfl, nT, rfl, ex, ey⟩
    have ex : xs[j]? = some x := ex
    have ey : ys[j]? = some y := ey
    obtain ⟨d, ed, dx⟩ := dps_get hx ex
    obtain ⟨d2, ed2, dy⟩ := dps_get hy ey
    have e12 : d2 = d := Option.some.inj (ed2.symm.trans ed)
    subst e12
    have sT := same_upd (o := HO.tup [x, y]) nT
    have s2 := (base hs).trans sT
    refine ⟨T, [x, y], rfl, SqT.of upd_same, rfl, x, [y], rfl, y, [], rfl, rfl, hw x y, tYes_ok (step j x y d2 _ _ ed (dp_same s2 dx) (dp_same s2 dy) fun H4 s4 => ?_)⟩
    have hD4 : H4 D = some (.lst ((List.replicate j true).map V.bl)) := s4 _ _ (sT _ _ hD)
    refine ⟨_, hD4, by rw [List.length_map, List.length_replicate]; exact small1000 (by omega), fun c o nc e => ?_, ?_⟩
    · rw [upd_ne (fun z => nc (List.mem_singleton.mpr z))]
      exact s4 _ _ (sT _ _ (hs c o nc e))
    · rw [upd_same, List.replicate_succ', List.map_append]
      rfl
abbrev sSame : Stmt := topS 22
abbrev sBox : Stmt := topS 23
section
variable {P : Program} {w : World} {K : PySem.W.Frag} {mg : Str → Option Value} {base : Heap}
theorem none_ok {f : Addr} {fd : FuncData} {ps : List Str} {sp : Sp} (no : ∀ vs H Q E, ¬ sp vs H Q E) : FnOk P w K mg base CX0 0 f fd ps sp :=
  ⟨fun vs H Q E h => absurd h (no vs H Q E), fun A outer s H args us vs Q E _ _ _ _ h => absurd h (no vs H Q E)⟩
/-! ### _law_same, of what is the same -/
def spSame (K : PySem.W.Frag) (N : Nat) : Sp := fun vs H Q _ => ∃ (n : Nat) (v u : V) (d : PyData), N = n + 1 ∧ vs = [v, u] ∧ Dp K H v d ∧ Dp K H u d ∧ okD d n = true ∧ ∀ (H' : Hp), Same H H' → Q (.bl true) H'
theorem scSame : FnScope ["_law_found", "_law_due", "_law_alike", "_law_mine", "_law_its"] ["_law_found", "_law_due"] (defScope sSame) :=
  ⟨rfl, rfl, rfl, by decide +kernel, rfl, by decide +kernel, by decide +kernel⟩
theorem ok_same {f : Addr} {fd : FuncData} (F : Fun K "_law_same" "_law_same" sSame f fd) (bF : Binds K fd ["_law_found", "_law_due"] []) (mF : mg "_law_same" = some (.ref f)) (mi : mg "isinstance" = none) (ml : mg "list" = none) (mt : mg "tuple" = none)
    (me : mg "len" = none) (ma : mg "all" = none) (mz : mg "zip" = none) (mb : mg "bool" = none) (ms : mg "str" = none) (mn : mg "int" = none) :
    ∀ N : Nat, FnOk P w K mg base CX0 N f fd ["_law_found", "_law_due"] (spSame K N) := by
  intro N
  induction N with
  | zero =>
    refine none_ok fun vs H Q E h => ?_
    obtain ⟨n, _, _, _, h, _⟩ := h
    omega
  | succ N ih =>
    refine F.ok scSame (fun vs H Q E h => ?_) (fun cdv A outer s H vs Q E hr h => ?_)
    · obtain ⟨n, v, u, d, _, rfl, _⟩ := h
      rfl
    · obtain ⟨n, v, u, d, hN, rfl, hv, hu, hok, q⟩ := h
      have eN : N = n := by omega
      subst eN
      refine ⟨_, pss_cons (ps_if (pt_val (pe_callB cr_isSeq (by rfl) mi boot_isinstance (pa_cons (pv 1) (pa_cons (pe_tup (pa_cons (pe_bltn (v := .ty "list") (by rfl) ml (by decide +kernel) rfl) (pa_cons (pe_bltn (v := .ty "tuple") (by rfl) mt (by decide +kernel) rfl) pa_nil))) pa_nil))))
          (pss_cons (ps_if (PW.pt (pw_or (pt_cmpR op_ne (pe_callB (cr_isOne "list") (by rfl) mi boot_isinstance (pa_cons (pv 0) (pa_cons (pe_bltn (v := .ty "list") (by rfl) ml (by decide +kernel) rfl) pa_nil))) (pe_callB (cr_isOne "list") (by rfl) mi boot_isinstance (pa_cons (pv 1) (pa_cons (pe_bltn (v := .ty "list") (by rfl) ml (by decide +kernel) rfl) pa_nil))) (nomark _))
              (pw_or1 (pt_cmpR op_ne (pe_callB (cr_isOne "tuple") (by rfl) mi boot_isinstance (pa_cons (pv 0) (pa_cons (pe_bltn (v := .ty "tuple") (by rfl) mt (by decide +kernel) rfl) pa_nil))) (pe_callB (cr_isOne "tuple") (by rfl) mi boot_isinstance (pa_cons (pv 1) (pa_cons (pe_bltn (v := .ty "tuple") (by rfl) mt (by decide +kernel) rfl) pa_nil))) (nomark _)))))
            (pss_one (ps_ret pe_bl)) pss_nil)
          (pss_one (ps_ret (pe_and (pe_cmpR op_eq (pe_callB call_len_seq (by rfl) me PySem.boot_len (pa_cons (pv 0) pa_nil)) (pe_callB call_len_seq (by rfl) me PySem.boot_len (pa_cons (pv 1) pa_nil)) (nomark _))
            (pe_one (pe_callB (cr_all rfl) (by rfl) ma boot_all (pa_cons
              (pe_lc (own := [("_law_mine", 3), ("_law_its", 4)]) (g := gTup K 2 (gCons (gName 3) (gCons (gName 4) gNil))) (tt := tYes) rfl scSame.nd (pi_zipA (by rfl) mz (pa_cons (pv 0) (pa_cons (pv 1) pa_nil)))
                (blkOk_by (N := ["_law_found", "_law_due", "_law_alike", "_law_mine", "_law_its"]) (sc := defScope sSame) (by decide +kernel))
                (fun _ _ _ _ _ => pg_tup rfl (pgs_cons (pg_name (i := 3) scSame.nd rfl (.inl rfl)) (pgs_cons (pg_name (i := 4) scSame.nd rfl (.inl rfl)) pgs_nil))) (fun _ _ _ _ _ => pts_nil)
                (fun _ _ _ _ _ => pe_call ih hr (by rfl) mF F.kp bF .nil pass0 (pa_cons (pv 3) (pa_cons (pv 4) pa_nil)))) pa_nil))))))) pss_nil)
        (pss_cons (ps_if (PW.pt (pw_or (pt_cmpR op_isN (pv 1) pe_non (nomark _)) (pw_or1 (pt_val (pe_callB cr_isBS (by rfl) mi boot_isinstance (pa_cons (pv 1) (pa_cons (pe_tup (pa_cons (pe_bltn (v := .ty "bool") (by rfl) mb (by decide +kernel) rfl) (pa_cons (pe_bltn (v := .ty "str") (by rfl) ms (by decide +kernel) rfl) pa_nil))) pa_nil)))))))
          (pss_cons (ps_set (i := 2) scSame.nd rfl (.inl rfl) (pe_and
              (pe_cmpR op_eq (pe_callB (cr_isOne "bool") (by rfl) mi boot_isinstance (pa_cons (pv 0) (pa_cons (pe_bltn (v := .ty "bool") (by rfl) mb (by decide +kernel) rfl) pa_nil))) (pe_callB (cr_isOne "bool") (by rfl) mi boot_isinstance (pa_cons (pv 1) (pa_cons (pe_bltn (v := .ty "bool") (by rfl) mb (by decide +kernel) rfl) pa_nil))) (nomark _))
              (pe_one (pe_cmpR op_eq (pe_cmpR op_isN (pv 0) pe_non (nomark _)) (pe_cmpR op_isN (pv 1) pe_non (nomark _)) (nomark _)))))
            (pss_one (ps_ret (pe_and (pe_cmpR op_eq (pv 0) (pv 1) (nomark _)) (pe_one (pv 2))))))
          pss_nil)
        (pss_one (ps_ret (pe_and (pe_callB (cr_isOne "int") (by rfl) mi boot_isinstance (pa_cons (pv 0) (pa_cons (pe_bltn (v := .ty "int") (by rfl) mn (by decide +kernel) rfl) pa_nil)))
          (pe_and (pe_not (pe_callB (cr_isOne "bool") (by rfl) mi boot_isinstance (pa_cons (pv 0) (pa_cons (pe_bltn (v := .ty "bool") (by rfl) mb (by decide +kernel) rfl) pa_nil))))
          (pe_one (pe_cmpR op_eq (pv 0) (pv 1) (nomark _)))))))), ?_⟩
      refine ⟨_, rfl, by show 2 ≤ sizeLine; decide, fun t nt => ⟨_, _, d, rfl, upd_same, dp_same (same_upd nt) hu, _, rfl, ?_⟩⟩
      have s1 : Same H (upd H t (.tup [.ty "list", .ty "tuple"])) := same_upd nt
      replace hv := dp_same s1 hv
      replace hu := dp_same s1 hu
      generalize upd H t (.tup [.ty "list", .ty "tuple"]) = H1 at s1 hv hu
      cases hv with
      | non =>
        cases hu
        have hv : ∀ {H2 : Hp}, Dp K H2 .non .none := .non
        refine iteF ⟨_, rfl, rfl, _, rfl, iteD rfl (iteT ?_)⟩
        refine ⟨_, rfl, ⟨_, _, rfl, hv, false, (show kitB "NoneType" "bool" = some false by decide +kernel), _, rfl, ⟨_, _, rfl, hv, false, (show kitB "NoneType" "bool" = some false by decide +kernel), rfl, _, rfl, iteD rfl ?_⟩⟩⟩
        refine ⟨_, rfl, rfl, _, rfl, rfl, rfl, ?_⟩
        exact ⟨_, rfl, _, rfl, rfl, _, rfl, iteD rfl ⟨_, rfl, q_true rfl (q _ s1)⟩⟩
      | bl c =>
        cases hu
        have hv : ∀ {H2 : Hp}, Dp K H2 (.bl c) (.bool c) := .bl c
        refine iteF ⟨_, rfl, rfl, _, rfl, iteDN (fun z => nomatch z) ?_⟩
        refine ⟨_, rfl, by show 2 ≤ sizeLine; decide, fun t2 nt2 => ⟨_, _, _, rfl, upd_same, hv, _, rfl, iteT ?_⟩⟩
        refine ⟨_, rfl, ⟨_, _, rfl, hv, true, (show kitB "bool" "bool" = some true by decide +kernel), _, rfl, ⟨_, _, rfl, hv, true, (show kitB "bool" "bool" = some true by decide +kernel), rfl, _, rfl, iteD rfl ?_⟩⟩⟩
        refine ⟨_, rfl, rfl, _, rfl, rfl, rfl, ?_⟩
        exact ⟨_, rfl, _, rfl, rfl, _, rfl, iteD rfl ⟨_, rfl, q_true rfl (q _ (s1.trans (same_upd nt2)))⟩⟩
      | int c =>
        cases hu
        have hv : ∀ {H2 : Hp}, Dp K H2 (.int c) (.int c) := .int c
        refine iteF ⟨_, rfl, rfl, _, rfl, iteDN (fun z => nomatch z) ?_⟩
        refine ⟨_, rfl, by show 2 ≤ sizeLine; decide, fun t2 nt2 => ⟨_, _, _, rfl, upd_same, hv, _, rfl, iteF ?_⟩⟩
        refine ⟨_, rfl, ⟨_, _, rfl, hv, true, (show kitB "int" "int" = some true by decide +kernel), _, rfl, iteT ⟨_, rfl, ⟨_, _, rfl, hv, false, (show kitB "int" "bool" = some false by decide +kernel), _, rfl, _, rfl, iteT ⟨_, rfl, _, rfl, rfl, q_true rfl (q _ (s1.trans (same_upd nt2)))⟩⟩⟩⟩⟩
      | str c =>
        cases hu
        have hv : ∀ {H2 : Hp}, Dp K H2 (.str c) (.str c) := .str c
        refine iteF ⟨_, rfl, rfl, _, rfl, iteDN (fun z => nomatch z) ?_⟩
        refine ⟨_, rfl, by show 2 ≤ sizeLine; decide, fun t2 nt2 => ⟨_, _, _, rfl, upd_same, hv, _, rfl, iteT ?_⟩⟩
        refine ⟨_, rfl, ⟨_, _, rfl, hv, false, (show kitB "str" "bool" = some false by decide +kernel), _, rfl, ⟨_, _, rfl, hv, false, (show kitB "str" "bool" = some false by decide +kernel), rfl, _, rfl, iteD rfl ?_⟩⟩⟩
        refine ⟨_, rfl, rfl, _, rfl, rfl, rfl, ?_⟩
        exact ⟨_, rfl, _, rfl, rfl, _, rfl, iteD rfl ⟨_, rfl, q_true rfl (q _ (s1.trans (same_upd nt2)))⟩⟩
      | lst h1 h2 =>
        rename_i a xs ds
        cases hu with
        | lst g1 g2 =>
        rename_i a' ys
        obtain ⟨m, hm, hlen, hok2⟩ := ok_seq (xs := ds) (.inl rfl) hok
        have l1 := dps_len h2
        have l2 := dps_len g2
        have hv : Dp K H1 (.ref a) _ := .lst h1 h2
        have hu : Dp K H1 (.ref a') _ := .lst g1 g2
        refine iteT ⟨_, rfl, ⟨_, _, rfl, hv, true, (show kitB "list" "list" = some true by decide +kernel), _, rfl, ⟨_, _, rfl, hu, true, (show kitB "list" "list" = some true by decide +kernel), rfl, _, rfl, iteNS rfl ?_⟩⟩⟩
        refine ⟨_, rfl, ⟨_, _, rfl, hv, false, (show kitB "list" "tuple" = some false by decide +kernel), _, rfl, ⟨_, _, rfl, hu, false, (show kitB "list" "tuple" = some false by decide +kernel), rfl, _, rfl, iteNS rfl ?_⟩⟩⟩
        refine ⟨_, rfl, _, xs, rfl, .inl h1, _, rfl, _, ys, rfl, .inl g1, rfl, _, rfl, iteD (by rw [l1, l2]) ?_⟩
        refine ⟨_, rfl, _, rfl, a, a', xs, ys, rfl, .inl ⟨h1, g1, fun D nD => lc_same (walk_zip (n := xs.length) (by omega)) h2 g2 rfl nD (by omega) (fun H2 s2 => ⟨Same.seq s2 h1, Same.seq s2 g1⟩) (fun _ _ => rfl)
          (fun j x y e H2 Q2 he dx dy k2 => ⟨_, rfl, _, rfl, m, x, y, e, by omega, rfl, dx, dy, okDs_get hok2 he, k2⟩) fun H2 s2 hD2 => ⟨D, List.replicate xs.length true, rfl, SqL.of hD2, ?_⟩⟩⟩
        rw [rep_all]
        exact q _ (s1.trans fun c o e => s2 c o (fun z => ne_of_none e nD (List.mem_singleton.mp z)) e)
      | tup h1 h2 =>
        rename_i a xs ds
        cases hu with
        | tup g1 g2 =>
        rename_i a' ys
        obtain ⟨m, hm, hlen, hok2⟩ := ok_seq (xs := ds) (.inr rfl) hok
        have l1 := dps_len h2
        have l2 := dps_len g2
        have hv : Dp K H1 (.ref a) _ := .tup h1 h2
        have hu : Dp K H1 (.ref a') _ := .tup g1 g2
        refine iteT ⟨_, rfl, ⟨_, _, rfl, hv, false, (show kitB "tuple" "list" = some false by decide +kernel), _, rfl, ⟨_, _, rfl, hu, false, (show kitB "tuple" "list" = some false by decide +kernel), rfl, _, rfl, iteNS rfl ?_⟩⟩⟩
        refine ⟨_, rfl, ⟨_, _, rfl, hv, true, (show kitB "tuple" "tuple" = some true by decide +kernel), _, rfl, ⟨_, _, rfl, hu, true, (show kitB "tuple" "tuple" = some true by decide +kernel), rfl, _, rfl, iteNS rfl ?_⟩⟩⟩
        refine ⟨_, rfl, _, xs, rfl, .inr h1, _, rfl, _, ys, rfl, .inr g1, rfl, _, rfl, iteD (by rw [l1, l2]) ?_⟩
        refine ⟨_, rfl, _, rfl, a, a', xs, ys, rfl, .inr ⟨h1, g1, fun D nD => lc_same (walk_zipT (n := xs.length) (by omega)) h2 g2 rfl nD (by omega) (fun H2 s2 => ⟨same_seqT s2 h1, same_seqT s2 g1⟩) (fun _ _ => rfl)
          (fun j x y e H2 Q2 he dx dy k2 => ⟨_, rfl, _, rfl, m, x, y, e, by omega, rfl, dx, dy, okDs_get hok2 he, k2⟩) fun H2 s2 hD2 => ⟨D, List.replicate xs.length true, rfl, SqL.of hD2, ?_⟩⟩⟩
        rw [rep_all]
        exact q _ (s1.trans fun c o e => s2 c o (fun z => ne_of_none e nD (List.mem_singleton.mp z)) e)
end
end KV

namespace KV
open PySem PySem.Spec PyProof.Rows L2 RZ
section
variable {P : Program} {w : World} {K : PySem.W.Frag} {mg : Str → Option Value} {base : Heap}
/-! ### _law_box -/
def spBox (K : PySem.W.Frag) : Sp := fun vs H Q _ => ∃ (a : Addr) (ns : List Int) (k : Nat), vs = [.ref a, .int k] ∧ SqL K H a (ns.map V.int) ∧ k < 10 ∧ ns.length ≤ 63 ∧
  ∀ (p : Addr) (H' : Hp), Same H H' → H p = none → BoxAt H' p 0 → Q (.ref p) H'
theorem scBox : FnScope ["_law_script", "_law_k", "_law_cell"] ["_law_script", "_law_k"] (defScope sBox) :=
  ⟨rfl, rfl, rfl, by decide +kernel, rfl, by decide +kernel, by decide +kernel⟩
theorem ok_box {f : Addr} {fd : FuncData} {k : Nat} (F : Fun K "_law_box" "_law_box" sBox f fd) (mi : mg "int" = none) (me : mg "len" = none) (mb : mg "abs" = none) : FnOk P w K mg base CX0 (k + 1) f fd ["_law_script", "_law_k"] (spBox K) := by
  refine F.ok scBox (fun vs H Q E h => ?_) (fun cdv A outer s H vs Q E hr h => ?_)
  · obtain ⟨a, ns, k, rfl, _⟩ := h
    rfl
  · obtain ⟨a, ns, k, rfl, hS, hk, hl, q⟩ := h
    refine ⟨_, pss_cons (ps_set (i := 2) scBox.nd rfl (.inl rfl) (pe_ifExp (pt_cmpR op_lt (pv 1) (pe_callB call_len_seq (by rfl) me PySem.boot_len (pa_cons (pv 0) pa_nil)) (nomark _)) (pe_ix ix_seq (pv 0) (pv 1) (fun _ _ => rfl)) pe_int))
      (pss_one (ps_ret (pe_lst (pa_cons (pe_op op_mul (pe_callB call_abs (by rfl) mb boot_abs (pa_cons (pv 2) pa_nil)) (pe_callTy call_int1 (by rfl) mi PyProof.Rows.boot_int (pa_cons (pe_cmpR op_ge (pe_callB call_abs (by rfl) mb boot_abs (pa_cons (pv 2) pa_nil)) (pe_op op_pow pe_int pe_int) (nomark _)) pa_nil)))
        (pa_cons (pe_op op_add (pe_op op_add (pe_op op_mod (pe_callTy call_int1 (by rfl) mi PyProof.Rows.boot_int (pa_cons (pv 2) pa_nil)) pe_int) (pe_op op_mul pe_int (pv 1))) pe_int) (pa_cons pe_int pa_nil)))))), ?_⟩
    -- the cell
    refine ⟨_, rfl, _, rfl, a, _, rfl, .inl hS, _, _, rfl, rfl, _, rfl, ite2 (fun e => ?_) (fun e => ?_)⟩
    · have e1 : k < ns.length := by
        have e2 := of_decide_eq_true e
        rw [List.length_map] at e2
        omega
      refine ⟨_, rfl, _, rfl, .inl ⟨a, _, k, .int ns[k], rfl, rfl, hS, atI_nat (by rw [List.getElem?_map, List.getElem?_eq_getElem e1]; rfl), ?_⟩⟩
      generalize ns[k] = c
      refine ⟨_, rfl, _, rfl, _, rfl, _, rfl, _, _, rfl, rfl, ⟨by decide, by decide, by decide⟩, _, _, rfl, rfl, .inr ⟨_, rfl, _, _, rfl, rfl, .inr ?_, _, rfl, .inl ⟨_, rfl, _, _, rfl, rfl, (by show (0 : Int) < _; decide), _, rfl, _, _, rfl, rfl, .inl ⟨by decide, by decide⟩, _, _, rfl, rfl, _, _, rfl, rfl, by show 3 ≤ sizeLine; decide, fun p np => q p _ (same_upd np) np ⟨_, _, _, upd_same, ?_, ?_, by decide, by decide⟩⟩⟩⟩
      · cases decide ((10 : Int) ^ (18 : Int).toNat ≤ if c < 0 then -c else c) <;> exact ⟨by decide, by decide⟩
      · have h1 : 0 ≤ c % 2305843009213693951 := Int.emod_nonneg _ (by decide)
        omega
      · have h2 : c % 2305843009213693951 < 2305843009213693951 := Int.emod_lt_of_pos _ (by decide)
        omega
    · refine ?_
      have c : Int := 0
      refine ⟨_, rfl, _, rfl, _, rfl, _, rfl, _, _, rfl, rfl, ⟨by decide, by decide, by decide⟩, _, _, rfl, rfl, .inr ⟨_, rfl, _, _, rfl, rfl, .inr ?_, _, rfl, .inl ⟨_, rfl, _, _, rfl, rfl, (by show (0 : Int) < _; decide), _, rfl, _, _, rfl, rfl, .inl ⟨by decide, by decide⟩, _, _, rfl, rfl, _, _, rfl, rfl, by show 3 ≤ sizeLine; decide, fun p np => q p _ (same_upd np) np ⟨_, _, _, upd_same, ?_, ?_, by decide, by decide⟩⟩⟩⟩
      · cases decide ((10 : Int) ^ (18 : Int).toNat ≤ if c < 0 then -c else c) <;> exact ⟨by decide, by decide⟩
      · have h1 : 0 ≤ c % 2305843009213693951 := Int.emod_nonneg _ (by decide)
        omega
      · have h2 : c % 2305843009213693951 < 2305843009213693951 := Int.emod_lt_of_pos _ (by decide)
        omega
end
end KV

namespace KV
open PySem PySem.Spec PyProof.Rows L2 PySem.Froz
/-! ### a set of texts -/
def TxSet (P : Program) (w : World) (h : Heap) (a : Addr) (l : List Str) : Prop :=
  ∃ D : SD, h.get? a = some (sObj "set" D) ∧ TxOk P w D l ∧ l.Nodup ∧ l.length < scanBound ∧ Ris D.2.2.place.toList ∧ (w.params.followText "set-order" = true ∨ D.2.2.led = true)
section
variable {P : Program} {w : World} {A : Around} {E : Value → Shared → Prop} {s : Shared} {a : Addr} {l : List Str}
theorem TxSet.keep {h h' : Heap} (R : TxSet P w h a l) (k : ∀ o, h.get? a = some o → h'.get? a = some o) : TxSet P w h' a l := by
  obtain ⟨D, e, z⟩ := R
  exact ⟨D, k _ e, z⟩
theorem TxSet.live {h : Heap} (R : TxSet P w h a l) : a < h.objs.size := by
  obtain ⟨D, e, _⟩ := R
  exact Heap.lt_size e
theorem tail_ris {ep : Nat} {es : Array (Int × Value)} {t : SetTable} {b : Bool} (r : Ris t.place.toList) : Ris (tailTx ep es t b).2.2.place.toList := by
  unfold tailTx
  split
  · exact relayAll_ris _ _ _
  · exact r
theorem tail_led {ep : Nat} {es : Array (Int × Value)} {t : SetTable} {b : Bool} : (tailTx ep es t b).2.2.led = t.led := by
  unfold tailTx
  split
  · exact relayAll_led _ _ _
  · rfl
theorem addTx_ris {h : Int} {v : Value} {D : SD} (r : Ris D.2.2.place.toList) : Ris (addTx h v D).2.2.place.toList := by
  have q := layNew_ris D.2.2 D.1 h v r
  exact tail_ris (by split <;> exact q)
theorem addTx_led {h : Int} {v : Value} {D : SD} : (addTx h v D).2.2.led = D.2.2.led := by
  have q := layNew_led D.2.2 D.1 h v
  refine Eq.trans tail_led ?_
  split <;> exact q
theorem tx_add {k : Str} {u : Tok} {Q : Bool → Shared → Prop} (R : TxSet P w s.heap a l) (room : l.length + 1 < scanBound)
    (hQ : ∀ (b : Bool) (h' : Heap) (l' : List Str), Heap.SameBut a s.heap h' → TxSet P w h' a l' → (∀ x, x ∈ l' ↔ x = k ∨ x ∈ l) → l'.length ≤ l.length + 1 → Q b { s with heap := h' }) :
    wpAny (model P w) A (setAddHashed a (.str k u) (hashStr w k)) Q E s := by
  obtain ⟨D, ho, F, nd, hb, hr, hl⟩ := R
  by_cases hk : k ∈ l
  · obtain ⟨es, ep, t⟩ := D
    have hkey : (strKind P w).is k (.str k u) = true := is_str k u
    have hsm : es.size < scanBound := by
      have e : es.size = l.length := F.sz
      omega
    unfold setAddHashed setAddHashedIn
    refine wpAny_holding (wpAny_bind (wpAny_setState_of (o := sObj "set" (es, ep, t)) ho rfl F.fit ?_))
    dsimp only
    rw [byScan_of (x := Value.str k u) rfl hsm F.el]
    simp only [↓reduceIte]
    unfold setAddByScan
    refine wpAny_bind (wpAny_bind (wpAny_rule (wpAny_bind (wpAny_setScan_of (knd := strKind P w) (k := k) (o := sObj "set" (es, ep, t)) hkey ho rfl F.fit F.el ?_))))
    cases hf : List.findIdx? (fun e => (strKind P w).is k e.2) es.toList with
    | some j => exact wpAny_pure (wpAny_pure (hQ _ s.heap l (Heap.SameBut.refl a s.heap) ⟨_, ho, F, nd, hb, hr, hl⟩ (fun x => ⟨.inr, fun z => z.elim (fun e => e ▸ hk) id⟩) (Nat.le_succ _)))
    | none =>
      obtain ⟨e, he, q⟩ := (F.mem k).mp hk
      have c := List.findIdx?_eq_none_iff.mp hf e he
      rw [q] at c
      cases c
  · refine add_x ho F hk room (hQ true _ (k :: l) (Heap.SameBut.update s.heap a _) ⟨_, get_upd _ ho rfl, add_ok u F, List.nodup_cons.mpr ⟨hk, nd⟩, room, addTx_ris hr, ?_⟩ (fun x => List.mem_cons) (Nat.le_refl _))
    exact hl.imp id fun z => addTx_led.trans z
theorem tx_fresh {h : Heap} (ho : h.get? a = some { cls := .type "set", dict := none, data := .set #[] 0 (.fresh 0 0 (!w.params.followText "set-order")) }) : TxSet P w h a [] := by
  refine ⟨(#[], 0, .fresh 0 0 (!w.params.followText "set-order")), ho, TxOk.nil rfl, List.nodup_nil, by decide, List.Pairwise.nil, ?_⟩
  cases e : w.params.followText "set-order" with
  | true => exact .inl rfl
  | false => exact .inr rfl
/-- set.update of a walk over texts -/
theorem tx_loop {I : Addr} {fp wr : List Addr} {G : Array GenState → Array GenState → Prop} {n : Nat} {Pv : Nat → Value → Prop} {St : Nat → Shared → Prop} {R : Result → Shared → Prop}
    (W : WalksS P w A.in1 I fp wr G n Pv St) (hf : a ∉ fp) (xs : List Str) (hn : n = xs.length) (hb : xs.length + 1 < scanBound) (hval : ∀ i v, Pv i v → ∃ k t, xs[i]? = some k ∧ v = .str k t) :
    ∀ (m i : Nat) (s : Shared), n = i + m → St i s → (∃ l, l.length ≤ i ∧ (∀ x, x ∈ l ↔ x ∈ xs.take i) ∧ TxSet P w s.heap a l) →
      (∀ s' l, Moved (a :: wr) G s s' → l.length ≤ n → (∀ x, x ∈ l ↔ x ∈ xs) → TxSet P w s'.heap a l → R (.ok (.ret .none)) s') →
      codeAny (model P w) A (.builtin "set.update.loop" ⟨[.ref a, .ref I], []⟩) R s := by
  have ha : a ∉ wr := fun z => hf (W.sub _ z)
  intro m
  induction m with
  | zero =>
    rintro i s en st ⟨l, hl, hm, hS⟩ fin
    have ei : i = n := by omega
    subst ei
    have all : xs.take i = xs := List.take_of_length_le (Nat.le_of_eq hn.symm)
    rw [all] at hm
    refine codeAny_builtin F.entry_set_update_loop (Around.under_plainId F.plain_set_update_loop _ ▸ wpAny_bind (W.done s _ _ st fun s' mv => wpAny_pure (fin s' l (mv.mono fun b z => List.mem_cons_of_mem _ z) hl hm (hS.keep fun o e => mv.heap a o ha e))))
  | succ m ih =>
    rintro i s en st ⟨l, hl, hm, hS⟩ fin
    have hi : i < n := by omega
    refine codeAny_builtin F.entry_set_update_loop (Around.under_plainId F.plain_set_update_loop _ ▸ wpAny_bind (W.item i s _ _ hi st fun v s1 pv st1 mv => ?_))
    obtain ⟨k, t, hk, rfl⟩ := hval i v pv
    have R1 : TxSet P w s1.heap a l := hS.keep fun o e => mv.heap a o ha e
    show wpAny _ A.in1 (holding [Value.str k t] (setAdd a (.str k t)) >>= _) _ _ s1
    refine wpAny_bind (wpAny_holding ?_)
    unfold setAdd
    refine wpAny_holding (wpAny_bind ((strKind P w).pyHash (k := k) (is_str _ _) ?_))
    refine tx_add (s := { s1 with toks := s1.toks + 1 }) R1 (by omega) fun b h' l' sb R2 hm2 hl2 => ?_
    refine wpAny_pure ⟨plainId_quiet F.plain_set_update_loop _, ih (i + 1) _ (by omega) (W.frame _ s1 _ _ st1 (Nat.le_succ _) fun b hb o e => (sb.2 b (fun z : b = a => hf (z ▸ hb))).trans e) ⟨l', by omega, fun x => ?_, R2⟩ fun s2 l2 mv2 h2 h3 h4 => ?_⟩
    · rw [hm2 x, hm x, List.take_add_one, hk, List.mem_append]
      show _ ↔ _ ∨ x ∈ [k]
      rw [List.mem_singleton]
      exact Or.comm
    · exact fin s2 l2 (Moved.trans W.gtrans ((mv.mono fun b z => List.mem_cons_of_mem _ z).then_heap (Nat.le_succ _) fun b o hb e => (sb.2 b (fun z : b = a => hb (z ▸ List.mem_cons_self))).trans e) mv2) h2 h3 h4
end
end KV

namespace KV
open PySem PySem.Spec PyProof.Rows L2 PySem.Froz
abbrev nob (w : World) : Obj := { cls := .type "set", dict := none, data := .set #[] 0 (.fresh 0 0 (!w.params.followText "set-order")) }
section
variable {P : Program} {w : World} {A : Around} {E : Value → Shared → Prop} {s : Shared} {a : Addr} {l : List Str}
/-- set(xs) of a tuple of texts -/
theorem tx_of_tuple {p : Addr} {its : Array Value} {xs : List Str} {Q : Value → Shared → Prop} (hh : A.handled = none) (hp : s.heap.IsTuple p its) (hx : StrsAre its.toList xs) (hb : xs.length + 1 < scanBound)
    (q : ∀ (h' : Heap) (tk : Nat) (l : List Str), TxSet P w h' s.heap.objs.size l → l.length ≤ xs.length → (∀ x, x ∈ l ↔ x ∈ xs) → (∀ b o, s.heap.get? b = some o → h'.get? b = some o) → Q (.ref s.heap.objs.size) { s with heap := h', toks := tk }) :
    wpAny (model P w) A (call (.type "set") [.ref p]) Q E s := by
  have hsz : its.size = xs.length := by
    rw [← StrsAre.len_eq hx, Array.length_toList]
  have ⟨c, tl, hmro⟩ := F.called_set.mro
  have hmade := F.called_set.made
  have hsub := F.called_set.sub
  have h1 := F.called_set.notType
  have h2 := F.called_set.canCreate
  have hct := F.typeCall_set_1 (.ref p)
  refine wpAny_call (codeAny_of_tree ?_)
  show wpAny _ _ (callAny (.type "set") _) _ _ _
  refine wpAny_pure ⟨Code.quiet_builtin _ (by decide +kernel), codeAny_builtin F.entry_type_call (Around.under_plain (weight_type_call_type "set" [.ref p] []) rfl ▸ ?_)⟩
  repeat (any_goals (first | assumption | wp_step))
  refine codeAny_mono (code_set_led1 (.ref p) (E := E) (Q₁ := fun v s1 => v = .ref s.heap.objs.size ∧ s1 = { s with heap := s.heap.push (nob w) }) ⟨rfl, rfl⟩) fun r s1 hr => ?_
  rcases r with e | fl
  · exact hr
  · cases fl with
    | ret v =>
      obtain ⟨rfl, rfl⟩ := hr
      have hS : (s.heap.push (nob w)).get? s.heap.objs.size = some (nob w) := Heap.get?_push_size _ rfl
      have hT : Shared.TypeIs { s with heap := s.heap.push (nob w) } (.ref s.heap.objs.size) "set" := ⟨_, hS, rfl⟩
      have hli := F.called_set.init.lookup
      have hbi := F.called_set.init.bind (.ref s.heap.objs.size)
      repeat (any_goals (first | assumption | wp_step))
      refine codeAny_mono (codeAny_call_builtin (R := wants (fun r s2 => r = .none ∧ ∃ h' tk l, s2 = { s with heap := h', toks := tk } ∧ TxSet P w h' s.heap.objs.size l ∧ l.length ≤ xs.length ∧ (∀ x, x ∈ l ↔ x ∈ xs) ∧
          ∀ b o, s.heap.get? b = some o → h'.get? b = some o) E) F.called_set.init.plain F.entry_set_init (check_set_init_1 hT ?_)) fun r2 s2 hr2 => ?_
      · obtain ⟨⟨oc, od, odt, osl⟩, hol, hcl, nl, hdl⟩ := hp
        simp only at hcl hdl
        subst hcl; subst hdl
        have hol1 : (s.heap.push (nob w)).get? p = some { cls := .type "tuple", dict := od, data := .seq its nl, slots := osl } := Heap.get?_push_of_some _ hol
        have n1 := F.sub_tuple_set
        have n2 := F.sub_tuple_frozenset
        have n3 : (Value.type "tuple" == Value.type "dict") = false := by decide
        have hp1 : (s.heap.push (nob w)).IsTuple p its := ⟨_, hol1, rfl, nl, rfl⟩
        unfold Builtin.«set.__init__» noKeywords Builtin.Frozenset.updateFrom
        generalize hPI : pyIter = PI
        wp_walk
        subst hPI
        refine wpAny_pyIter_tuple hp1 (wpAny_bind (wpAny_runValue ?_))
        have pS : p < s.heap.objs.size := Heap.lt_size hol
        have hz : (s.heap.push (nob w)).objs.size = s.heap.objs.size + 1 := Heap.size_push ..
        have hI : p ≠ (s.heap.push (nob w)).objs.size := fun z => Nat.ne_of_lt (Nat.lt_succ_of_lt pS) (z.trans hz)
        have hh3 : A.in1.in1.in1.handled = none := by simp [hh]
        have hSf : s.heap.objs.size ∉ [(s.heap.push (nob w)).objs.size, p] := fun z => by
          rcases List.mem_cons.mp z with z | z
          · exact absurd (z.trans hz) (Nat.ne_of_lt (Nat.lt_succ_self _))
          · exact Nat.ne_of_gt pS (List.mem_singleton.mp z)
        have hval : ∀ (i : Nat) (v : Value), its[i]? = some v → ∃ k t, xs[i]? = some k ∧ v = .str k t := fun i v hv => by
          have hi : i < xs.length := hsz ▸ (Array.getElem?_eq_some_iff.mp hv).1
          obtain ⟨t, e⟩ := SS.strs_at hx i v (by rw [Array.getElem?_toList]; exact hv)
          exact ⟨xs[i], t, List.getElem?_eq_getElem hi, by rw [e, List.getD_eq_getElem?_getD, List.getElem?_eq_getElem hi] <;> rfl⟩
        refine tx_loop (a := s.heap.objs.size) ((Walks.tuple hh3 _ p hI its).toS) hSf xs hsz hb hval its.size 0 _ (by omega) ⟨⟨_, Heap.get?_push_size _ rfl, rfl, rfl⟩, hp1.push _⟩ ⟨[], Nat.le_refl 0, fun x => by simp, tx_fresh (Heap.get?_push_of_some _ hS)⟩ ?_
        rintro ⟨h', g', d', tk', os'⟩ l mv hl hm hS2
        have eg : g' = s.gens := mv.gens
        have ed : d' = s.drawn := mv.drawn
        have eo : os' = s.os := mv.os
        subst eg; subst ed; subst eo
        show wpAny _ _ _ _ _ _
        refine wpAny_pure ?_
        show wpAny _ _ (ret Value.none) _ _ _
        refine wpAny_pure ⟨rfl, h', tk', l, rfl, hS2, hsz ▸ hl, hm, fun b o e => ?_⟩
        have b0 : b < s.heap.objs.size := Heap.lt_size e
        refine mv.heap b o (fun z => ?_) (Heap.get?_push_of_some _ (Heap.get?_push_of_some _ e))
        rcases List.mem_cons.mp z with z | z
        · exact Nat.ne_of_lt b0 z
        · exact Nat.ne_of_lt (Nat.lt_succ_of_lt b0) ((List.mem_singleton.mp z).trans hz)
      · rcases r2 with e | fl2
        · exact hr2
        · cases fl2 with
          | ret v2 =>
            obtain ⟨rfl, h', tk, l, rfl, hS2, hl, hm, hk⟩ := hr2
            repeat (any_goals (first | assumption | wp_step))
            exact q _ _ l hS2 hl hm hk
          | _ => exact hr2.elim
    | _ => exact hr.elim
end
end KV

namespace KV
open PySem PySem.Spec PyProof.Rows L2 PySem.Froz
theorem perm_of_sub {α : Type} [BEq α] [LawfulBEq α] : ∀ (l m : List α), l.Nodup → (∀ x ∈ l, x ∈ m) → m.length = l.length → m.Perm l
  | [], m, _, _, h => by
    rw [List.eq_nil_of_length_eq_zero h]
  | x :: l, m, nd, sub, h => by
    obtain ⟨n1, n2⟩ := List.nodup_cons.mp nd
    have hx : x ∈ m := sub x List.mem_cons_self
    have pm := List.perm_cons_erase hx
    have q := perm_of_sub l (m.erase x) n2 (fun y hy => (List.mem_erase_of_ne (fun z => n1 (by rw [← z]; exact hy))).mpr (sub y (List.mem_cons_of_mem _ hy))) (by
      have e := pm.length_eq
      rw [List.length_cons] at e h
      omega)
    exact pm.trans (q.cons x)
section
variable {P : Program} {w : World} {A : Around} {E : Value → Shared → Prop} {s : Shared} {a : Addr} {l : List Str}
theorem tx_sort {p : Addr} {vs : List Value} {ss : List Str} {n : Nat} {R : Fin → Shared → Prop} (ho : s.heap.get? p = some (seqObj "list" vs.toArray n)) (hS : StrsAre vs ss) (hz : vs.length ≤ sizeLine)
    (q : ∀ (out : Array Value) (ts : List Str), StrsAre out.toList ts → ts.Perm ss → sortedS ts = true → R (.done (.ret .none)) { s with heap := sortedHeap s.heap p vs out }) :
    wpAny (model P w) A (Builtin.«list.sort» ⟨[.ref p], []⟩) R E s := by
  refine list_sort_treeKAny strKind_oneLt ho hS.keysOf (fun v1 v2 r e => keyKind_strs (by rw [← e]; exact hS)) hz fun st' p1 p2 => ?_
  obtain ⟨ts, q1, q2, q3⟩ := sorted_out_str hS p1 p2
  exact q _ ts q1 q2 q3
/-- sorted(a set of texts) -/
theorem tx_sorted {Q : Value → Shared → Prop} (R : TxSet P w s.heap a l) (hh : A.handled = none)
    (q : ∀ s' p (out : Array Value) (c : Nat) (ss : List Str), (∀ b o, s.heap.get? b = some o → s'.heap.get? b = some o) → s'.gens = s.gens → s'.os = s.os → s.heap.objs.size ≤ p →
      s'.heap.get? p = some (seqObj "list" out c) → StrsAre out.toList ss → sortedS ss = true → ss.Perm l → Q (.ref p) s') :
    wpAny (model P w) A (call (.builtin "sorted") [.ref a]) Q E s := by
  obtain ⟨⟨es, ep, t⟩, ho, F, nd, hb, hr, hl⟩ := R
  have hsz : es.size = l.length := F.sz
  refine Calls.call_function_entry kind_sorted plain_sorted entry_sorted (args_sorted1 _) ?_
  unfold Builtin.«sorted»
  refine wpAny_bind (m := checkCount "sorted" 1 1 _) (wpAny_pure ?_)
  have hat : SetAt s.heap a es ep t := ⟨_, ho, rfl, rfl⟩
  have hfit : t.fits es.size = true := F.fit
  have hsm : es.size < scanBound := by
    rw [hsz]
    exact hb
  refine wpAny_bind (collect_set (A := A.in1) hh hat hfit hsm hr hl fun s1 vs k1 hz g1 o1 pm => ?_)
  have len : vs.length = l.length := by rw [pm.length_eq, List.length_map, Array.length_toList, hsz]
  have allS : ∀ v ∈ vs, ∃ x tk, v = Value.str x tk := fun v hv => by
    obtain ⟨e, he, z⟩ := List.mem_map.mp (pm.mem_iff.mp hv)
    obtain ⟨⟨k, hk, _⟩, _⟩ := F.el e he
    obtain ⟨tk, e2⟩ := Value.isStrOf_shape hk
    exact ⟨k, tk, by rw [← z]; exact e2⟩
  have hS := strsAre_map vs allS
  have pl : (vs.map strOf).Perm l := perm_of_sub l _ nd (fun x hx => by
    obtain ⟨e, he, z⟩ := (F.mem x).mp hx
    obtain ⟨tk, e2⟩ := Value.isStrOf_shape z
    exact List.mem_map.mpr ⟨e.2, pm.mem_iff.mpr (List.mem_map.mpr ⟨e, he, rfl⟩), by rw [e2] <;> rfl⟩) (by rw [List.length_map]; exact len)
  have hz64 : vs.length ≤ sizeLine := by
    rw [len]
    exact fits_of_scanBound hb
  refine wpAny_bind (wpAny_newList ?_ hz64)
  have hL : (s1.heap.push (seqObj "list" vs.toArray 0)).get? s1.heap.objs.size = some (seqObj "list" vs.toArray 0) := Heap.get?_push_size _ rfl
  refine wpAny_bind (wpAny_holding (wpAny_call_entry slot_list_sort ⟨_, hL, rfl⟩ entry_list_sort (tx_sort hL hS hz64 fun out ss q1 q2 q3 => ⟨_, rfl, ?_⟩) (args_list_sort _)))
  obtain ⟨c, hc⟩ := sortedHeap_at (vs := vs) (out := out) hL
  refine wpAny_pure ⟨_, rfl, q _ s1.heap.objs.size out c ss (fun b u e => ?_) g1 o1 hz hc q1 q3 (q2.trans pl)⟩
  have e1 := k1 b u e
  have lt := Heap.lt_size e1
  show (sortedHeap (s1.heap.push (seqObj "list" vs.toArray 0)) s1.heap.objs.size vs out).get? b = some u
  refine (sortedHeap_old (Nat.ne_of_lt lt) (by rw [size_push']; exact Nat.lt_succ_of_lt lt)).trans ?_
  exact Heap.get?_push_of_some _ e1
end
/-! ### as objects of the hand layer -/
def TxO (P : Program) (w : World) (a : Addr) (l : List Str) : HO := .ext fun h => TxSet P w h a l
section
variable {X : Cx}
theorem txO_new {P : Program} {w : World} {H : Hp} {h : Heap} {a : Addr} {l : List Str} (R : TxSet P w h a l) : ObjOk P w H h a (TxO P w a l) :=
  ⟨R, R.elim fun D z => ⟨_, z.1⟩, fun h1 h2 p k => TxSet.keep p k⟩
theorem txO_get {pins : List (Addr × Obj)} {σ : L2.St} {H : Hp} {s : Shared} {a : Addr} {l : List Str} (I : Inv X pins σ H s) (ha : H a = some (TxO X.prog X.w a l)) : TxSet X.prog X.w s.heap a l := (I.hok a _ ha).1
/-- set(a tuple of texts) -/
def rSetT (P : Program) (w : World) (K : PySem.W.Frag) : List V → Hp → VK → Prop := fun vs H Q => ∃ (p : Addr) (xs : List Str), vs = [.ref p] ∧ SqT K H p (xs.map V.str) ∧ xs.length ≤ 1000 ∧
  ∀ (a : Addr) (l : List Str), H a = none → (∀ x, x ∈ l ↔ x ∈ xs) → l.length ≤ xs.length → Q (.ref a) (upd H a (TxO P w a l))
theorem cr_setT (hc : X.calm = true) : CallR X (.type "set") (rSetT X.prog X.w X.K) := by
  intro pins s σ H vs us Q I r h
  obtain ⟨p, xs, rfl, hq, hz, q⟩ := h
  rw [Vals.ref1 r]
  obtain ⟨its, rv, pt, _⟩ := I.tuple hq
  have hx : StrsAre its.toArray.toList xs := by simpa using rv.strs
  refine tx_of_tuple (I.ok.hd hc) (show s.heap.IsTuple p its.toArray from pt) hx (by unfold scanBound; omega) fun h' tk l R hl hm k => ?_
  exact ⟨.ref _, upd H s.heap.objs.size (TxO X.prog X.w s.heap.objs.size l), I.laid k (Nat.le_refl _) (txO_new R), rfl, q _ l (I.hok.fresh (Nat.le_refl _)) hm hl⟩
/-- sorted(a set of texts) -/
def rSortedT (P : Program) (w : World) : List V → Hp → VK → Prop := fun vs H Q => ∃ (a : Addr) (l : List Str), vs = [.ref a] ∧ H a = some (TxO P w a l) ∧ l.length ≤ 1000 ∧
  ∀ (ss : List Str) (p : Addr), sortedS ss = true → ss.Perm l → l.Nodup → H p = none → Q (.ref p) (upd H p (.lst (ss.map V.str)))
theorem cr_sortedT (hc : X.calm = true) : CallR X (.builtin "sorted") (rSortedT X.prog X.w) := by
  intro pins s σ H vs us Q I r h
  obtain ⟨a, l, rfl, ha, hz, q⟩ := h
  rw [Vals.ref1 r]
  have R := txO_get I ha
  have nd : l.Nodup := R.elim fun D z => z.2.2.1
  refine tx_sorted R (I.ok.hd hc) fun s' p out c ss k g o hp hob hi hs pm => ?_
  have fits : (ss.map V.str).length ≤ sizeLine := by
    rw [List.length_map, pm.length_eq, sizeLine_eq]
    omega
  have none : H p = none := I.hok.fresh hp
  have J : Inv X pins σ (upd H p (.lst (ss.map V.str))) { s with heap := s'.heap, gens := s'.gens, drawn := s'.drawn, toks := s'.toks } :=
    I.call (ch := []) (Un.laid k hp none) (I.hok.laid k hp ⟨fits, out.toList, c, vals_of_strs hi, hob⟩) (by rw [g]; exact I.bare) (fun _ z => nomatch z)
  have e : s' = { s with heap := s'.heap, gens := s'.gens, drawn := s'.drawn, toks := s'.toks } := by
    obtain ⟨a1, a2, a3, a4, a5⟩ := s'
    obtain ⟨b1, b2, b3, b4, b5⟩ := s
    cases o
    rfl
  rw [e]
  exact ⟨.ref p, _, J, rfl, q ss p hs pm nd none⟩
end
end KV

namespace KV
open PySem PySem.Spec PyProof.Rows L2 PySem.Froz
/-! ### texts in order -/
def ltS (a b : Str) : Prop := a.cps.toList < b.cps.toList
instance (a b : Str) : Decidable (ltS a b) := by unfold ltS; infer_instance
theorem str_ext {a b : Str} (h : a.cps.toList = b.cps.toList) : a = b := by
  obtain ⟨x⟩ := a
  obtain ⟨y⟩ := b
  have e : x = y := Array.toList_inj.mp h
  rw [e]
theorem ltS_irr (a : Str) : ¬ ltS a a := List.lt_irrefl _
theorem ltS_trans {a b c : Str} (h : ltS a b) (k : ltS b c) : ltS a c := List.lt_trans h k
theorem ltS_tri {a b : Str} (h : ¬ ltS a b) (k : ¬ ltS b a) : a = b := str_ext (List.le_antisymm (List.not_lt.mp k) (List.not_lt.mp h))
theorem ltS_of {a b c : Str} (h : ¬ ltS b a) (k : ¬ ltS c b) : ¬ ltS c a := List.not_lt.mpr (List.le_trans (List.not_lt.mp h) (List.not_lt.mp k))
theorem ltS_cps (a b : Str) : ltCps a.cps.toList b.cps.toList = decide (ltS a b) := ltCps_eq _ _
/-- each is below the next -/
def ascS : List Str → Bool
  | [] => true
  | [_] => true
  | a :: b :: r => decide (ltS a b) && ascS (b :: r)
theorem ascS_pw : ∀ (l : List Str), ascS l = true → l.Pairwise ltS
  | [], _ => .nil
  | [a], _ => List.pairwise_singleton _ _
  | a :: b :: r, h => by
    have h1 : (decide (ltS a b) && ascS (b :: r)) = true := h
    rw [Bool.and_eq_true, decide_eq_true_eq] at h1
    have ih := ascS_pw (b :: r) h1.2
    refine List.pairwise_cons.mpr ⟨fun x hx => ?_, ih⟩
    rcases List.mem_cons.mp hx with rfl | hx
    · exact h1.1
    · exact ltS_trans h1.1 ((List.pairwise_cons.mp ih).1 x hx)
theorem pw_ascS : ∀ (l : List Str), l.Pairwise ltS → ascS l = true
  | [], _ => rfl
  | [a], _ => rfl
  | a :: b :: r, h => by
    show (decide (ltS a b) && ascS (b :: r)) = true
    rw [Bool.and_eq_true, decide_eq_true_eq]
    exact ⟨(List.pairwise_cons.mp h).1 b List.mem_cons_self, pw_ascS (b :: r) (List.pairwise_cons.mp h).2⟩
theorem rising_pw : ∀ (l : List Str) (p : Str), risingS p l = true → (p :: l).Pairwise fun a b => ¬ ltS b a
  | [], p, _ => List.pairwise_singleton _ _
  | x :: r, p, h => by
    have h1 : (!ltCps x.cps.toList p.cps.toList && risingS x r) = true := h
    rw [Bool.and_eq_true, ltS_cps, Bool.not_eq_true', decide_eq_false_iff_not] at h1
    have ih := rising_pw r x h1.2
    refine List.pairwise_cons.mpr ⟨fun y hy => ?_, ih⟩
    rcases List.mem_cons.mp hy with rfl | hy
    · exact h1.1
    · exact ltS_of h1.1 ((List.pairwise_cons.mp ih).1 y hy)
theorem sorted_pw {l : List Str} (h : sortedS l = true) : l.Pairwise fun a b => ¬ ltS b a := by
  cases l with
  | nil => exact .nil
  | cons x r => exact rising_pw r x h
theorem strict_of {l : List Str} (h : l.Pairwise fun a b => ¬ ltS b a) (nd : l.Nodup) : l.Pairwise ltS := by
  induction l with
  | nil => exact .nil
  | cons x r ih =>
    obtain ⟨h1, h2⟩ := List.pairwise_cons.mp h
    obtain ⟨n1, n2⟩ := List.nodup_cons.mp nd
    refine List.pairwise_cons.mpr ⟨fun y hy => Classical.byContradiction fun z => n1 ?_, ih h2 n2⟩
    rw [ltS_tri z (h1 y hy)]
    exact hy
theorem strict_eq : ∀ (l m : List Str), l.Pairwise ltS → m.Pairwise ltS → (∀ x, x ∈ l ↔ x ∈ m) → l = m
  | [], [], _, _, _ => rfl
  | [], y :: m, _, _, h => absurd ((h y).mpr List.mem_cons_self) List.not_mem_nil
  | x :: l, [], _, _, h => absurd ((h x).mp List.mem_cons_self) List.not_mem_nil
  | x :: l, y :: m, h1, h2, h => by
    obtain ⟨a1, a2⟩ := List.pairwise_cons.mp h1
    obtain ⟨b1, b2⟩ := List.pairwise_cons.mp h2
    have e : x = y := by
      refine Classical.byContradiction fun ne => ?_
      have q1 : x ∈ m := (List.mem_cons.mp ((h x).mp List.mem_cons_self)).resolve_left ne
      have q2 : y ∈ l := (List.mem_cons.mp ((h y).mpr List.mem_cons_self)).resolve_left (fun z => ne z.symm)
      exact ltS_irr _ (ltS_trans (b1 x q1) (a1 y q2))
    subst e
    have ih := strict_eq l m a2 b2 fun z => ⟨fun hz => ?_, fun hz => ?_⟩
    · rw [ih]
    · exact (List.mem_cons.mp ((h z).mp (List.mem_cons_of_mem _ hz))).resolve_left fun q => ltS_irr x (by have := a1 z hz; rw [q] at this; exact this)
    · exact (List.mem_cons.mp ((h z).mpr (List.mem_cons_of_mem _ hz))).resolve_left fun q => ltS_irr x (by have := b1 z hz; rw [q] at this; exact this)
/-- a list of texts is its set, sorted: each is below the next -/
theorem sorted_set_iff {xs l ss : List Str} (hm : ∀ x, x ∈ l ↔ x ∈ xs) (nd : l.Nodup) (hs : sortedS ss = true) (pm : ss.Perm l) : xs = ss ↔ ascS xs = true := by
  have hss := strict_of (sorted_pw hs) (pm.nodup_iff.mpr nd)
  constructor
  · rintro rfl
    exact pw_ascS _ hss
  · intro h
    exact strict_eq xs ss (ascS_pw xs h) hss fun x => ((hm x).symm.trans pm.mem_iff.symm)
end KV

namespace KV
open PySem PySem.Spec PyProof.Rows L2 RZ
abbrev sOf : Stmt := topS 12
abbrev sName : Stmt := topS 13
abbrev sNames : Stmt := topS 14
abbrev sNamed : Stmt := topS 15
section
variable {P : Program} {w : World} {K : PySem.W.Frag} {mg : Str → Option Value} {base : Heap}
theorem sgn_len (x : Str) : x.cps.toList.length = x.length := by simp [Str.length]
/-! ### _law_of -/
def spOf (K : PySem.W.Frag) : Sp := fun vs H Q _ => ∃ (b : Addr) (n : Nat) (v : V), vs = [.ref b, v] ∧ BoxAt H b n ∧ n + 1 ≤ 2 ^ 40 ∧
  ((∃ x : Str, v = .str x ∧ 0 < x.length ∧ x.length ≤ 1000 ∧ ∀ (c : Nat) (H' : Hp), c ∈ x.cps.toList → SameX [b] H H' → BoxAt H' b (n + 1) → Q (.str ⟨#[c]⟩) H') ∨
   (∃ (B : List Addr) (a : Addr) (xs : List V), v = .ref a ∧ b ∈ B ∧ (SqL K (hide B H) a xs ∨ SqT K (hide B H) a xs) ∧ 0 < xs.length ∧ xs.length ≤ 1000 ∧
     ∀ (i : Nat) (x : V) (H' : Hp), xs[i]? = some x → SameX [b] H H' → BoxAt H' b (n + 1) → Q x H'))
theorem scOf : FnScope ["_law_box_here", "_law_some"] ["_law_box_here", "_law_some"] (defScope sOf) :=
  ⟨rfl, rfl, rfl, by decide +kernel, rfl, by decide +kernel, by decide +kernel⟩
theorem ok_of {f fT : Addr} {fd fdT : FuncData} {k : Nat} (F : Fun K "_law_of" "_law_of" sOf f fd) (FT : Fun K "_law_take" "_law_take" sTake fT fdT) (bT : Binds K fdT ["_law_box_here", "_law_below"] []) (mT : mg "_law_take" = some (.ref fT))
    (mn : mg "int" = none) (ml : mg "len" = none) : FnOk P w K mg base CX0 (k + 2) f fd ["_law_box_here", "_law_some"] (spOf K) := by
  have GT : FnOk P w K mg base CX0 (k + 1) fT fdT ["_law_box_here", "_law_below"] spTake := ok_take FT mn
  refine F.ok scOf (fun vs H Q E h => ?_) (fun cdv A outer s H vs Q E hr h => ?_)
  · obtain ⟨b, n, v, rfl, _⟩ := h
    rfl
  · obtain ⟨b, n, v, rfl, hB, hn, h⟩ := h
    refine ⟨_, pss_one (ps_ret (pe_ix ix_seq (pv 1) (pe_call GT hr (by rfl) mT FT.kp bT .nil pass0 (pa_cons (pv 0) (pa_cons (pe_callB (call_len_seq.or call_len_str) (by rfl) ml PySem.boot_len (pa_cons (pv 1) pa_nil)) pa_nil))) (fun _ _ => rfl))), ?_⟩
    rcases h with ⟨x, rfl, h0, h1, q⟩ | ⟨B, a, xs, rfl, hb, hx, h0, h1, q⟩
    · refine ⟨_, rfl, _, rfl, _, rfl, .inr ⟨x, rfl, Nat.le_of_lt (small1000 h1), b, n, x.length, rfl, by omega, by omega, hB, by omega, fun r H' r0 r1 s2 b2 => ?_⟩⟩
      obtain ⟨j, rfl⟩ : ∃ j : Nat, r = j := ⟨r.toNat, by omega⟩
      have hj : j < x.cps.toList.length := by rw [sgn_len]; omega
      exact .inr (.inr ⟨x, j, x.cps.toList[j], rfl, rfl, Nat.le_of_lt (small1000 h1), atI_nat (List.getElem?_eq_getElem hj), q _ _ (List.getElem_mem hj) s2 b2⟩)
    · have hx1 : SqL K H a xs ∨ SqT K H a xs := hx.imp (hide_same B H).seq (same_seqT (hide_same B H))
      refine ⟨_, rfl, _, rfl, _, rfl, .inl ⟨a, xs, rfl, hx1, b, n, xs.length, rfl, by omega, by omega, hB, by omega, fun r H' r0 r1 s2 b2 => ?_⟩⟩
      obtain ⟨j, rfl⟩ : ∃ j : Nat, r = j := ⟨r.toNat, by omega⟩
      have hj : j < xs.length := by omega
      have e : xs[j]? = some xs[j] := List.getElem?_eq_getElem hj
      have s3 : Same (hide B H) (hide B H') := s2.hide fun c hc => by rw [List.mem_singleton.mp hc]; exact hb
      have hx2 : SqL K H' a xs ∨ SqT K H' a xs := hx.imp (fun z => (hide_same B H').seq (s3.seq z)) (fun z => same_seqT (hide_same B H') (same_seqT s3 z))
      rcases hx2 with z | z
      · exact .inl ⟨a, xs, j, _, rfl, rfl, z, atI_nat e, q j _ _ e s2 b2⟩
      · exact .inr (.inl ⟨a, xs, j, _, rfl, rfl, z, atI_nat e, q j _ _ e s2 b2⟩)
end
end KV

namespace KV
open PySem PySem.Spec PyProof.Rows L2 RZ
/-- a name: one to eight small letters -/
def wordS (x : Str) : Bool := decide (0 < x.length) && decide (x.length ≤ 8) && x.cps.toList.all fun c => decide (97 ≤ c) && decide (c ≤ 122)
theorem word_few : ((Txt.split (Str.ofString "link late kept yes no slots pipes ring nop put text all turn reap slot good") (Str.ofString " ")).all wordS && decide (0 < (Txt.split (Str.ofString "link late kept yes no slots pipes ring nop put text all turn reap slot good") (Str.ofString " ")).length) &&
    decide ((Txt.split (Str.ofString "link late kept yes no slots pipes ring nop put text all turn reap slot good") (Str.ofString " ")).length ≤ 1000)) = true := by decide +kernel
theorem letters_ok : ((Str.ofString "abcdefghijklmnopqrstuvwxyz").cps.toList.all fun c => decide (97 ≤ c) && decide (c ≤ 122)) = true := by decide +kernel
theorem glue_sing : ∀ cs : List Nat, (Str.join (Str.ofString "") (cs.map fun c => (⟨#[c]⟩ : Str))).cps.toList = cs
  | [] => rfl
  | [c] => rfl
  | c :: d :: r => by
    have ih := glue_sing (d :: r)
    show (#[c] ++ (Str.ofString "").cps ++ (Str.join (Str.ofString "") ((d :: r).map fun c => (⟨#[c]⟩ : Str))).cps : Array Nat).toList = _
    rw [Array.toList_append, Array.toList_append, ih]
    rfl
theorem sing_len (cs : List Nat) : ((cs.map fun c => (⟨#[c]⟩ : Str)).map (·.length)).sum = cs.length := by
  induction cs with
  | nil => rfl
  | cons c r ih =>
    show 1 + ((r.map fun c => (⟨#[c]⟩ : Str)).map (·.length)).sum = r.length + 1
    rw [ih, Nat.add_comm]
theorem glued_word {cs : List Nat} (h0 : 0 < cs.length) (h8 : cs.length ≤ 8) (ha : (cs.all fun c => decide (97 ≤ c) && decide (c ≤ 122)) = true) : wordS (Txt.join (Str.ofString "") (cs.map fun c => (⟨#[c]⟩ : Str))) = true := by
  have e : (Txt.join (Str.ofString "") (cs.map fun c => (⟨#[c]⟩ : Str))).cps.toList = cs := by
    show (Builtin.Str.glued (Str.ofString "") (cs.map fun c => (⟨#[c]⟩ : Str))).cps.toList = cs
    rw [StrLaws.glued_eq_join]
    exact glue_sing cs
  have el : (Txt.join (Str.ofString "") (cs.map fun c => (⟨#[c]⟩ : Str))).length = cs.length := by rw [← sgn_len, e]
  unfold wordS
  rw [e, el, ha, decide_eq_true h0, decide_eq_true h8]
  rfl
section
variable {P : Program} {w : World} {K : PySem.W.Frag} {mg : Str → Option Value} {base : Heap}
/-! ### _law_name -/
def spName (K : PySem.W.Frag) : Sp := fun vs H Q _ => ∃ (b : Addr) (n : Nat), vs = [.ref b] ∧ BoxAt H b n ∧ n + 20 ≤ 2 ^ 40 ∧
  ∀ (x : Str) (H' : Hp), wordS x = true → SameX [b] H H' → BoxAt H' b (n + 12) → Q (.str x) H'
theorem scName : FnScope ["_law_box_here", "_law_some", "_law_k"] ["_law_box_here"] (defScope sName) :=
  ⟨rfl, rfl, rfl, by decide +kernel, rfl, by decide +kernel, by decide +kernel⟩
theorem ok_name {f fT fO : Addr} {fd fdT fdO : FuncData} {k : Nat} (F : Fun K "_law_name" "_law_name" sName f fd) (FT : Fun K "_law_take" "_law_take" sTake fT fdT) (bT : Binds K fdT ["_law_box_here", "_law_below"] []) (mT : mg "_law_take" = some (.ref fT))
    (FO : Fun K "_law_of" "_law_of" sOf fO fdO) (bO : Binds K fdO ["_law_box_here", "_law_some"] []) (mO : mg "_law_of" = some (.ref fO))
    (mn : mg "int" = none) (ml : mg "len" = none) (mr : mg "range" = none) : FnOk P w K mg base CX0 (k + 3) f fd ["_law_box_here"] (spName K) := by
  have GT : FnOk P w K mg base CX0 (k + 2) fT fdT ["_law_box_here", "_law_below"] spTake := ok_take FT mn
  have GO : FnOk P w K mg base CX0 (k + 2) fO fdO ["_law_box_here", "_law_some"] (spOf K) := ok_of FO FT bT mT mn ml
  refine F.ok scName (fun vs H Q E h => ?_) (fun cdv A outer s H vs Q E hr h => ?_)
  · obtain ⟨b, n, rfl, _⟩ := h
    rfl
  · obtain ⟨b, n, rfl, hB, hn, q⟩ := h
    refine ⟨_, pss_cons (ps_if (pt_cmpR op_eq (pe_call GT hr (by rfl) mT FT.kp bT .nil pass0 (pa_cons (pv 0) (pa_cons pe_int pa_nil))) pe_int (nomark _))
        (pss_cons (ps_set (i := 1) scName.nd rfl (.inl rfl) pe_str) (pss_one (ps_ret (pe_call GO hr (by rfl) mO FO.kp bO .nil pass0 (pa_cons (pv 0) (pa_cons (pe_split (pv 1) pe_str) pa_nil)))))) pss_nil)
      (pss_one (ps_ret (pe_join pe_str (pe_lc (own := [("_law_k", 2)]) (g := gName 2) (tt := tYes) rfl scName.nd
        (pi_range1 (by rfl) mr (pa_cons (pe_op op_add pe_int (pe_call GT hr (by rfl) mT FT.kp bT .nil pass0 (pa_cons (pv 0) (pa_cons pe_int pa_nil)))) pa_nil))
        (blkOk_by (N := ["_law_box_here", "_law_some", "_law_k"]) (sc := defScope sName) (by decide +kernel))
        (fun _ _ _ _ _ => pg_name (i := 2) scName.nd rfl (Or.inl rfl)) (fun _ _ _ _ _ => pts_nil) (fun _ _ _ _ _ => pe_call GO hr (by rfl) mO FO.kp bO .nil pass0 (pa_cons (pv 0) (pa_cons pe_str pa_nil))))))), ?_⟩
    refine ⟨_, rfl, b, n, 3, rfl, by decide, by decide, hB, by omega, fun r H1 r0 r1 s1 b1 => ?_⟩
    refine ⟨rfl, _, rfl, ite2 (fun e => ?_) (fun e => ?_)⟩
    · have wf := word_few
      simp only [Bool.and_eq_true, decide_eq_true_eq] at wf
      obtain ⟨⟨w1, w2⟩, w3⟩ := wf
      refine ⟨_, rfl, _, rfl, ⟨_, rfl⟩, ⟨_, _, rfl, rfl, by decide +kernel, by decide +kernel, fun p np => ?_⟩⟩
      have pb : p ≠ b := b1.new np
      refine ⟨b, n + 1, .ref p, rfl, b1.same (same_upd np), by omega, .inr ⟨[b], p, _, rfl, List.mem_singleton.mpr rfl, .inl (SqL.of (by rw [hide_out (fun z => pb (List.mem_singleton.mp z)), upd_same])), by rw [List.length_map]; exact w2, by rw [List.length_map]; exact w3, fun i x H2 hx s2 b2 => ?_⟩⟩
      rw [List.getElem?_map] at hx
      obtain ⟨y, hy, rfl⟩ := Option.map_eq_some_iff.mp hx
      exact q y H2 (List.all_eq_true.mp w1 y (List.mem_of_getElem? hy)) (s1.trans ((SameX.of (same_upd np)).trans s2)) (b2.le (by omega))
    · refine ⟨⟨_, rfl⟩, ?_⟩
      refine ⟨_, rfl, b, n + 1, 8, rfl, by decide, by decide, b1, by omega, fun r2 H2 r20 r21 s2 b2 => ?_⟩
      obtain ⟨j, rfl⟩ : ∃ j : Nat, r2 = j := ⟨r2.toNat, by omega⟩
      refine ⟨_, _, rfl, rfl, _, rfl, by omega, by omega, fun D nD => lc_it (walk_range (lo := 0) (n := ((1 : Int) + j).toNat)) (fun i H3 => SameX [D, b] H2 H3 ∧ BoxAt H3 b (n + 2 + i) ∧ ∃ cs : List Nat, H3 D = some (.lst ((cs.map fun c => (⟨#[c]⟩ : Str)).map V.str)) ∧ cs.length = i ∧ (cs.all fun c => decide (97 ≤ c) && decide (c ≤ 122)) = true)
        ⟨sameX_upd List.mem_cons_self, ?_, [], upd_same, rfl, rfl⟩ (fun _ _ _ _ => trivial) ?_ ?_⟩
      · have pD : b ≠ D := (b2.new nD).symm
        obtain ⟨x, y, c, z, z2⟩ := b2
        exact ⟨x, y, c, by rw [upd_ne pD]; exact z, z2⟩
      · rintro i x H3 H3' hi ⟨s3, b3, cs, hD, hl, ha⟩ ⟨rfl, rfl⟩
        have pD : D ≠ b := b2.new nD
        refine ⟨rfl, tYes_ok ⟨_, rfl, b, _, _, rfl, b3, by omega, .inl ⟨_, rfl, by decide +kernel, by decide +kernel, fun c H4 hc s4 b4 => ?_⟩⟩⟩
        have hD4 : H4 D = some (.lst ((cs.map fun c => (⟨#[c]⟩ : Str)).map V.str)) := s4 D _ (fun z => pD (List.mem_singleton.mp z)) hD
        refine ⟨_, hD4, small1000 (by rw [List.length_map, List.length_map]; omega), s3.trans ((s4.sub fun z hz => List.mem_cons_of_mem _ hz).trans (sameX_upd List.mem_cons_self)), ?_, cs ++ [c], ?_, ?_, ?_⟩
        · obtain ⟨u1, u2, u3, z, z2⟩ := b4
          exact ⟨u1, u2, u3, by rw [upd_ne pD.symm]; exact z, by omega⟩
        · rw [upd_same, List.map_append, List.map_append]
          rfl
        · rw [List.length_append, hl]
          rfl
        · rw [List.all_append, ha, Bool.true_and]
          have hc2 := List.all_eq_true.mp letters_ok c hc
          simpa using hc2
      · rintro H3 ⟨s3, b3, cs, hD, hl, ha⟩
        refine ⟨_, D, _, rfl, rfl, .inl (SqL.of hD), ?_, q _ _ (glued_word (by omega) (by omega) ha) ?_ (b3.le (by omega))⟩
        · rw [sing_len, List.length_map]
          show cs.length + cs.length * 0 ≤ _
          omega
        · refine s1.trans (s2.trans fun c o z e => s3 c o (fun y => ?_) e)
          rcases List.mem_cons.mp y with y | y
          · exact ne_of_none e nD y
          · exact z y
end
end KV

namespace KV
open PySem PySem.Spec PyProof.Rows L2 RZ
/-- a letter, eight times -/
def eight (c : Nat) : Str := ⟨#[c, c, c, c, c, c, c, c]⟩
def rMul8 : R2 := fun x y H Q => ∃ c : Nat, x = .str ⟨#[c]⟩ ∧ y = .int 8 ∧ Q (.str (eight c)) H
theorem op_mul8 {X : Cx} : OpR X (binaryOp .Mult) rMul8 := by
  intro pins s σ H x y v u Q I rx ry h
  obtain ⟨c, rfl, rfl, q⟩ := h
  obtain ⟨t, rfl⟩ := rx
  obtain ⟨t2, rfl⟩ := ry
  refine PySem.P.mul_str (by decide) (fun _ _ => by show ¬ (((1 : Nat) : Int) > (2 ^ 63 - 1) / 8); decide) (fun _ _ => by show Builtin.Str.tooLong (1 * (8 : Int).toNat) = false; decide +kernel) ?_
  rw [if_neg (by decide), if_neg (by show ¬ ((8 : Int) == 1 || (1 : Nat) == 0) = true; decide)]
  have e : (⟨List.foldl (fun x1 x2 => x1 ++ x2) #[] (List.replicate (Int.toNat 8) (⟨#[c]⟩ : Str).cps)⟩ : Str) = eight c := rfl
  rw [e]
  exact ⟨by show 8 ≤ sizeLine; decide, ⟨.str (eight c), H, I.tok _, ⟨_, rfl⟩, q⟩⟩
theorem in_strs (x : Str) (xs : List Str) : inV (.str x) (xs.map V.str) = decide (x ∈ xs) := by
  unfold inV
  rw [List.any_map, Bool.eq_iff_iff, List.any_eq_true, decide_eq_true_eq]
  constructor
  · rintro ⟨y, hy, e⟩
    have e2 : (y == x) = true := e
    rw [← eq_of_beq e2]
    exact hy
  · intro h
    exact ⟨x, h, beq_self_eq_true x⟩
theorem flat_strs (xs : List Str) : (xs.map V.str).all flatV = true := by
  rw [List.all_map, List.all_eq_true]
  intro x _
  rfl
theorem eight_inj {c d : Nat} (h : eight c = eight d) : c = d := by
  have e : [c, c, c, c, c, c, c, c] = [d, d, d, d, d, d, d, d] := congrArg (fun x : Str => x.cps.toList) h
  exact (List.cons.inj e).1
theorem eight_word {c : Nat} (h : (decide (97 ≤ c) && decide (c ≤ 122)) = true) : wordS (eight c) = true := by
  show (decide (0 < 8) && decide (8 ≤ 8) && [c, c, c, c, c, c, c, c].all fun c => decide (97 ≤ c) && decide (c ≤ 122)) = true
  simp only [List.all_cons, h, List.all_nil]
  rfl
def abcs : List Nat := (Str.ofString "abcdefghijklmnopqrstuvwxyz").cps.toList
theorem abcs_nd : abcs.Nodup ∧ abcs.length = 26 := by decide +kernel
theorem fresh_word {xs : List Str} (h : xs.length < 26) : ∃ c ∈ abcs, eight c ∉ xs := by
  refine Classical.byContradiction fun no => ?_
  have all : ∀ c ∈ abcs, eight c ∈ xs := fun c hc => Classical.byContradiction fun z => no ⟨c, hc, z⟩
  have nd : (abcs.map eight).Nodup := by
    rw [List.nodup_iff_pairwise_ne, List.pairwise_map]
    exact (List.nodup_iff_pairwise_ne.mp abcs_nd.1).imp fun h e => h (eight_inj e)
  have le : (abcs.map eight).length ≤ xs.length := by
    have key : ∀ (l m : List Str), l.Nodup → (∀ x ∈ l, x ∈ m) → l.length ≤ m.length := by
      intro l
      induction l with
      | nil => intro m _ _; exact Nat.zero_le _
      | cons x l ih =>
        intro m nd sub
        obtain ⟨n1, n2⟩ := List.nodup_cons.mp nd
        have hx : x ∈ m := sub x List.mem_cons_self
        have q := ih (m.erase x) n2 fun y hy => (List.mem_erase_of_ne (fun z => n1 (by rw [← z]; exact hy))).mpr (sub y (List.mem_cons_of_mem _ hy))
        have e := (List.perm_cons_erase hx).length_eq
        rw [List.length_cons] at e ⊢
        omega
    refine key _ _ nd fun x hx => ?_
    obtain ⟨c, hc, rfl⟩ := List.mem_map.mp hx
    exact all c hc
  rw [List.length_map, abcs_nd.2] at le
  omega
end KV

namespace KV
open PySem PySem.Spec PyProof.Rows L2 RZ
theorem sameX_old {B : List Addr} {H H' : Hp} {D : Addr} (h : SameX (D :: B) H H') (n : H D = none) : SameX B H H' := fun c o z e => h c o (fun y => (List.mem_cons.mp y).elim (ne_of_none e n) z) e
theorem op_notInK {X : Cx} {K : PySem.W.Frag} (h : X.K = K) : OpR X (compareOp .NotIn) (rIn K true) := by
  subst h
  exact op_notIn_seq
section
variable {P : Program} {w : World} {K : PySem.W.Frag} {mg : Str → Option Value} {base : Heap}
/-! ### _law_names -/
def spNames (K : PySem.W.Frag) : Sp := fun vs H Q _ => ∃ (b : Addr) (n m : Nat), vs = [.ref b, .int m] ∧ m ≤ 10 ∧ BoxAt H b n ∧ n + 1000 ≤ 2 ^ 40 ∧
  ∀ (p : Addr) (xs : List Str) (H' : Hp), SameX [b] H H' → H p = none → H' p = some (.lst (xs.map V.str)) → xs.Nodup → (∀ x ∈ xs, wordS x = true) → xs.length = m → BoxAt H' b (n + 24 * m) → Q (.ref p) H'
abbrev nNames : List Str := ["_law_box_here", "_law_many_so", "_law_found", "_law_k", "_law_some", "_law_turn", "_law_letter", "_law_word"]
theorem scNames : FnScope nNames ["_law_box_here", "_law_many_so"] (defScope sNames) :=
  ⟨rfl, rfl, rfl, by decide +kernel, rfl, by decide +kernel, by decide +kernel⟩
theorem ok_names {f fN : Addr} {fd fdN : FuncData} {k : Nat} (F : Fun K "_law_names" "_law_names" sNames f fd) (FN : Fun K "_law_name" "_law_name" sName fN fdN) (bN : Binds K fdN ["_law_box_here"] []) (mN : mg "_law_name" = some (.ref fN))
    (GN : FnOk P w K mg base CX0 (k + 3) fN fdN ["_law_box_here"] (spName K)) (mr : mg "range" = none) : FnOk P w K mg base CX0 (k + 4) f fd ["_law_box_here", "_law_many_so"] (spNames K) := by
  refine F.ok scNames (fun vs H Q E h => ?_) (fun cdv A outer s H vs Q E hr h => ?_)
  · obtain ⟨b, n, m, rfl, _⟩ := h
    rfl
  · obtain ⟨b, n, m, rfl, hm, hB, hn, q⟩ := h
    refine ⟨_, pss_cons (ps_set (i := 2) scNames.nd rfl (.inr rfl) (pe_lst pa_nil))
      (pss_cons (ps_for PassesOwn.never rfl (pi_range1 (by rfl) mr (pa_cons (pv 1) pa_nil)) (pg_name (i := 3) scNames.nd rfl (.inl rfl))
        (pss_cons (ps_set (i := 4) scNames.nd rfl (.inl rfl) (pe_op op_cat
            (pe_lc (own := [("_law_turn", 5)]) (g := gName 5) (tt := tYes) rfl scNames.nd (pi_range1 (by rfl) mr (pa_cons pe_int pa_nil)) (blkOk_by (N := nNames) (sc := defScope sNames) (by decide +kernel))
              (fun _ _ _ _ _ => pg_name (i := 5) scNames.nd rfl (Or.inl rfl)) (fun _ _ _ _ _ => pts_nil) (fun _ _ _ _ _ => pe_call GN hr (by rfl) mN FN.kp bN .nil pass0 (pa_cons (pv 0) pa_nil)))
            (pe_lc (own := [("_law_letter", 6)]) (g := gName 6) (tt := tYes) rfl scNames.nd (pi_str pe_str) (blkOk_by (N := nNames) (sc := defScope sNames) (by decide +kernel))
              (fun _ _ _ _ _ => pg_name (i := 6) scNames.nd rfl (Or.inl rfl)) (fun _ _ _ _ _ => pts_nil) (fun _ _ _ _ _ => pe_op op_mul8 (pv 6) pe_int))))
        (pss_one (ps_expr (pe_bm PySem.F.plainAttrs_list PySem.F.slot_list_append PySem.F.type_list_append mt_append (pv 2) (pa_cons (pe_ix ix_seq
            (pe_lc (own := [("_law_word", 7)]) (g := gName 7) rfl scNames.nd (pi_list (pv 4)) (blkOk_by (N := nNames) (sc := defScope sNames) (by decide +kernel))
              (fun _ _ _ _ _ => pg_name (i := 7) scNames.nd rfl (Or.inl rfl)) (fun _ _ _ _ _ => pts_one (pt_cmpR (op_notInK (K := K) rfl) (pv 7) (pv 2) (by rfl))) (fun _ _ _ _ _ => pv 7)) pe_int (fun _ _ => rfl)) pa_nil))))))
      (pss_one (ps_ret (pv 2)))), ?_⟩
    refine ⟨by decide, fun p np => ?_⟩
    refine ⟨_, rfl, m, rfl, by omega, by omega, for_range (lo := 0) (n := (m : Int).toNat) (fun i σ H' => ∃ x3 x4 xs, σ = [some (.ref b), some (.int m), some (.ref p), x3, x4, none, none, none] ∧ SameX [p, b] H H' ∧ BoxAt H' b (n + 24 * i) ∧ H' p = some (.lst (xs.map V.str)) ∧ xs.Nodup ∧ (∀ x ∈ xs, wordS x = true) ∧ xs.length = i)
      ⟨none, none, [], rfl, sameX_upd List.mem_cons_self, ?_, upd_same, List.nodup_nil, fun x hx => absurd hx List.not_mem_nil, rfl⟩ ?_ ?_⟩
    · have pb : b ≠ p := (hB.new np).symm
      obtain ⟨x, y, c, z, z2⟩ := hB
      exact ⟨x, y, c, by rw [upd_ne pb]; exact z, z2⟩
    · rintro i σ H1 hi ⟨x3, x4, xs, rfl, s1, b1, hp, nd, wf, hl⟩
      have pb : p ≠ b := hB.new np
      -- two names
      refine ⟨2, rfl, by decide, by decide, fun D nD => lc_it (walk_range (lo := 0) (n := 2)) (fun j H3 => SameX [D, b] H1 H3 ∧ BoxAt H3 b (n + 24 * i + 12 * j) ∧ ∃ ys : List Str, H3 D = some (.lst (ys.map V.str)) ∧ ys.length = j ∧ ∀ y ∈ ys, wordS y = true)
        ⟨sameX_upd List.mem_cons_self, ?_, [], upd_same, rfl, fun y hy => absurd hy List.not_mem_nil⟩ (fun _ _ _ _ => trivial) ?_ ?_⟩
      · have bD : b ≠ D := (b1.new nD).symm
        obtain ⟨x, y, c, z, z2⟩ := b1
        exact ⟨x, y, c, by rw [upd_ne bD]; exact z, z2⟩
      · rintro j x H3 H3' hj ⟨s3, b3, ys, hD, ly, wy⟩ ⟨rfl, rfl⟩
        have Db : D ≠ b := b1.new nD
        refine ⟨rfl, tYes_ok ⟨_, rfl, b, _, rfl, b3, by omega, fun y H4 hw s4 b4 => ?_⟩⟩
        have hD4 : H4 D = some (.lst (ys.map V.str)) := s4 D _ (fun z => Db (List.mem_singleton.mp z)) hD
        refine ⟨_, hD4, small1000 (by rw [List.length_map]; omega), s3.trans ((s4.sub fun z hz => List.mem_cons_of_mem _ hz).trans (sameX_upd List.mem_cons_self)), ?_, ys ++ [y], ?_, ?_, ?_⟩
        · obtain ⟨u1, u2, u3, z, z2⟩ := b4
          exact ⟨u1, u2, u3, by rw [upd_ne Db.symm]; exact z, by omega⟩
        · rw [upd_same, List.map_append]
          rfl
        · rw [List.length_append, ly]
          rfl
        · intro z hz
          rcases List.mem_append.mp hz with hz | hz
          · exact wy z hz
          · rw [List.mem_singleton.mp hz]
            exact hw
      rintro H2 ⟨s2, b2, ys, hD, ly, wy⟩
      have Db : D ≠ b := b1.new nD
      have pD : p ≠ D := fun e => by rw [e, nD] at hp; cases hp
      have hp2 : H2 p = some (.lst (xs.map V.str)) := s2 p _ (fun z => (List.mem_cons.mp z).elim pD fun z => pb (List.mem_singleton.mp z)) hp
      -- letters, eight times
      refine ⟨_, rfl, fun D2 nD2 => lc_it (walk_str (z := Str.ofString "abcdefghijklmnopqrstuvwxyz")) (fun j H3 => SameX [D2] H2 H3 ∧ H3 D2 = some (.lst (((abcs.take j).map eight).map V.str))) ⟨sameX_upd List.mem_cons_self, upd_same⟩ (fun _ _ _ _ => trivial) ?_ ?_⟩
      · rintro j x H3 H3' hj ⟨s3, hD2⟩ ⟨rfl, c, hc, rfl⟩
        have hc2 : abcs[j]? = some c := by
          rw [← hc]
          exact Array.getElem?_toList
        refine ⟨rfl, tYes_ok ⟨_, rfl, c, rfl, rfl, _, hD2, small1000 ?_, s3.trans (sameX_upd List.mem_cons_self), ?_⟩⟩
        · rw [List.length_map, List.length_map, List.length_take]
          have := abcs_nd.2
          omega
        · rw [upd_same, take_snoc hc2, List.map_append, List.map_append]
          rfl
      rintro H3 ⟨s3, hD2⟩
      have e26 : abcs.take (Str.ofString "abcdefghijklmnopqrstuvwxyz").cps.size = abcs := List.take_of_length_le (by rw [Array.length_toList.symm.trans rfl]; exact Nat.le_refl _)
      rw [e26] at hD2
      have DD2 : D ≠ D2 := fun e => by rw [e, nD2] at hD; cases hD
      have pD2 : p ≠ D2 := fun e => by rw [e, nD2] at hp2; cases hp2
      have hD3 : H3 D = some (.lst (ys.map V.str)) := s3 D _ (fun z => DD2 (List.mem_singleton.mp z)) hD
      have hp3 : H3 p = some (.lst (xs.map V.str)) := s3 p _ (fun z => pD2 (List.mem_singleton.mp z)) hp2
      refine ⟨D, D2, _, _, rfl, rfl, hD3, hD2, ?_, fun r nr => ?_⟩
      · rw [List.length_map, List.length_map, List.length_map, abcs_nd.2, ly]
        decide
      have pr : p ≠ r := fun e => by rw [e, nr] at hp3; cases hp3
      have br : BoxAt H3 b (n + 24 * i + 24) := by
        obtain ⟨u1, u2, u3, z, z2⟩ := b2
        exact ⟨u1, u2, u3, s3 b _ (fun y => by rw [List.mem_singleton.mp y, nD2] at z; cases z) z, z2⟩
      have ews : ys.map V.str ++ (abcs.map eight).map V.str = (ys ++ abcs.map eight).map V.str := by rw [List.map_append]
      rw [ews]
      have hr4 : (upd H3 r (.lst ((ys ++ abcs.map eight).map V.str))) r = some (.lst ((ys ++ abcs.map eight).map V.str)) := upd_same
      have hp4 : (upd H3 r (.lst ((ys ++ abcs.map eight).map V.str))) p = some (.lst (xs.map V.str)) := by rw [upd_ne pr]; exact hp3
      have s4 : Same H3 (upd H3 r (.lst ((ys ++ abcs.map eight).map V.str))) := same_upd nr
      have b4 := br.same s4
      have wall : ∀ x ∈ ys ++ abcs.map eight, wordS x = true := fun x hx => by
        rcases List.mem_append.mp hx with hx | hx
        · exact wy x hx
        · obtain ⟨c, hc, rfl⟩ := List.mem_map.mp hx
          exact eight_word (List.all_eq_true.mp letters_ok c hc)
      have wlen : (ys ++ abcs.map eight).length = 28 := by rw [List.length_append, List.length_map, abcs_nd.2, ly]
      obtain ⟨c0, hc0, hn0⟩ := fresh_word (xs := xs) (by omega)
      have hin : eight c0 ∈ ys ++ abcs.map eight := List.mem_append_right _ (List.mem_map.mpr ⟨c0, hc0, rfl⟩)
      generalize upd H3 r (.lst ((ys ++ abcs.map eight).map V.str)) = H4 at hr4 hp4 s4 b4
      generalize ys ++ abcs.map eight = ws at hr4 wall wlen hin
      refine ⟨_, rfl, .inl ⟨rfl, _, .inl (.inl hp4)⟩, _, rfl, r, rfl, ⟨_, SqL.of hr4⟩, fun D3 nD3 => lc_it (walk_list (xs := ws.map V.str)) (fun j H5 => SameX [D3] H4 H5 ∧ H5 D3 = some (.lst (((ws.take j).filter fun x => !decide (x ∈ xs)).map V.str)))
        ⟨sameX_upd List.mem_cons_self, upd_same⟩ (fun j H5 _ z => ?_) ?_ ?_⟩
      · exact SqL.of (z.1 r _ (fun y => by rw [List.mem_singleton.mp y, nD3] at hr4; cases hr4) hr4)
      · rintro j x H5 H5' hj ⟨s5, hD5⟩ ⟨rfl, hx⟩
        rw [List.getElem?_map] at hx
        obtain ⟨y, hy, rfl⟩ := Option.map_eq_some_iff.mp hx
        have hp5 : H5' p = some (.lst (xs.map V.str)) := s5 p _ (fun y => by rw [List.mem_singleton.mp y, nD3] at hp4; cases hp4) hp4
        refine ⟨rfl, _, rfl, _, rfl, p, _, rfl, .inl (SqL.of hp5), rfl, flat_strs xs, _, rfl, ?_⟩
        rw [in_strs]
        have ef : (ws.take (j + 1)).filter (fun x => !decide (x ∈ xs)) = (ws.take j).filter (fun x => !decide (x ∈ xs)) ++ (if (!decide (y ∈ xs)) = true then [y] else []) := by
          rw [take_snoc hy, List.filter_append, List.filter_cons, List.filter_nil]
        cases hk : (!decide (y ∈ xs)) with
        | true =>
          rw [hk] at ef
          refine iteT ⟨_, rfl, _, hD5, small1000 ?_, s5.trans (sameX_upd List.mem_cons_self), ?_⟩
          · rw [List.length_map]
            have h1 := List.length_filter_le (fun x => !decide (x ∈ xs)) (ws.take j)
            rw [List.length_take] at h1
            omega
          · rw [upd_same, ef, List.map_append]
            rfl
        | false =>
          rw [hk] at ef
          refine iteF ⟨s5, ?_⟩
          rw [hD5, ef]
          exact congrArg _ (congrArg _ (by simp))
      · rintro H5 ⟨s5, hD5⟩
        rw [List.length_map, List.take_length] at hD5
        have hne : eight c0 ∈ ws.filter (fun x => !decide (x ∈ xs)) := List.mem_filter.mpr ⟨hin, by rw [decide_eq_false hn0]; rfl⟩
        obtain ⟨w0, rest, hw⟩ : ∃ w0 rest, ws.filter (fun x => !decide (x ∈ xs)) = w0 :: rest := by
          cases hq : ws.filter (fun x => !decide (x ∈ xs)) with
          | nil => rw [hq] at hne; exact absurd hne List.not_mem_nil
          | cons w0 rest => exact ⟨w0, rest, rfl⟩
        have hw0 : w0 ∈ ws ∧ w0 ∉ xs := by
          have z : w0 ∈ ws.filter (fun x => !decide (x ∈ xs)) := by rw [hw]; exact List.mem_cons_self
          have z2 := List.mem_filter.mp z
          exact ⟨z2.1, fun y => by rw [decide_eq_true y] at z2; exact nomatch z2.2⟩
        rw [hw] at hD5
        have p3 : p ≠ D3 := fun e => by rw [e, nD3] at hp4; cases hp4
        have hp5 : H5 p = some (.lst (xs.map V.str)) := s5 p _ (fun y => p3 (List.mem_singleton.mp y)) hp4
        have b5 : BoxAt H5 b (n + 24 * i + 24) := by
          obtain ⟨u1, u2, u3, z, z2⟩ := b4
          exact ⟨u1, u2, u3, s5 b _ (fun y => by rw [List.mem_singleton.mp y, nD3] at z; cases z) z, z2⟩
        refine .inl ⟨D3, _, 0, .str w0, rfl, rfl, SqL.of hD5, atI_nat (j := 0) rfl, p, _, _, rfl, rfl, hp5, small1000 (by rw [List.length_map]; omega), _, _, xs ++ [w0], rfl, ?_, ?_, ?_, ?_, ?_, ?_⟩
        · refine s1.trans (SameX.trans (fun c o z e => ?_) (sameX_upd List.mem_cons_self))
          have cD : c ≠ D := ne_of_none e nD
          have e2 := s2 c o (fun y => (List.mem_cons.mp y).elim cD fun y => z (List.mem_cons_of_mem _ y)) e
          have e3 := s3 c o (fun y => ne_of_none e2 nD2 (List.mem_singleton.mp y)) e2
          have e4 := s4 c o e3
          exact s5 c o (fun y => ne_of_none e4 nD3 (List.mem_singleton.mp y)) e4
        · obtain ⟨u1, u2, u3, z, z2⟩ := b5
          exact ⟨u1, u2, u3, by rw [upd_ne pb.symm]; exact z, by omega⟩
        · rw [upd_same, List.map_append]
          rfl
        · refine List.nodup_append.mpr ⟨nd, List.nodup_cons.mpr ⟨List.not_mem_nil, List.nodup_nil⟩, fun x hx y hy e => ?_⟩
          rw [List.mem_singleton.mp hy] at e
          exact hw0.2 (by rw [← e]; exact hx)
        · intro x hx
          rcases List.mem_append.mp hx with hx | hx
          · exact wf x hx
          · rw [List.mem_singleton.mp hx]
            exact wall _ hw0.1
        · rw [List.length_append, hl]
          rfl
    · rintro σ H1 ⟨x3, x4, xs, rfl, s1, b1, hp, nd, wf, hl⟩
      exact ⟨_, rfl, q p xs H1 (sameX_old s1 np) np hp nd wf (by omega) (b1.le (by omega))⟩
end
end KV

namespace KV
open PySem PySem.Spec PyProof.Rows L2 RZ
theorem dp_new {K : PySem.W.Frag} {B : List Addr} {H : Hp} {p : Addr} {xs : List V} {ds : List PyData} (lv : Live B H) (n : H p = none) (h : DpAll K (hide B H) xs ds) : Dp K (hide B (upd H p (.tup xs))) (.ref p) (.tuple ds) :=
  .tup (SqT.of (hide_new lv n)) (dps_same (hide_grow lv n) h)
theorem dps_strs {K : PySem.W.Frag} {H : Hp} : ∀ xs : List Str, DpAll K H (xs.map V.str) (xs.map PyData.str)
  | [] => .nil
  | x :: xs => .cons (.str x) (dps_strs xs)
/-- a drawn SETUP -/
def SetupD (l : Nat) (d : PyData) : Prop := ∃ (sp rm : Int) (ps : List Str) (ss : List PyData), d = .tuple [.int sp, .int rm, .tuple (ps.map PyData.str), .tuple ss] ∧ 1 ≤ sp ∧ sp ≤ 6 ∧ 1 ≤ rm ∧ rm ≤ 8 ∧ (∀ p ∈ ps, wordS p = true) ∧ ascS ps = true ∧
  l ≤ ps.length ∧ ps.length ≤ 4 ∧ ss.length ≤ 5 ∧ ∀ e ∈ ss, e = .none ∨ ∃ p ∈ ps, e = .str p
theorem op_catK {X : Cx} {K : PySem.W.Frag} (h : X.K = K) : OpR X (binaryOp .Add) (rCatA K) := by
  subst h
  exact op_catA
def oV : Option Str → V
  | none => .non
  | some x => .str x
def oD : Option Str → PyData
  | none => .none
  | some x => .str x
theorem dps_opts {K : PySem.W.Frag} {H : Hp} : ∀ es : List (Option Str), DpAll K H (es.map oV) (es.map oD)
  | [] => .nil
  | none :: xs => .cons .non (dps_opts xs)
  | some x :: xs => .cons (.str x) (dps_opts xs)
theorem opt_at {ys : List Str} {i : Nat} {x : V} (h : (ys.map V.str ++ [V.non])[i]? = some x) : ∃ e : Option Str, x = oV e ∧ (e = none ∨ ∃ p ∈ ys, e = some p) := by
  have m := List.mem_of_getElem? h
  rcases List.mem_append.mp m with m | m
  · obtain ⟨y, hy, rfl⟩ := List.mem_map.mp m
    exact ⟨some y, rfl, .inr ⟨y, hy, rfl⟩⟩
  · exact ⟨none, List.mem_singleton.mp m, .inl rfl⟩
section
variable {P : Program} {w : World} {K : PySem.W.Frag} {mg : Str → Option Value} {base : Heap}
theorem BoxAt.up {H H' : Hp} {b : Addr} {n : Nat} (h : BoxAt H b n) {B : List Addr} (s : SameX B H H') (nb : b ∉ B) : BoxAt H' b n := by
  obtain ⟨x, y, c, z, z2⟩ := h
  exact ⟨x, y, c, s b _ nb z, z2⟩
theorem BoxAt.live {H : Hp} {b : Addr} {n : Nat} (h : BoxAt H b n) : H b ≠ none := by
  obtain ⟨x, y, c, z, z2⟩ := h
  rw [z]
  exact fun e => nomatch e
/-! ### _law_named_setup -/
def spNamed (K : PySem.W.Frag) : Sp := fun vs H Q _ => ∃ (B : List Addr) (b : Addr) (n l : Nat), vs = [.ref b, .int l] ∧ l ≤ 4 ∧ b ∈ B ∧ Live B H ∧ BoxAt H b n ∧ n + 2000 ≤ 2 ^ 40 ∧
  ∀ (v : V) (d : PyData) (H' : Hp), SetupD l d → SameX [b] H H' → BoxAt H' b (n + 400) → Dp K (hide B H') v d → Q v H'
abbrev nNamed : List Str := ["_law_box_here", "_law_least_so", "_law_pipes_so", "_law_slots_so", "_law_turn"]
theorem scNamed : FnScope nNamed ["_law_box_here", "_law_least_so"] (defScope sNamed) :=
  ⟨rfl, rfl, rfl, by decide +kernel, rfl, by decide +kernel, by decide +kernel⟩
theorem ok_named {f fT fO fN : Addr} {fd fdT fdO fdN : FuncData} {k : Nat} (F : Fun K "_law_named_setup" "_law_named_setup" sNamed f fd)
    (FT : Fun K "_law_take" "_law_take" sTake fT fdT) (bT : Binds K fdT ["_law_box_here", "_law_below"] []) (mT : mg "_law_take" = some (.ref fT)) (GT : FnOk P w K mg base CX0 (k + 4) fT fdT ["_law_box_here", "_law_below"] spTake)
    (FO : Fun K "_law_of" "_law_of" sOf fO fdO) (bO : Binds K fdO ["_law_box_here", "_law_some"] []) (mO : mg "_law_of" = some (.ref fO)) (GO : FnOk P w K mg base CX0 (k + 4) fO fdO ["_law_box_here", "_law_some"] (spOf K))
    (FN : Fun K "_law_names" "_law_names" sNames fN fdN) (bN : Binds K fdN ["_law_box_here", "_law_many_so"] []) (mN : mg "_law_names" = some (.ref fN)) (GN : FnOk P w K mg base CX0 (k + 4) fN fdN ["_law_box_here", "_law_many_so"] (spNames K))
    (mr : mg "range" = none) (mt : mg "tuple" = none) (ms : mg "sorted" = none) : FnOk P w K mg base CX0 (k + 5) f fd ["_law_box_here", "_law_least_so"] (spNamed K) := by
  refine F.ok scNamed (fun vs H Q E h => ?_) (fun cdv A outer s H vs Q E hr h => ?_)
  · obtain ⟨B, b, n, l, rfl, _⟩ := h
    rfl
  · obtain ⟨B, b, n, l, rfl, hl, hb, lv, hB, hn, q⟩ := h
    refine ⟨_, pss_cons (ps_set (i := 2) scNamed.nd rfl (.inr rfl) (pe_callTy call_tuple_of (by rfl) mt PyProof.Rows.boot_tuple (pa_cons (pe_callB cr_sortedS (by rfl) ms boot_sorted (pa_cons
          (pe_call GN hr (by rfl) mN FN.kp bN .nil pass0 (pa_cons (pv 0) (pa_cons (pe_op op_add (pv 1) (pe_call GT hr (by rfl) mT FT.kp bT .nil pass0 (pa_cons (pv 0) (pa_cons (pe_op op_sub pe_int (pv 1)) pa_nil)))) pa_nil))) pa_nil)) pa_nil)))
      (pss_cons (ps_setLc (i := 3) (own := [("_law_turn", 4)]) (g := gName 4) (tt := tYes) rfl scNamed.nd rfl rfl (sw_true rfl rfl rfl (by decide +kernel))
          (pi_range1 (by rfl) mr (pa_cons (pe_call GT hr (by rfl) mT FT.kp bT .nil pass0 (pa_cons (pv 0) (pa_cons pe_int pa_nil))) pa_nil)) (blkOk_by (N := nNamed) (sc := defScope sNamed) (by decide +kernel))
          (fun _ _ _ _ _ => pg_name (i := 4) scNamed.nd rfl (Or.inl rfl)) (fun _ _ _ _ _ => pts_nil) (fun _ _ _ _ _ => pe_call GO hr (by rfl) mO FO.kp bO .nil pass0 (pa_cons (pv 0) (pa_cons (pe_op (op_catK (K := K) rfl) (pv 2) (pe_tup (pa_cons pe_non pa_nil))) pa_nil))))
      (pss_one (ps_ret (pe_tup (pa_cons (pe_op op_add pe_int (pe_call GT hr (by rfl) mT FT.kp bT .nil pass0 (pa_cons (pv 0) (pa_cons pe_int pa_nil)))) (pa_cons (pe_op op_add pe_int (pe_call GT hr (by rfl) mT FT.kp bT .nil pass0 (pa_cons (pv 0) (pa_cons pe_int pa_nil))))
        (pa_cons (pv 2) (pa_cons (pe_callTy call_tuple_of (by rfl) mt PyProof.Rows.boot_tuple (pa_cons (pv 3) pa_nil)) pa_nil)))))))), ?_⟩
    refine ⟨_, rfl, _, rfl, _, rfl, _, rfl, _, _, rfl, rfl, b, n, 5 - l, rfl, by omega, by omega, hB, by omega, fun r H1 r0 r1 s1 b1 => ?_⟩
    obtain ⟨j, rfl⟩ : ∃ j : Nat, r = j := ⟨r.toNat, by omega⟩
    refine ⟨_, _, rfl, rfl, b, n + 1, l + j, congrArg (fun z => [V.ref b, V.int z]) (Int.natCast_add l j).symm, by omega, b1, by omega, fun p xs H2 s2 np hp nd wf hlen b2 => ?_⟩
    refine ⟨p, xs, rfl, SqL.of hp, by omega, fun ys p2 pm hs np2 => ⟨p2, _, rfl, .inl ⟨SqL.of upd_same, fun p3 np3 => ?_⟩⟩⟩
    have lys : ys.length = l + j := by rw [pm.length_eq, hlen]
    have asc : ascS ys = true := pw_ascS _ (strict_of (sorted_pw hs) (pm.nodup_iff.mpr nd))
    have wys : ∀ y ∈ ys, wordS y = true := fun y hy => wf y (pm.mem_iff.mp hy)
    have s3 : SameX [b] H (upd (upd H2 p2 (.lst (ys.map V.str))) p3 (.tup (ys.map V.str))) := s1.trans (s2.trans (SameX.of ((same_upd np2).trans (same_upd np3))))
    have b3 := b2.same ((same_upd (o := .lst (ys.map V.str)) np2).trans (same_upd (o := .tup (ys.map V.str)) np3))
    have hp3 : (upd (upd H2 p2 (.lst (ys.map V.str))) p3 (.tup (ys.map V.str))) p3 = some (.tup (ys.map V.str)) := upd_same
    have lv2 : Live B H2 := (s1.trans s2).live lv fun c hc => by rw [List.mem_singleton.mp hc]; exact b2.live
    have p3B : p3 ∉ B := (lv2.upd (p := p2)).new np3
    generalize upd (upd H2 p2 (.lst (ys.map V.str))) p3 (.tup (ys.map V.str)) = H3 at s3 b3 hp3
    refine ⟨_, rfl, b, _, 6, rfl, by decide, by decide, b3, by omega, fun r2 H4 r20 r21 s4 b4 => ?_⟩
    have p3b : p3 ≠ b := fun e => by
      obtain ⟨_, _, _, z, _⟩ := b3
      rw [e, z] at hp3
      cases hp3
    have hp4 : H4 p3 = some (.tup (ys.map V.str)) := s4 p3 _ (fun z => p3b (List.mem_singleton.mp z)) hp3
    refine ⟨r2, rfl, by omega, by omega, fun D nD => lc_it (walk_range (lo := 0) (n := r2.toNat)) (fun i H5 => SameX [D, b] H4 H5 ∧ BoxAt H5 b (n + 200 + i) ∧ ∃ es : List (Option Str), H5 D = some (.lst (es.map oV)) ∧ es.length = i ∧ ∀ e ∈ es, e = none ∨ ∃ p ∈ ys, e = some p)
      ⟨sameX_upd List.mem_cons_self, ?_, [], upd_same, rfl, fun y hy => absurd hy List.not_mem_nil⟩ (fun _ _ _ _ => trivial) ?_ ?_⟩
    · have bD : b ≠ D := (b4.new nD).symm
      obtain ⟨x, y, c, z, z2⟩ := b4
      exact ⟨x, y, c, by rw [upd_ne bD]; exact z, by omega⟩
    · rintro i x H5 H5' hi ⟨s5, b5, es, hD, le, we⟩ ⟨rfl, rfl⟩
      have Db : D ≠ b := b4.new nD
      have pD : p3 ≠ D := fun e => by rw [e, nD] at hp4; cases hp4
      have hp5 : H5' p3 = some (.tup (ys.map V.str)) := s5 p3 _ (fun z => (List.mem_cons.mp z).elim pD fun z => p3b (List.mem_singleton.mp z)) hp4
      refine ⟨rfl, tYes_ok ⟨_, rfl, _, rfl, by show 1 ≤ sizeLine; decide, fun t nt => ?_⟩⟩
      have hp6 : (upd H5' t (.tup [V.non])) p3 = some (.tup (ys.map V.str)) := same_upd nt _ _ hp5
      have ht6 : (upd H5' t (.tup [V.non])) t = some (.tup [V.non]) := upd_same
      have s6 : Same H5' (upd H5' t (.tup [V.non])) := same_upd nt
      generalize upd H5' t (.tup [V.non]) = H6 at hp6 ht6 s6
      have b6 := b5.same s6
      have fin : ∀ (u : Addr) (H7 : Hp), Same H6 H7 → H7 u = some (.tup (ys.map V.str ++ [V.non])) → spOf K [.ref b, .ref u] H7 (fun y H4_1 => ∃ acc, H4_1 D = some (.lst acc) ∧ acc.length < sizeLine ∧ SameX [D, b] H4 (upd H4_1 D (.lst (acc ++ [y]))) ∧
          BoxAt (upd H4_1 D (.lst (acc ++ [y]))) b (n + 200 + (i + 1)) ∧ ∃ es : List (Option Str), (upd H4_1 D (.lst (acc ++ [y]))) D = some (.lst (es.map oV)) ∧ es.length = i + 1 ∧ ∀ e ∈ es, e = none ∨ ∃ p ∈ ys, e = some p) E0 := by
        intro u H7 s7 hu
        have b7 := b6.same s7
        have ub : u ≠ b := fun e => by
          obtain ⟨_, _, _, z, _⟩ := b7
          rw [e, z] at hu
          cases hu
        refine ⟨b, _, .ref u, rfl, b7, by omega, .inr ⟨[b], u, _, rfl, List.mem_singleton.mpr rfl, .inr (SqT.of (by rw [hide_out (fun z => ub (List.mem_singleton.mp z))]; exact hu)), by rw [List.length_append]; exact Nat.succ_pos _, ?_, fun k x H8 hx s8 b8 => ?_⟩⟩
        · rw [List.length_append, List.length_map, lys]
          show l + j + 1 ≤ 1000
          omega
        · obtain ⟨e, rfl, he⟩ := opt_at hx
          have hD8 : H8 D = some (.lst (es.map oV)) := s8 D _ (fun z => Db (List.mem_singleton.mp z)) (s7 _ _ (s6 _ _ hD))
          refine ⟨_, hD8, small1000 (by rw [List.length_map]; omega), ?_, ?_, es ++ [e], ?_, ?_, ?_⟩
          · exact s5.trans ((SameX.of (s6.trans s7)).trans ((s8.sub fun z hz => List.mem_cons_of_mem _ hz).trans (sameX_upd List.mem_cons_self)))
          · obtain ⟨u1, u2, u3, z, z2⟩ := b8
            exact ⟨u1, u2, u3, by rw [upd_ne Db.symm]; exact z, by omega⟩
          · rw [upd_same, List.map_append]
            rfl
          · rw [List.length_append, le]
            rfl
          · intro y hy
            rcases List.mem_append.mp hy with hy | hy
            · exact we y hy
            · rw [List.mem_singleton.mp hy]
              exact he
      refine ⟨p3, t, _, _, rfl, rfl, SqT.of hp6, SqT.of ht6, ?_, fun e0 => ?_, fun _ e0 => (nomatch e0), fun _ _ u nu => ?_⟩
      · rw [List.length_map, lys]
        show l + j + 1 ≤ sizeLine
        rw [sizeLine_eq]
        omega
      · exact fin t H6 (fun _ _ z => z) (by rw [e0]; exact ht6)
      · exact fin u _ (same_upd nu) upd_same
    · rintro H5 ⟨s5, b5, es, hD, le, we⟩
      have Db : D ≠ b := b4.new nD
      have pD : p3 ≠ D := fun e => by rw [e, nD] at hp4; cases hp4
      have hp5 : H5 p3 = some (.tup (ys.map V.str)) := s5 p3 _ (fun z => (List.mem_cons.mp z).elim pD fun z => p3b (List.mem_singleton.mp z)) hp4
      refine ⟨_, rfl, b, _, 6, rfl, by decide, by decide, b5, by omega, fun r5 H6 r50 r51 s6 b6 => ⟨_, _, rfl, rfl, _, rfl, b, _, 8, rfl, by decide, by decide, b6, by omega, fun r6 H7 r60 r61 s7 b7 => ⟨_, _, rfl, rfl, _, rfl, _, rfl, D, es.map oV, rfl, .inl ⟨SqL.of ?_, fun p5 np5 => ⟨by show 4 ≤ sizeLine; decide, fun p6 np6 => ?_⟩⟩⟩⟩⟩
      · exact s7 D _ (fun z => Db (List.mem_singleton.mp z)) (s6 D _ (fun z => Db (List.mem_singleton.mp z)) hD)
      · have S7 : SameX [b] H H7 := s3.trans (s4.trans ((sameX_old s5 nD).trans (s6.trans s7)))
        have lv7 : Live B H7 := S7.live lv fun c hc => by rw [List.mem_singleton.mp hc]; exact b7.live
        have hp7 : H7 p3 = some (.tup (ys.map V.str)) := s7 p3 _ (fun z => p3b (List.mem_singleton.mp z)) (s6 p3 _ (fun z => p3b (List.mem_singleton.mp z)) hp5)
        have d3 : Dp K (hide B H7) (.ref p3) (.tuple (ys.map PyData.str)) := .tup (SqT.of (by rw [hide_out p3B]; exact hp7)) (dps_strs ys)
        have d5 := dp_new (K := K) lv7 np5 (dps_opts es)
        have d6 := dp_new (K := K) (lv7.upd (p := p5) (o := .tup (es.map oV))) np6 (.cons (.int (1 + r5)) (.cons (.int (1 + r6)) (.cons (dp_same (hide_grow lv7 np5) d3) (.cons d5 .nil))))
        refine q _ _ _ ⟨1 + r5, 1 + r6, ys, es.map oD, rfl, by omega, by omega, by omega, by omega, wys, asc, by omega, by omega, by rw [List.length_map]; omega, fun e he => ?_⟩ (S7.trans (SameX.of ((same_upd np5).trans (same_upd np6)))) ((b7.same ((same_upd np5).trans (same_upd np6))).le (by omega)) d6
        obtain ⟨o, ho, rfl⟩ := List.mem_map.mp he
        rcases we o ho with rfl | ⟨y, hy, rfl⟩
        · exact .inl rfl
        · exact .inr ⟨y, hy, rfl⟩
end
end KV

namespace KV
open PySem PySem.Spec PyProof.Rows L2 RZ
/-! ### data of small leaves, short sequences, little depth -/
mutual
def gD (lf : PyData → Bool) (L : Nat) : PyData → Nat → Bool
  | .list xs, n => decide (0 < n) && decide (xs.length ≤ L) && gDs lf L xs (n - 1)
  | .tuple xs, n => decide (0 < n) && decide (xs.length ≤ L) && gDs lf L xs (n - 1)
  | .none, _ => true
  | .bool _, _ => true
  | .int i, _ => lf (.int i)
  | .str x, _ => lf (.str x)
  | .dict _, _ => false
def gDs (lf : PyData → Bool) (L : Nat) : List PyData → Nat → Bool
  | [], _ => true
  | d :: ds, n => gD lf L d n && gDs lf L ds n
end
theorem gDs_all (lf : PyData → Bool) (L : Nat) : ∀ ds n, gDs lf L ds n = ds.all fun d => gD lf L d n
  | [], _ => by simp [gDs]
  | d :: ds, n => by simp [gDs, gDs_all lf L ds n]
theorem gD_seq {lf : PyData → Bool} {L : Nat} {xs : List PyData} {n : Nat} {d : PyData} (hd : d = .list xs ∨ d = .tuple xs) (h : gD lf L d n = true) : ∃ m, n = m + 1 ∧ xs.length ≤ L ∧ gDs lf L xs m = true := by
  have h' : (decide (0 < n) && decide (xs.length ≤ L) && gDs lf L xs (n - 1)) = true := by
    rcases hd with rfl | rfl <;> simpa only [gD] using h
  simp only [Bool.and_eq_true, decide_eq_true_eq] at h'
  obtain ⟨⟨h1, h2⟩, h3⟩ := h'
  exact ⟨n - 1, by omega, h2, h3⟩
theorem gD_mk {lf : PyData → Bool} {L : Nat} {xs : List PyData} {m : Nat} (h1 : xs.length ≤ L) (h2 : gDs lf L xs m = true) : gD lf L (.list xs) (m + 1) = true ∧ gD lf L (.tuple xs) (m + 1) = true := by
  have h : (decide (0 < m + 1) && decide (xs.length ≤ L) && gDs lf L xs (m + 1 - 1)) = true := by
    rw [decide_eq_true (Nat.succ_pos m), decide_eq_true h1, Nat.add_sub_cancel, h2]
    rfl
  exact ⟨by simpa only [gD] using h, by simpa only [gD] using h⟩
mutual
theorem gD_mono {lf lg : PyData → Bool} {L M : Nat} (hl : ∀ d, lf d = true → lg d = true) (hL : L ≤ M) : ∀ (d : PyData) (n m : Nat), n ≤ m → gD lf L d n = true → gD lg M d m = true
  | .list xs, n, m, hn, h => by
    obtain ⟨k, rfl, h1, h2⟩ := gD_seq (.inl rfl) h
    obtain ⟨j, rfl⟩ : ∃ j, m = j + 1 := ⟨m - 1, by omega⟩
    exact (gD_mk (Nat.le_trans h1 hL) (gDs_mono hl hL xs k j (by omega) h2)).1
  | .tuple xs, n, m, hn, h => by
    obtain ⟨k, rfl, h1, h2⟩ := gD_seq (.inr rfl) h
    obtain ⟨j, rfl⟩ : ∃ j, m = j + 1 := ⟨m - 1, by omega⟩
    exact (gD_mk (Nat.le_trans h1 hL) (gDs_mono hl hL xs k j (by omega) h2)).2
  | .none, _, _, _, _ => by simp only [gD]
  | .bool _, _, _, _, _ => by simp only [gD]
  | .int i, _, _, _, h => by
    simp only [gD] at h ⊢
    exact hl _ h
  | .str i, _, _, _, h => by
    simp only [gD] at h ⊢
    exact hl _ h
  | .dict _, _, _, _, h => by simp only [gD] at h; cases h
theorem gDs_mono {lf lg : PyData → Bool} {L M : Nat} (hl : ∀ d, lf d = true → lg d = true) (hL : L ≤ M) : ∀ (ds : List PyData) (n m : Nat), n ≤ m → gDs lf L ds n = true → gDs lg M ds m = true
  | [], _, _, _, _ => by simp only [gDs]
  | d :: ds, n, m, hn, h => by
    simp only [gDs, Bool.and_eq_true] at h ⊢
    exact ⟨gD_mono hl hL d n m hn h.1, gDs_mono hl hL ds n m hn h.2⟩
end
mutual
theorem gD_ok {lf : PyData → Bool} {L : Nat} (hL : L ≤ 1000) : ∀ (d : PyData) (n : Nat), gD lf L d n = true → okD d n = true
  | .list xs, n, h => by
    obtain ⟨k, rfl, h1, h2⟩ := gD_seq (.inl rfl) h
    exact (ok_mk (Nat.le_trans h1 hL) (gDs_ok hL xs k h2)).1
  | .tuple xs, n, h => by
    obtain ⟨k, rfl, h1, h2⟩ := gD_seq (.inr rfl) h
    exact (ok_mk (Nat.le_trans h1 hL) (gDs_ok hL xs k h2)).2
  | .none, _, _ => by simp only [okD]
  | .bool _, _, _ => by simp only [okD]
  | .int i, _, h => by simp only [okD]
  | .str i, _, h => by simp only [okD]
  | .dict _, _, h => by simp only [gD] at h; cases h
theorem gDs_ok {lf : PyData → Bool} {L : Nat} (hL : L ≤ 1000) : ∀ (ds : List PyData) (n : Nat), gDs lf L ds n = true → okDs ds n = true
  | [], _, _ => by simp only [okDs]
  | d :: ds, n, h => by
    simp only [gDs, Bool.and_eq_true] at h
    simp only [okDs, Bool.and_eq_true]
    exact ⟨gD_ok hL d n h.1, gDs_ok hL ds n h.2⟩
end
/-- leaves before, and behind a bend -/
def lf1 : PyData → Bool
  | .int i => decide (i.natAbs ≤ 10 ^ 29)
  | .str x => decide (x.length ≤ 15) && x.cps.toList.all fun c => decide (c < 128)
  | _ => false
def lf2 : PyData → Bool
  | .int i => decide (i.natAbs < 10 ^ 31)
  | .str x => decide (x.length ≤ 60) && x.cps.toList.all fun c => decide (c < 1114112)
  | _ => false
theorem lf12 : ∀ d, lf1 d = true → lf2 d = true
  | .int i, h => by
    have h1 : i.natAbs ≤ 10 ^ 29 := of_decide_eq_true h
    show decide (i.natAbs < 10 ^ 31) = true
    rw [decide_eq_true_eq]
    omega
  | .str x, h => by
    have h1 : (decide (x.length ≤ 15) && x.cps.toList.all fun c => decide (c < 128)) = true := h
    show (decide (x.length ≤ 60) && x.cps.toList.all fun c => decide (c < 1114112)) = true
    rw [Bool.and_eq_true, decide_eq_true_eq, List.all_eq_true] at h1 ⊢
    refine ⟨by omega, fun c hc => ?_⟩
    have h2 := h1.2 c hc
    rw [decide_eq_true_eq] at h2 ⊢
    omega
theorem ofs_len (s : String) : (Str.ofString s).length = s.length := by
  show (Str.ofString s).cps.size = s.length
  rw [Str.ofString_eq_toList]
  simp only [List.size_toArray, List.length_map]
  first
    | exact String.length_toList
    | exact s.length_toList
    | rfl
mutual
theorem gD_dep {lf : PyData → Bool} {L : Nat} : ∀ (d : PyData) (n : Nat), gD lf L d n = true → d.depth ≤ n
  | .list xs, n, h => by
    obtain ⟨m, rfl, _, h2⟩ := gD_seq (.inl rfl) h
    have := gDs_dep xs m h2
    simp only [PyData.depth]
    omega
  | .tuple xs, n, h => by
    obtain ⟨m, rfl, _, h2⟩ := gD_seq (.inr rfl) h
    have := gDs_dep xs m h2
    simp only [PyData.depth]
    omega
  | .none, n, _ => by simp [PyData.depth]
  | .bool _, n, _ => by simp [PyData.depth]
  | .int _, n, _ => by simp [PyData.depth]
  | .str _, n, _ => by simp [PyData.depth]
  | .dict _, n, h => by simp [gD] at h
theorem gDs_dep {lf : PyData → Bool} {L : Nat} : ∀ (ds : List PyData) (n : Nat), gDs lf L ds n = true → PyData.depthAll ds ≤ n
  | [], n, _ => by simp [PyData.depthAll]
  | d :: ds, n, h => by
    simp only [gDs, Bool.and_eq_true] at h
    have h1 := gD_dep d n h.1
    have h2 := gDs_dep ds n h.2
    simp only [PyData.depthAll]
    omega
end
mutual
theorem gD_facts {L : Nat} : ∀ (d : PyData) (n : Nat), gD lf2 L d n = true → d.showable = true ∧ d.hasDict = false ∧ d.leavesShort 130 = true
  | .list xs, n, h => by
    obtain ⟨m, rfl, _, h2⟩ := gD_seq (.inl rfl) h
    have := gDs_facts xs m h2
    simpa only [PyData.showable, PyData.hasDict, PyData.leavesShort] using this
  | .tuple xs, n, h => by
    obtain ⟨m, rfl, _, h2⟩ := gD_seq (.inr rfl) h
    have := gDs_facts xs m h2
    simpa only [PyData.showable, PyData.hasDict, PyData.leavesShort] using this
  | .none, n, _ => ⟨rfl, rfl, rfl⟩
  | .bool _, n, _ => ⟨rfl, rfl, rfl⟩
  | .int i, n, h => by
    have h1 : i.natAbs < 10 ^ 31 := of_decide_eq_true (show decide (i.natAbs < 10 ^ 31) = true by simp only [gD] at h; exact h)
    refine ⟨?_, rfl, ?_⟩
    · show decide (i.natAbs.log2 < 1920) = true
      rw [decide_eq_true_eq]
      by_cases z : i.natAbs = 0
      · rw [z]; decide
      · exact (Nat.log2_lt z).mpr (Nat.lt_trans h1 (by decide +kernel))
    · show decide ((PyData.shown (.int i)).length ≤ 130) = true
      rw [decide_eq_true_eq]
      have e := int_text_length_le10 (k := 31) (by decide) h1
      show (Str.ofString (toString i)).length ≤ 130
      rw [ofs_len]
      omega
  | .str x, n, h => by
    refine ⟨rfl, rfl, ?_⟩
    have h1 : (decide (x.length ≤ 60) && x.cps.toList.all fun c => decide (c < 1114112)) = true := by simp only [gD] at h; exact h
    rw [Bool.and_eq_true] at h1
    show (x.cps.toList.all fun c => decide (c < 16 ^ 8)) = true
    have h2 := h1.2
    rw [List.all_eq_true] at h2 ⊢
    intro c hc
    have h3 := of_decide_eq_true (h2 c hc)
    exact decide_eq_true (by omega)
  | .dict _, n, h => by simp [gD] at h
theorem gDs_facts {L : Nat} : ∀ (ds : List PyData) (n : Nat), gDs lf2 L ds n = true → PyData.showableAll ds = true ∧ PyData.hasDictAll ds = false ∧ PyData.leavesShortAll 130 ds = true
  | [], n, _ => ⟨rfl, rfl, rfl⟩
  | d :: ds, n, h => by
    simp only [gDs, Bool.and_eq_true] at h
    obtain ⟨a1, a2, a3⟩ := gD_facts d n h.1
    obtain ⟨b1, b2, b3⟩ := gDs_facts ds n h.2
    simp only [PyData.showableAll, PyData.hasDictAll, PyData.leavesShortAll, a1, a2, a3, b1, b2, b3, Bool.and_self, Bool.or_self, and_self]
end
def bulkN (L : Nat) : Nat → Nat
  | 0 => 60
  | n + 1 => 60 + L * (bulkN L n + 1)
mutual
theorem gD_bulk {L : Nat} : ∀ (d : PyData) (n : Nat), gD lf2 L d n = true → d.bulk ≤ bulkN L n
  | .list xs, n, h => by
    obtain ⟨m, rfl, h1, h2⟩ := gD_seq (.inl rfl) h
    have h3 := gDs_bulk xs m h2
    have h4 := Nat.mul_le_mul_right (bulkN L m + 1) h1
    simp only [PyData.bulk, bulkN]
    omega
  | .tuple xs, n, h => by
    obtain ⟨m, rfl, h1, h2⟩ := gD_seq (.inr rfl) h
    have h3 := gDs_bulk xs m h2
    have h4 := Nat.mul_le_mul_right (bulkN L m + 1) h1
    simp only [PyData.bulk, bulkN]
    omega
  | .none, n, _ => Nat.zero_le _
  | .bool _, n, _ => Nat.zero_le _
  | .int _, n, _ => Nat.zero_le _
  | .str x, n, h => by
    have h1 : (decide (x.length ≤ 60) && x.cps.toList.all fun c => decide (c < 1114112)) = true := by simp only [gD] at h; exact h
    rw [Bool.and_eq_true, decide_eq_true_eq] at h1
    have h2 : x.cps.size ≤ 60 := h1.1
    simp only [PyData.bulk]
    cases n <;> simp only [bulkN] <;> omega
  | .dict _, n, h => by simp [gD] at h
theorem gDs_bulk {L : Nat} : ∀ (ds : List PyData) (n : Nat), gDs lf2 L ds n = true → PyData.bulkAll ds ≤ ds.length * (bulkN L n + 1)
  | [], n, _ => Nat.zero_le _
  | d :: ds, n, h => by
    simp only [gDs, Bool.and_eq_true] at h
    have h1 := gD_bulk d n h.1
    have h2 := gDs_bulk ds n h.2
    simp only [PyData.bulkAll, List.length_cons, Nat.succ_mul]
    omega
end
theorem gD_size {L n : Nat} {d : PyData} (h : gD lf2 L d n = true) (hb : 132 * bulkN L n + 130 ≤ 16777216) : d.shown.length ≤ sizeLine := by
  have h1 := PyData.shown_le_bulk 130 (by decide) d (gD_facts d n h).2.2
  have h2 := Nat.mul_le_mul_left 132 (gD_bulk d n h)
  rw [sizeLine_eq]
  omega
theorem cps_small (s : String) : (Str.ofString s).cps.toList.all (fun c => decide (c < 1114112)) = true := by
  rw [List.all_eq_true]
  intro c hc
  rw [decide_eq_true_eq]
  rw [Str.ofString_eq_toList] at hc
  have hc2 : c ∈ s.toList.map Char.toNat := by simpa using hc
  obtain ⟨z, _, rfl⟩ := List.mem_map.mp hc2
  have h1 := z.valid
  rcases h1 with h1 | h1
  · have h2 : z.toNat < 0xd800 := h1
    omega
  · exact h1.2
end KV

namespace KV
open PySem PySem.Spec PyProof.Rows L2 RZ Builtin
theorem upper_table : ((List.range 128).all fun c => (Unicode.upperOf c).all fun d => decide (d < 1114112)) = true := by decide +kernel
theorem upper_small {x : Str} (h : (x.cps.toList.all fun c => decide (c < 128)) = true) : ((Txt.upper x).cps.toList.all fun c => decide (c < 1114112)) = true := by
  rw [List.all_eq_true] at h ⊢
  intro c hc
  have hc2 : c ∈ (x.cps.mapIdx fun i c => (Unicode.upperOf c).toArray).flatten := by
    have z : c ∈ (Txt.upper x).cps := Array.mem_toList_iff.mp hc
    exact z
  rw [Array.mem_flatten] at hc2
  obtain ⟨l, hl, hcl⟩ := hc2
  rw [Array.mem_mapIdx] at hl
  obtain ⟨i, hi, rfl⟩ := hl
  have h1 := h _ (Array.mem_toList_iff.mpr (Array.getElem_mem hi))
  rw [decide_eq_true_eq] at h1
  have h2 := List.all_eq_true.mp upper_table _ (List.mem_range.mpr h1)
  exact List.all_eq_true.mp h2 c (by simpa using hcl)
theorem str_good {L n : Nat} {x : Str} (h1 : x.length ≤ 60) (h2 : (x.cps.toList.all fun c => decide (c < 1114112)) = true) : gD lf2 L (.str x) n = true := by
  simp only [gD]
  show (decide (x.length ≤ 60) && x.cps.toList.all fun c => decide (c < 1114112)) = true
  rw [decide_eq_true h1, h2]
  rfl
theorem int_good {L n : Nat} {i : Int} (h : i.natAbs < 10 ^ 31) : gD lf2 L (.int i) n = true := by
  simp only [gD]
  exact decide_eq_true h
theorem all_up {l : List Nat} (h : (l.all fun c => decide (c < 128)) = true) : (l.all fun c => decide (c < 1114112)) = true := by
  rw [List.all_eq_true] at h ⊢
  intro c hc
  have := h c hc
  rw [decide_eq_true_eq] at this ⊢
  omega
theorem bent_add {L n : Nat} {x : Str} (h1 : x.length ≤ 15) (h2 : (x.cps.toList.all fun c => decide (c < 128)) = true) : gD lf2 L (.str (x ++ Str.ofString "x")) n = true := by
  have e : (x ++ Str.ofString "x").cps.toList = x.cps.toList ++ [120] := by
    show (x.cps ++ (Str.ofString "x").cps).toList = _
    rw [Array.toList_append]
    rfl
  refine str_good ?_ ?_
  · rw [← sgn_len, e, List.length_append, sgn_len]
    show x.length + 1 ≤ 60
    omega
  · rw [e, List.all_append, all_up h2]
    rfl
theorem bent_cut {L n : Nat} {x : Str} (lo hi : Option Int) (h1 : x.length ≤ 15) (h2 : (x.cps.toList.all fun c => decide (c < 128)) = true) : gD lf2 L (.str (cutS x lo hi)) n = true := by
  have e : (cutS x lo hi).cps.toList = (x.cps.toList.drop (HT.sIx x.length 0 lo)).take (HT.sIx x.length x.length hi - HT.sIx x.length 0 lo) := rfl
  refine str_good ?_ ?_
  · rw [← sgn_len, e, List.length_take, List.length_drop, sgn_len]
    omega
  · rw [e]
    refine all_up ?_
    rw [List.all_eq_true] at h2 ⊢
    exact fun c hc => h2 c (List.mem_of_mem_drop (List.mem_of_mem_take hc))
theorem bent_up {L n : Nat} {x : Str} (h1 : x.length ≤ 15) (h2 : (x.cps.toList.all fun c => decide (c < 128)) = true) : gD lf2 L (.str (Txt.upper x)) n = true := by
  have := len_upper x
  exact str_good (by omega) (upper_small h2)
theorem bent_int {L n : Nat} {i : Int} (h : i.natAbs < 10 ^ 30) : gD lf2 L (.str (Str.ofString (toString i))) n = true := by
  have := int_text_length_le10 (k := 30) (by decide) h
  exact str_good (by rw [ofs_len]; omega) (cps_small _)
end KV

namespace KV
open PySem PySem.Spec PyProof.Rows L2 RZ
abbrev sBent : Stmt := topS 17
theorem kit_tl {K : PySem.W.Frag} {a : String} {r1 r2 : Bool} (h1 : kitB a "tuple" = some r1) (h2 : kitB a "list" = some r2) : PySem.W.kitAny K (.type a) [.type "tuple", .type "list"] = some (r1 || r2) := by
  cases r1 with
  | true => exact kitAny_cons (kit_ty h1) (fun z => nomatch z) fun _ => rfl
  | false =>
    cases r2 with
    | true => exact kitAny_cons (kit_ty h1) (fun _ => kitAny_cons (kit_ty h2) (fun z => nomatch z) fun _ => rfl) fun z => nomatch z
    | false => exact kitAny_cons (kit_ty h1) (fun _ => kitAny_cons (kit_ty h2) (fun _ => kitAny_nil) fun z => nomatch z) fun z => nomatch z
theorem kit_seq2 {K : PySem.W.Frag} : ∀ (d : PyData), PySem.W.kitAny K (.type (tyD d)) [.type "tuple", .type "list"] = some (isSeq d)
  | .none => kit_tl (a := "NoneType") (r1 := false) (r2 := false) (by decide +kernel) (by decide +kernel)
  | .bool _ => kit_tl (a := "bool") (r1 := false) (r2 := false) (by decide +kernel) (by decide +kernel)
  | .int _ => kit_tl (a := "int") (r1 := false) (r2 := false) (by decide +kernel) (by decide +kernel)
  | .str _ => kit_tl (a := "str") (r1 := false) (r2 := false) (by decide +kernel) (by decide +kernel)
  | .list _ => kit_tl (a := "list") (r1 := false) (r2 := true) (by decide +kernel) (by decide +kernel)
  | .tuple _ => kit_tl (a := "tuple") (r1 := true) (r2 := false) (by decide +kernel) (by decide +kernel)
  | .dict _ => kit_tl (a := "dict") (r1 := false) (r2 := false) (by decide +kernel) (by decide +kernel)
/-- isinstance(x, (tuple, list)) of data -/
def rIsSeq2 (K : PySem.W.Frag) : List V → Hp → VK → Prop := fun vs H Q => ∃ v tp d, vs = [v, .ref tp] ∧ H tp = some (.tup [.ty "tuple", .ty "list"]) ∧ Dp K H v d ∧ Q (.bl (isSeq d)) H
theorem cr_isSeq2 {X : Cx} : CallR X (.builtin "isinstance") (rIsSeq2 X.K) := by
  intro pins s σ H vs us Q I r h
  obtain ⟨v, tp, d, rfl, ht, hd, q⟩ := h
  exact call_isiT pins s σ H _ us Q I r ⟨v, tp, _, _, _, _, rfl, ht, .cons (.ty _) (.cons (.ty _) .nil), dp_ty hd, kit_seq2 d, q⟩
theorem none_okk {P : Program} {w : World} {K : PySem.W.Frag} {mg : Str → Option Value} {base : Heap} {k : Nat} {f : Addr} {fd : FuncData} {ps : List Str} {sp : Sp} (no : ∀ vs H Q E, ¬ sp vs H Q E) : FnOk P w K mg base CX0 k f fd ps sp :=
  ⟨fun vs H Q E h => absurd h (no vs H Q E), fun A outer s H args us vs Q E _ _ _ _ h => absurd h (no vs H Q E)⟩
theorem dps_erase {K : PySem.W.Frag} {H : Hp} : ∀ {vs : List V} {ds : List PyData} (i : Nat), DpAll K H vs ds → DpAll K H (vs.eraseIdx i) (ds.eraseIdx i)
  | _, _, 0, .nil => .nil
  | _, _, i + 1, .nil => .nil
  | _, _, 0, .cons _ h => h
  | _, _, i + 1, .cons h1 h => .cons h1 (dps_erase i h)
theorem dps_set {K : PySem.W.Frag} {H : Hp} {v : V} {d : PyData} (hv : Dp K H v d) : ∀ {vs : List V} {ds : List PyData} (i : Nat), DpAll K H vs ds → DpAll K H (vs.set i v) (ds.set i d)
  | _, _, 0, .nil => .nil
  | _, _, i + 1, .nil => .nil
  | _, _, 0, .cons _ h => .cons hv h
  | _, _, i + 1, .cons h1 h => .cons h1 (dps_set hv i h)
theorem gDs_of {lf : PyData → Bool} {L n : Nat} {ds : List PyData} (h : ∀ e ∈ ds, gD lf L e n = true) : gDs lf L ds n = true := by
  rw [gDs_all, List.all_eq_true]
  exact h
theorem okGet {lf : PyData → Bool} {L n : Nat} {ds : List PyData} {e : PyData} (h : gDs lf L ds n = true) (k : e ∈ ds) : gD lf L e n = true := by
  rw [gDs_all, List.all_eq_true] at h
  exact h e k
def rTupOf (K : PySem.W.Frag) : List V → Hp → VK → Prop := fun xs H Q => ∃ p ys, xs = [V.ref p] ∧ ((SqL K H p ys ∧ ∀ l : Addr, H l = none → Q (V.ref l) (upd H l (HO.tup ys))) ∨ (SqT K H p ys ∧ Q (V.ref p) H))
theorem dp_newL {K : PySem.W.Frag} {B : List Addr} {H : Hp} {p : Addr} {xs : List V} {ds : List PyData} (lv : Live B H) (n : H p = none) (h : DpAll K (hide B H) xs ds) : Dp K (hide B (upd H p (.lst xs))) (.ref p) (.list ds) :=
  .lst (SqL.of (hide_new lv n)) (dps_same (hide_grow lv n) h)
section
variable {P : Program} {w : World} {K : PySem.W.Frag} {mg : Str → Option Value} {base : Heap}
/-! ### _law_bent -/
def spBent (K : PySem.W.Frag) (N : Nat) : Sp := fun vs H Q _ => ∃ (n : Nat) (B : List Addr) (b : Addr) (m L : Nat) (v : V) (d : PyData), N = n + 1 ∧ vs = [.ref b, v] ∧ b ∈ B ∧ Live B H ∧ BoxAt H b m ∧ m + 10 * (n + 1) ≤ 2 ^ 40 ∧ L ≤ 100 ∧ Dp K (hide B H) v d ∧ gD lf1 L d n = true ∧
  ∀ (v' : V) (d' : PyData) (H' : Hp), gD lf2 (L + 1) d' (n + 1) = true → SameX [b] H H' → BoxAt H' b (m + 10 * (n + 1)) → Dp K (hide B H') v' d' → Q v' H'
abbrev nBent : List Str := ["_law_box_here", "_law_bit", "_law_way", "_law_at", "_law_some", "_law_odd"]
theorem scBent : FnScope nBent ["_law_box_here", "_law_bit"] (defScope sBent) :=
  ⟨rfl, rfl, rfl, by decide +kernel, rfl, by decide +kernel, by decide +kernel⟩
theorem ok_bent {f fT fO : Addr} {fd fdT fdO : FuncData} (F : Fun K "_law_bent" "_law_bent" sBent f fd) (bF : Binds K fd ["_law_box_here", "_law_bit"] []) (mF : mg "_law_bent" = some (.ref f))
    (FT : Fun K "_law_take" "_law_take" sTake fT fdT) (bT : Binds K fdT ["_law_box_here", "_law_below"] []) (mT : mg "_law_take" = some (.ref fT))
    (FO : Fun K "_law_of" "_law_of" sOf fO fdO) (bO : Binds K fdO ["_law_box_here", "_law_some"] []) (mO : mg "_law_of" = some (.ref fO))
    (mn : mg "int" = none) (me : mg "len" = none) (mi : mg "isinstance" = none) (ml : mg "list" = none) (mt : mg "tuple" = none) (mb : mg "bool" = none) (ms : mg "str" = none) :
    ∀ N : Nat, FnOk P w K mg base CX0 (N + 2) f fd ["_law_box_here", "_law_bit"] (spBent K N) := by
  intro N
  induction N with
  | zero =>
    refine none_okk fun vs H Q E h => ?_
    obtain ⟨n, _, _, _, _, _, _, h, _⟩ := h
    omega
  | succ N ih =>
    have GT : FnOk P w K mg base CX0 (N + 2) fT fdT ["_law_box_here", "_law_below"] spTake := ok_take FT mn
    have GO : FnOk P w K mg base CX0 (N + 2) fO fdO ["_law_box_here", "_law_some"] (spOf K) := ok_of FO FT bT mT mn me
    refine F.ok scBent (fun vs H Q E h => ?_) (fun cdv A outer s H vs Q E hr h => ?_)
    · obtain ⟨n, B, b, m, L, v, d, _, rfl, _⟩ := h
      rfl
    · obtain ⟨n, B, b, m, L, v, d, eN, rfl, hb, lv, hB, hm, hL, hd, hg, q⟩ := h
      have eN2 : N = n := by omega
      subst eN2
      have memb : ∀ c ∈ [b], c ∈ B := fun c hc => by rw [List.mem_singleton.mp hc]; exact hb
      have fin : ∀ (a : Addr) (H8 : Hp), SameX [b] H H8 → BoxAt H8 b (m + 1) → (∃ xs ds, H8 a = some (.lst xs) ∧ DpAll K (hide B H8) xs ds ∧ (∀ e ∈ ds, gD lf2 (L + 1) e (N + 1) = true) ∧ 0 < xs.length ∧ xs.length ≤ 50 ∧ a ∉ B) → spOf K [.ref b, .ref a] H8 Q E0 := by
        rintro a H8 s8 b8 ⟨xs, ds, ha, hx, hg8, h0, h50, aB⟩
        refine ⟨b, m + 1, .ref a, rfl, b8, by omega, .inr ⟨B, a, xs, rfl, hb, .inl (SqL.of (by rw [hide_out aB]; exact ha)), h0, by omega, fun i x H9 hi s9 b9 => ?_⟩⟩
        obtain ⟨e, he, hxe⟩ := dps_get hx hi
        exact q x e H9 (hg8 e (List.mem_of_getElem? he)) (s8.trans s9) (b9.le (by omega)) (dp_same (s9.hide memb) hxe)
      have rest : ∃ u, PSs (cxOf CX0 P w K mg base nBent "_law_bent" (defScope sBent) f cdv A outer s H E).nox ((defBody sBent).drop 3) u ∧ ∀ (x2 x3 x4 x5 : Option V) (H3 : Hp), SameX [b] H H3 → BoxAt H3 b (m + 1) → u { nx := fun _ H' => Q .non H', rt := Q } [some (.ref b), some v, x2, x3, x4, x5] H3 := by
        refine ⟨_, pss_cons (ps_set (i := 5) scBent.nd rfl (.inl rfl) (pe_lst (pa_cons pe_non (pa_cons pe_bl (pa_cons pe_bl (pa_cons (pe_un un_neg pe_int) (pa_cons pe_int (pa_cons pe_int (pa_cons pe_int (pa_cons pe_str (pa_cons pe_str (pa_cons pe_str (pa_cons pe_str (pa_cons pe_str (pa_cons pe_str
              (pa_cons (pe_tup pa_nil) (pa_cons (pe_lst pa_nil) (pa_cons (pe_tup (pa_cons pe_int pa_nil)) (pa_cons (pe_tup (pa_cons pe_str pa_nil)) (pa_cons pe_str pa_nil))))))))))))))))))))
          (pss_cons (ps_set (i := 5) scBent.nd rfl (.inl rfl) (pe_op op_cat (pv 5) (pe_lst (pa_cons pe_str pa_nil))))
          (pss_cons (ps_if (PW.pt (pw_and (pt_val (pe_callB (cr_isOne "int") (by rfl) mi boot_isinstance (pa_cons (pv 1) (pa_cons (pe_bltn (v := .ty "int") (by rfl) mn (by decide +kernel) rfl) pa_nil))))
              (pw_and1 (pt_not (pt_val (pe_callB (cr_isOne "bool") (by rfl) mi boot_isinstance (pa_cons (pv 1) (pa_cons (pe_bltn (v := .ty "bool") (by rfl) mb (by decide +kernel) rfl) pa_nil))))))))
            (pss_one (ps_set (i := 5) scBent.nd rfl (.inl rfl) (pe_op op_cat (pv 5) (pe_lst (pa_cons (pe_op op_add (pv 1) pe_int) (pa_cons (pe_op op_sub (pv 1) pe_int) (pa_cons (pe_op op_add (pv 1) pe_int) (pa_cons (pe_callTy call_str_int (by rfl) ms PyProof.Rows.boot_str (pa_cons (pv 1) pa_nil)) (pa_cons pe_int (pa_cons (pe_op op_pow pe_int pe_int) pa_nil)))))))))) pss_nil)
          (pss_cons (ps_if (pt_val (pe_callB (cr_isOne "str") (by rfl) mi boot_isinstance (pa_cons (pv 1) (pa_cons (pe_bltn (v := .ty "str") (by rfl) ms (by decide +kernel) rfl) pa_nil))))
            (pss_one (ps_set (i := 5) scBent.nd rfl (.inl rfl) (pe_op op_cat (pv 5) (pe_lst (pa_cons (pe_op op_add_str (pv 1) pe_str) (pa_cons (pe_slice sl_str (pv 1) po_none (po_some (pe_un un_neg pe_int))) (pa_cons (pe_upper (pv 1)) (pa_cons (pe_op op_add_str (pv 1) pe_str) pa_nil)))))))) pss_nil)
          (pss_one (ps_ret (pe_call GO hr (by rfl) mO FO.kp bO .nil pass0 (pa_cons (pv 0) (pa_cons (pv 5) pa_nil)))))))), fun x2 x3 x4 x5 H3 s3 b3 => ?_⟩
        have lv3 : Live B H3 := s3.live lv fun c hc => by rw [List.mem_singleton.mp hc]; exact b3.live
        have d3 : Dp K (hide B H3) v d := dp_same (s3.hide memb) hd
        refine ⟨_, rfl, by show 0 ≤ sizeLine; decide, fun p1 n1 => ⟨by show 0 ≤ sizeLine; decide, fun p2 n2 => ⟨by show 1 ≤ sizeLine; decide, fun p3 n3 => ⟨by show 1 ≤ sizeLine; decide, fun p4 n4 => ⟨by show 18 ≤ sizeLine; decide, fun p5 n5 => ?_⟩⟩⟩⟩⟩
        have k1 := dp_new (K := K) (xs := []) (ds := []) lv3 n1 .nil
        have u1 : Same H3 (upd H3 p1 (.tup [])) := same_upd n1
        have k2 := dp_newL (K := K) (xs := []) (ds := []) (lv3.same u1) n2 .nil
        have u2 := same_upd (o := HO.lst []) n2
        have k3 := dp_new (K := K) ((lv3.same u1).same u2) n3 (.cons (.int 0) .nil)
        have u3 := same_upd (o := HO.tup [.int 0]) n3
        have k4 := dp_new (K := K) (((lv3.same u1).same u2).same u3) n4 (.cons (.str "nop") .nil)
        have u4 := same_upd (o := HO.tup [.str "nop"]) n4
        have u14 := ((u1.trans u2).trans u3).trans u4
        have lv4 := lv3.same u14
        replace k1 := dp_same (hide_of_same (B := B) ((u2.trans u3).trans u4)) k1
        replace k2 := dp_same (hide_of_same (B := B) (u3.trans u4)) k2
        replace k3 := dp_same (hide_of_same (B := B) u4) k3
        generalize upd (upd (upd (upd H3 p1 (HO.tup [])) p2 (HO.lst [])) p3 (HO.tup [V.int 0])) p4 (HO.tup [V.str "nop"]) = H4 at n5 k1 k2 k3 k4 u14 lv4
        have d18 : DpAll K (hide B H4) [.non, .bl true, .bl false, .int (-1), .int 0, .int 1, .int 2, .str "", .str "a", .str "pipe", .str "slot", .str "link", .str "nop", .ref p1, .ref p2, .ref p3, .ref p4, .str "Ab"]
            [.none, .bool true, .bool false, .int (-1), .int 0, .int 1, .int 2, .str "", .str "a", .str "pipe", .str "slot", .str "link", .str "nop", .tuple [], .list [], .tuple [.int 0], .tuple [.str "nop"], .str "Ab"] :=
          .cons .non (.cons (.bl _) (.cons (.bl _) (.cons (.int _) (.cons (.int _) (.cons (.int _) (.cons (.int _) (.cons (.str _) (.cons (.str _) (.cons (.str _) (.cons (.str _) (.cons (.str _) (.cons (.str _) (.cons k1 (.cons k2 (.cons k3 (.cons k4 (.cons (.str _) .nil)))))))))))))))))
        have u5 := same_upd (o := HO.lst [.non, .bl true, .bl false, .int (-1), .int 0, .int 1, .int 2, .str "", .str "a", .str "pipe", .str "slot", .str "link", .str "nop", .ref p1, .ref p2, .ref p3, .ref p4, .str "Ab"]) n5
        have h5 : (upd H4 p5 (HO.lst [.non, .bl true, .bl false, .int (-1), .int 0, .int 1, .int 2, .str "", .str "a", .str "pipe", .str "slot", .str "link", .str "nop", .ref p1, .ref p2, .ref p3, .ref p4, .str "Ab"])) p5 = _ := upd_same
        replace d18 := dps_same (hide_of_same (B := B) u5) d18
        have lv5 := lv4.same u5
        replace u5 := u14.trans u5
        show tSeq _ _ _ _ (upd H4 p5 (HO.lst [.non, .bl true, .bl false, .int (-1), .int 0, .int 1, .int 2, .str "", .str "a", .str "pipe", .str "slot", .str "link", .str "nop", .ref p1, .ref p2, .ref p3, .ref p4, .str "Ab"]))
        generalize upd H4 p5 (HO.lst [.non, .bl true, .bl false, .int (-1), .int 0, .int 1, .int 2, .str "", .str "a", .str "pipe", .str "slot", .str "link", .str "nop", .ref p1, .ref p2, .ref p3, .ref p4, .str "Ab"]) = H5 at h5 d18 lv5 u5
        refine ⟨_, rfl, by show 1 ≤ sizeLine; decide, fun p6 n6 => ⟨p5, p6, _, _, rfl, rfl, same_upd n6 _ _ h5, upd_same, by show 18 + 1 ≤ sizeLine; decide, fun p7 n7 => ?_⟩⟩
        have u6 : Same H5 (upd H5 p6 (.lst [.str "ninechars"])) := same_upd n6
        have lv6 := lv5.same u6
        have d19 := dps_app (dps_same (hide_of_same (B := B) u6) d18) (.cons (.str "ninechars") .nil)
        have len19 : (([.non, .bl true, .bl false, .int (-1), .int 0, .int 1, .int 2, .str "", .str "a", .str "pipe", .str "slot", .str "link", .str "nop", .ref p1, .ref p2, .ref p3, .ref p4, .str "Ab"] : List V) ++ [V.str "ninechars"]).length = 19 := rfl
        generalize ([.non, .bl true, .bl false, .int (-1), .int 0, .int 1, .int 2, .str "", .str "a", .str "pipe", .str "slot", .str "link", .str "nop", .ref p1, .ref p2, .ref p3, .ref p4, .str "Ab"] : List V) ++ [V.str "ninechars"] = xs at d19 len19
        have o7 : ∃ ds, DpAll K (hide B (upd (upd H5 p6 (.lst [.str "ninechars"])) p7 (.lst xs))) xs ds ∧ (∀ e ∈ ds, gD lf2 (L + 1) e (N + 1) = true) := by
          refine ⟨_, dps_same (hide_grow lv6 n7) d19, ?_⟩
          have a2 : gDs lf2 1 [.none, .bool true, .bool false, .int (-1), .int 0, .int 1, .int 2, .str "", .str "a", .str "pipe", .str "slot", .str "link", .str "nop", .tuple [], .list [], .tuple [.int 0], .tuple [.str "nop"], .str "Ab", .str "ninechars"] 1 = true := by decide +kernel
          rw [gDs_all, List.all_eq_true] at a2
          intro e he
          exact gD_mono (fun _ z => z) (by omega) e 1 (N + 1) (by omega) (a2 e he)
        have h7 : (upd (upd H5 p6 (.lst [.str "ninechars"])) p7 (.lst xs)) p7 = some (.lst xs) := upd_same
        have u7 : Same H3 (upd (upd H5 p6 (.lst [.str "ninechars"])) p7 (.lst xs)) := (u5.trans u6).trans (same_upd n7)
        have p7B := lv6.new n7
        show tSeq _ _ _ _ (upd (upd H5 p6 (.lst [.str "ninechars"])) p7 (.lst xs))
        generalize upd (upd H5 p6 (.lst [.str "ninechars"])) p7 (.lst xs) = H7 at o7 h7 u7
        obtain ⟨ds, o7, good⟩ := o7
        have d7 := dp_same (hide_of_same (B := B) u7) d3
        have e7 := dp_same (hide_same B H7) d7
        have lv7 := lv3.same u7
        have b7 := b3.same u7
        have s7 : SameX [b] H H7 := s3.trans (SameX.of u7)
        have goOn := fin p7 H7 s7 b7 ⟨xs, ds, h7, o7, good, by omega, by omega, p7B⟩
        -- more of these
        have more : ∀ (ys : List V) (es : List PyData) (H8 : Hp) (p8 p9 : Addr), Same H7 H8 → H8 p8 = none → upd H8 p8 (.lst ys) p9 = none → DpAll K (hide B H8) ys es → ys.length ≤ 10 → (∀ e ∈ es, gD lf2 (L + 1) e (N + 1) = true) → spOf K [.ref b, .ref p9] (upd (upd H8 p8 (.lst ys)) p9 (.lst (xs ++ ys))) Q E0 := by
          intro ys es H8 p8 p9 s8 n8 n9 dy ly gy
          have s9 := s8.trans ((same_upd (o := HO.lst ys) n8).trans (same_upd (o := HO.lst (xs ++ ys)) n9))
          refine fin p9 _ (s7.trans (SameX.of s9)) (b7.same s9) ⟨xs ++ ys, ds ++ es, upd_same, ?_, ?_, ?_, ?_, ((lv7.same s8).upd (p := p8)).new n9⟩
          · exact dps_app (dps_same (hide_of_same s9) o7) (dps_same (hide_of_same ((same_upd (o := HO.lst ys) n8).trans (same_upd (o := HO.lst (xs ++ ys)) n9))) dy)
          · intro e he
            rcases List.mem_append.mp he with he | he
            · exact good e he
            · exact gy e he
          · rw [List.length_append]
            omega
          · rw [List.length_append]
            omega
        cases e7 with
        | non =>
          have hv : ∀ {H2 : Hp}, Dp K H2 .non .none := .non
          exact ⟨_, rfl, ⟨_, _, rfl, hv, false, (show kitB "NoneType" "int" = some false by decide +kernel), _, rfl, iteF (iteF ⟨_, rfl, ⟨_, _, rfl, hv, false, (show kitB "NoneType" "str" = some false by decide +kernel), _, rfl, iteF ⟨_, rfl, _, rfl, goOn⟩⟩⟩)⟩⟩
        | bl c =>
          have hv : ∀ {H2 : Hp}, Dp K H2 (.bl c) (.bool c) := .bl c
          exact ⟨_, rfl, ⟨_, _, rfl, hv, true, (show kitB "bool" "int" = some true by decide +kernel), _, rfl, iteT ⟨_, rfl, ⟨_, _, rfl, hv, true, (show kitB "bool" "bool" = some true by decide +kernel), _, rfl, iteF ⟨_, rfl, ⟨_, _, rfl, hv, false, (show kitB "bool" "str" = some false by decide +kernel), _, rfl, iteF ⟨_, rfl, _, rfl, goOn⟩⟩⟩⟩⟩⟩⟩
        | int c =>
          have hv : ∀ {H2 : Hp}, Dp K H2 (.int c) (.int c) := .int c
          have hc : c.natAbs ≤ 10 ^ 29 := of_decide_eq_true (show decide (c.natAbs ≤ 10 ^ 29) = true by simp only [gD] at hg; exact hg)
          have h30 : c.natAbs < 10 ^ 30 := by omega
          have hlog : c.natAbs.log2 < 1920 := by
            by_cases z : c.natAbs = 0
            · rw [z]; decide
            · exact (Nat.log2_lt z).mpr (Nat.lt_trans h30 (by decide +kernel))
          have hlen := int_text_length_le10 (k := 30) (by decide) h30
          refine ⟨_, rfl, ⟨_, _, rfl, hv, true, (show kitB "int" "int" = some true by decide +kernel), _, rfl, iteT ⟨_, rfl, ⟨_, _, rfl, hv, false, (show kitB "int" "bool" = some false by decide +kernel), _, rfl, iteT ?_⟩⟩⟩⟩
          refine ⟨_, rfl, _, rfl, _, _, rfl, rfl, _, rfl, _, _, rfl, rfl, _, rfl, _, _, rfl, rfl, _, rfl, _, rfl, hlog, _, _, rfl, rfl, ⟨by decide, by decide, by decide⟩, by show 6 ≤ sizeLine; decide, fun p8 n8 => ⟨p7, p8, _, _, rfl, rfl, same_upd n8 _ _ h7, upd_same, ?_, fun p9 n9 => ?_⟩⟩
          · show xs.length + 6 ≤ sizeLine
            rw [sizeLine_eq]
            omega
          · refine ⟨_, rfl, ⟨_, _, rfl, hv, false, (show kitB "int" "str" = some false by decide +kernel), _, rfl, iteF ⟨_, rfl, _, rfl, more _ _ H7 p8 p9 (fun _ _ z => z) n8 n9 (.cons (.int _) (.cons (.int _) (.cons (.int _) (.cons (.str _) (.cons (.int _) (.cons (.int _) .nil)))))) (by show 6 ≤ 10; decide) fun e he => ?_⟩⟩⟩
            have z : c + 1 = c + 1 := rfl
            rcases List.mem_cons.mp he with rfl | he
            · exact int_good (by omega)
            rcases List.mem_cons.mp he with rfl | he
            · exact int_good (by omega)
            rcases List.mem_cons.mp he with rfl | he
            · exact int_good (by omega)
            rcases List.mem_cons.mp he with rfl | he
            · exact bent_int h30
            rcases List.mem_cons.mp he with rfl | he
            · exact int_good (by decide)
            · rw [List.mem_singleton.mp he]
              exact int_good (by decide +kernel)
        | str c =>
          have hv : ∀ {H2 : Hp}, Dp K H2 (.str c) (.str c) := .str c
          have hc : (decide (c.length ≤ 15) && c.cps.toList.all fun c => decide (c < 128)) = true := by simp only [gD] at hg; exact hg
          rw [Bool.and_eq_true, decide_eq_true_eq] at hc
          refine ⟨_, rfl, ⟨_, _, rfl, hv, false, (show kitB "str" "int" = some false by decide +kernel), _, rfl, iteF (iteF ⟨_, rfl, ⟨_, _, rfl, hv, true, (show kitB "str" "str" = some true by decide +kernel), _, rfl, iteT ?_⟩⟩)⟩⟩
          refine ⟨_, rfl, _, rfl, _, _, rfl, rfl, ?_, _, rfl, _, rfl, _, rfl, _, rfl, ?_, _, rfl, ⟨_, rfl⟩, _, rfl, rfl, ?_, _, rfl, _, _, rfl, rfl, ?_, by show 4 ≤ sizeLine; decide, fun p8 n8 => ⟨p7, p8, _, _, rfl, rfl, same_upd n8 _ _ h7, upd_same, ?_, fun p9 n9 => ?_⟩⟩
          · show c.length + 1 ≤ sizeLine
            rw [sizeLine_eq]
            omega
          · rw [sizeLine_eq]
            omega
          · omega
          · show c.length + 1 ≤ sizeLine
            rw [sizeLine_eq]
            omega
          · show xs.length + 4 ≤ sizeLine
            rw [sizeLine_eq]
            omega
          · refine ⟨_, rfl, _, rfl, more _ _ H7 p8 p9 (fun _ _ z => z) n8 n9 (.cons (.str _) (.cons (.str _) (.cons (.str _) (.cons (.str _) .nil)))) (by show 4 ≤ 10; decide) fun e he => ?_⟩
            rcases List.mem_cons.mp he with rfl | he
            · exact bent_add hc.1 hc.2
            rcases List.mem_cons.mp he with rfl | he
            · exact bent_cut _ _ hc.1 hc.2
            rcases List.mem_cons.mp he with rfl | he
            · exact bent_up hc.1 hc.2
            · rw [List.mem_singleton.mp he]
              exact bent_add hc.1 hc.2
        | lst h1 h2 =>
          rename_i a zs es
          have hv : ∀ {H2 : Hp}, Same H7 H2 → Dp K H2 (.ref a) (.list es) := fun z => dp_same z (.lst h1 h2)
          exact ⟨_, rfl, ⟨_, _, rfl, hv (fun _ _ z => z), false, (show kitB "list" "int" = some false by decide +kernel), _, rfl, iteF (iteF ⟨_, rfl, ⟨_, _, rfl, hv (fun _ _ z => z), false, (show kitB "list" "str" = some false by decide +kernel), _, rfl, iteF ⟨_, rfl, _, rfl, goOn⟩⟩⟩)⟩⟩
        | tup h1 h2 =>
          rename_i a zs es
          have hv : ∀ {H2 : Hp}, Same H7 H2 → Dp K H2 (.ref a) (.tuple es) := fun z => dp_same z (.tup h1 h2)
          exact ⟨_, rfl, ⟨_, _, rfl, hv (fun _ _ z => z), false, (show kitB "tuple" "int" = some false by decide +kernel), _, rfl, iteF (iteF ⟨_, rfl, ⟨_, _, rfl, hv (fun _ _ z => z), false, (show kitB "tuple" "str" = some false by decide +kernel), _, rfl, iteF ⟨_, rfl, _, rfl, goOn⟩⟩⟩)⟩⟩
      obtain ⟨u, hu, hrest⟩ := rest
      have rest2 : ∃ u2, PSs (cxOf CX0 P w K mg base nBent "_law_bent" (defScope sBent) f cdv A outer s H E).nox ((defBody sBent).drop 2) u2 ∧ ∀ (r : Int) (x3 x4 x5 : Option V) (H3 : Hp), SameX [b] H H3 → BoxAt H3 b (m + 1) → u2 { nx := fun _ H' => Q .non H', rt := Q } [some (.ref b), some v, some (.int r), x3, x4, x5] H3 := by
        refine ⟨_, pss_cons (ps_if (PW.pt (pw_and (pt_cmpR op_eq (pv 2) pe_int (nomark _)) (pw_and1 (pt_val (pe_callB cr_isSeq2 (by rfl) mi boot_isinstance (pa_cons (pv 1) (pa_cons (pe_tup (pa_cons (pe_bltn (v := .ty "tuple") (by rfl) mt (by decide +kernel) rfl) (pa_cons (pe_bltn (v := .ty "list") (by rfl) ml (by decide +kernel) rfl) pa_nil))) pa_nil)))))))
          (pss_one (ps_ret (pe_ifExp (pt_val (pe_callB (cr_isOne "tuple") (by rfl) mi boot_isinstance (pa_cons (pv 1) (pa_cons (pe_bltn (v := .ty "tuple") (by rfl) mt (by decide +kernel) rfl) pa_nil))))
              (pe_callTy call_list_of (by rfl) ml PyProof.Rows.boot_list (pa_cons (pv 1) pa_nil)) (pe_callTy call_tuple_of (by rfl) mt PyProof.Rows.boot_tuple (pa_cons (pv 1) pa_nil))))) pss_nil)
          hu, fun r x3 x4 x5 H3 s3 b3 => ?_⟩
        have d3 : Dp K (hide B H3) v d := dp_same (s3.hide memb) hd
        have lv3 : Live B H3 := s3.live lv fun c hc => by rw [List.mem_singleton.mp hc]; exact b3.live
        refine ⟨_, rfl, rfl, _, rfl, ite2 (fun e => ?_) (fun e => iteF (hrest _ _ _ _ _ s3 b3))⟩
        refine ⟨_, rfl, by show 2 ≤ sizeLine; decide, fun t nt => ⟨_, _, d, rfl, upd_same, dp_same ((hide_same B H3).trans (same_upd nt)) d3, _, rfl, ?_⟩⟩
        have st : Same H3 (upd H3 t (.tup [.ty "tuple", .ty "list"])) := same_upd nt
        have d4 : Dp K (hide B (upd H3 t (.tup [.ty "tuple", .ty "list"]))) v d := dp_same (hide_of_same st) d3
        have lv4 := lv3.same st
        have s4 := s3.trans (SameX.of (B := [b]) st)
        have b4 := b3.same st
        generalize upd H3 t (.tup [.ty "tuple", .ty "list"]) = H4 at st d4 lv4 s4 b4
        cases hq : isSeq d with
        | false => exact iteF (hrest _ _ _ _ _ s4 b4)
        | true =>
          refine iteT ?_
          obtain ⟨a, xs, ds, rfl, hk, hall⟩ := dp_seq d4 hq
          have b5 := b4.le (show m + 1 ≤ m + 10 * (N + 1) by omega)
          rcases hk with ⟨hS, rfl⟩ | ⟨hS, rfl⟩
          · obtain ⟨k, rfl, h1, h2⟩ := gD_seq (.inl rfl) hg
            have hv : Dp K H4 (.ref a) (.list ds) := dp_same (hide_same B H4) d4
            refine ⟨_, rfl, ⟨_, _, rfl, hv, false, (show kitB "list" "tuple" = some false by decide +kernel), _, rfl, iteF ⟨_, rfl, a, xs, rfl, .inl ⟨(hide_same B H4).seq hS, fun l nl => q _ (.tuple ds) _ ?_ (s4.trans (SameX.of (same_upd nl))) (b5.same (same_upd nl)) (dp_new lv4 nl hall)⟩⟩⟩⟩
            exact gD_mono lf12 (Nat.le_succ L) _ (k + 1) _ (by omega) (gD_mk h1 h2).2
          · obtain ⟨k, rfl, h1, h2⟩ := gD_seq (.inr rfl) hg
            have hv : Dp K H4 (.ref a) (.tuple ds) := dp_same (hide_same B H4) d4
            refine ⟨_, rfl, ⟨_, _, rfl, hv, true, (show kitB "tuple" "tuple" = some true by decide +kernel), _, rfl, iteT ⟨_, rfl, a, xs, rfl, .inr (same_seqT (hide_same B H4) hS), fun l nl => q _ (.list ds) _ ?_ (s4.trans (SameX.of (same_upd nl))) (b5.same (same_upd nl)) (dp_newL lv4 nl hall)⟩⟩⟩
            exact gD_mono lf12 (Nat.le_succ L) _ (k + 1) _ (by omega) (gD_mk h1 h2).1
      obtain ⟨u2, hu2, hrest2⟩ := rest2
      refine ⟨_, pss_cons (ps_set (i := 2) scBent.nd rfl (.inl rfl) (pe_call GT hr (by rfl) mT FT.kp bT .nil pass0 (pa_cons (pv 0) (pa_cons pe_int pa_nil))))
        (pss_cons (ps_if (PW.pt (pw_and (pt_val (pe_callB cr_isSeq2 (by rfl) mi boot_isinstance (pa_cons (pv 1) (pa_cons (pe_tup (pa_cons (pe_bltn (v := .ty "tuple") (by rfl) mt (by decide +kernel) rfl) (pa_cons (pe_bltn (v := .ty "list") (by rfl) ml (by decide +kernel) rfl) pa_nil))) pa_nil))))
            (pw_and (pt_cmpR op_gt (pe_callB call_len_seq (by rfl) me PySem.boot_len (pa_cons (pv 1) pa_nil)) pe_int (nomark _)) (pw_and1 (pt_cmpR op_gt (pv 2) pe_int (nomark _))))))
          (pss_cons (ps_par (i := 3) (j := 4) rfl scBent.nd rfl rfl (by decide) rfl rfl (pa_cons (pe_call GT hr (by rfl) mT FT.kp bT .nil pass0 (pa_cons (pv 0) (pa_cons (pe_callB call_len_seq (by rfl) me PySem.boot_len (pa_cons (pv 1) pa_nil)) pa_nil)))
              (pa_cons (pe_callTy call_list_of (by rfl) ml PyProof.Rows.boot_list (pa_cons (pv 1) pa_nil)) pa_nil)) (by rfl))
          (pss_cons (ps_if (pt_cmpR op_eq (pv 2) pe_int (nomark _))
            (pss_one (ps_expr (pe_bm PySem.F.plainAttrs_list PySem.F.slot_list_pop PySem.F.type_list_pop mt_popAt (pv 4) (pa_cons (pv 3) pa_nil))))
            (pss_one (ps_if (pt_cmpR op_eq (pv 2) pe_int (nomark _))
              (pss_one (ps_expr (pe_bm PySem.F.plainAttrs_list PySem.F.slot_list_insert PySem.F.type_list_insert mt_insert (pv 4) (pa_cons (pv 3) (pa_cons (pe_ix ix_seq (pv 4) (pv 3) (fun _ _ => rfl)) pa_nil)))))
              (pss_one (ps_asg (pe_call ih hr (by rfl) mF F.kp bF .nil pass0 (pa_cons (pv 0) (pa_cons (pe_ix ix_seq (pv 4) (pv 3) (fun _ _ => rfl)) pa_nil))) (pg_sub (pv 4) (pv 3) set_list))))))
          (pss_one (ps_ret (pe_ifExp (pt_val (pe_callB (cr_isOne "tuple") (by rfl) mi boot_isinstance (pa_cons (pv 1) (pa_cons (pe_bltn (v := .ty "tuple") (by rfl) mt (by decide +kernel) rfl) pa_nil))))
              (pe_callTy call_tuple_of (by rfl) mt PyProof.Rows.boot_tuple (pa_cons (pv 4) pa_nil)) (pv 4)))))) pss_nil)
        hu2), ?_⟩
      refine ⟨_, rfl, b, m, 7, rfl, by decide, by decide, hB, by omega, fun r H1 r0 r1 s1 b1 => ?_⟩
      have d1 : Dp K (hide B H1) v d := dp_same (s1.hide memb) hd
      have lv1 : Live B H1 := s1.live lv fun c hc => by rw [List.mem_singleton.mp hc]; exact b1.live
      refine ⟨_, rfl, by show 2 ≤ sizeLine; decide, fun t nt => ⟨_, _, d, rfl, upd_same, dp_same ((hide_same B H1).trans (same_upd nt)) d1, _, rfl, ?_⟩⟩
      have st : Same H1 (upd H1 t (.tup [.ty "tuple", .ty "list"])) := same_upd nt
      have d2 : Dp K (hide B (upd H1 t (.tup [.ty "tuple", .ty "list"]))) v d := dp_same (hide_of_same st) d1
      have lv2 := lv1.same st
      have s2 := s1.trans (SameX.of (B := [b]) st)
      have b2 := b1.same st
      generalize upd H1 t (.tup [.ty "tuple", .ty "list"]) = H2 at st d2 lv2 s2 b2
      cases hq : isSeq d with
      | false => exact iteF (iteF (hrest2 _ _ _ _ _ s2 b2))
      | true =>
        refine iteT ?_
        obtain ⟨a, xs, ds, rfl, hk, hall⟩ := dp_seq d2 hq
        have hkB : SqL K (hide B H2) a xs ∨ SqT K (hide B H2) a xs := hk.imp And.left And.left
        have hk2 : SqL K H2 a xs ∨ SqT K H2 a xs := hkB.imp (hide_same B H2).seq (same_seqT (hide_same B H2))
        have hkk : d = .list ds ∨ d = .tuple ds := hk.imp And.right And.right
        obtain ⟨n0, hN0, hlen, hgs⟩ := gD_seq hkk hg
        subst hN0
        have hl := dps_len hall
        refine ⟨_, rfl, a, xs, rfl, hk2, _, _, rfl, rfl, _, rfl, ite2 (fun e1 => ?_) (fun e1 => iteF (hrest2 _ _ _ _ _ s2 b2))⟩
        have hpos : 0 < xs.length := by
          have z := of_decide_eq_true e1
          omega
        refine ⟨_, rfl, _, _, rfl, rfl, _, rfl, ite2 (fun e2 => ?_) (fun e2 => hrest2 _ _ _ _ _ s2 b2)⟩
        -- the place, and a list of its own
        refine ⟨_, rfl, _, rfl, a, xs, rfl, hk2, b, m + 1, xs.length, rfl, by omega, by omega, b2, by omega, fun k0 H3 k00 k01 s3 b3 => ?_⟩
        obtain ⟨j, rfl⟩ : ∃ j : Nat, k0 = j := ⟨k0.toNat, by omega⟩
        have hj : j < xs.length := by omega
        have lv3 : Live B H3 := s3.live lv2 fun c hc => by rw [List.mem_singleton.mp hc]; exact b3.live
        have hk3B : SqL K (hide B H3) a xs ∨ SqT K (hide B H3) a xs := hkB.imp (s3.hide memb).seq (same_seqT (s3.hide memb))
        have hk3 : SqL K H3 a xs ∨ SqT K H3 a xs := hk3B.imp (hide_same B H3).seq (same_seqT (hide_same B H3))
        have d3 : Dp K (hide B H3) (.ref a) d := dp_same (s3.hide memb) d2
        have hall3 : DpAll K (hide B H3) xs ds := dps_same (s3.hide memb) hall
        refine ⟨_, rfl, a, xs, rfl, hk3, fun l nl => ⟨_, _, rfl, ?_⟩⟩
        have lB := lv3.new nl
        have lb : l ≠ b := fun e => lB (e ▸ hb)
        have s34 : Same H3 (upd H3 l (.lst xs)) := same_upd nl
        have hl4 : (upd H3 l (.lst xs)) l = some (.lst xs) := upd_same
        have lv4 := lv3.same s34
        have hall4 := dps_same (hide_of_same (B := B) s34) hall3
        have d4 := dp_same (hide_of_same (B := B) s34) d3
        have s4 : SameX [b] H (upd H3 l (.lst xs)) := s2.trans (s3.trans (SameX.of s34))
        have b4 := b3.same s34
        have x4 : ∀ c, H c ≠ none → c ≠ l := fun c hc e => by
          cases z : H c with
          | none => exact hc z
          | some o =>
            by_cases y : c = b
            · exact lb (e ▸ y)
            · rw [← e, s3 c o (fun z => y (List.mem_singleton.mp z)) (s2 c o (fun z => y (List.mem_singleton.mp z)) z)] at nl
              cases nl
        have m35 : ∀ {H5 : Hp}, SameX [l, b] (upd H3 l (.lst xs)) H5 → Same (hide B H3) (hide B H5) := fun {H5} s5 c o z => by
          obtain ⟨cB, z2⟩ := hide_some z
          rw [hide_out cB]
          refine s5 c o (fun y => ?_) (s34 c o z2)
          rcases List.mem_cons.mp y with y | y
          · exact ne_of_none z2 nl y
          · exact cB (by rw [List.mem_singleton.mp y]; exact hb)
        have m4 : Same (hide B H3) (hide (l :: B) (upd H3 l (.lst xs))) := fun c o z => by
          obtain ⟨cB, z2⟩ := hide_some z
          rw [hide_out (fun y => (List.mem_cons.mp y).elim (ne_of_none z2 nl) cB)]
          exact s34 c o z2
        have sH : ∀ {H5 : Hp}, SameX [l, b] (upd H3 l (.lst xs)) H5 → SameX [b] H H5 := fun {H5} s5 c o z z2 => by
          refine s5 c o (fun y => ?_) (s4 c o z z2)
          rcases List.mem_cons.mp y with y | y
          · exact x4 c (fun e => by rw [z2] at e; cases e) y
          · exact z y
        have gall : ∀ e ∈ ds, gD lf2 (L + 1) e (n0 + 1) = true := fun e he => by
          rw [gDs_all, List.all_eq_true] at hgs
          exact gD_mono lf12 (Nat.le_succ L) e n0 _ (Nat.le_succ n0) (hgs e he)
        have ret : ∀ (x5 : Option V) (H5 : Hp) (zs : List V) (es : List PyData), SameX [l, b] (upd H3 l (.lst xs)) H5 → BoxAt H5 b (m + 10 * (n0 + 1 + 1)) → H5 l = some (.lst zs) → DpAll K (hide B H5) zs es → es.length ≤ L + 1 → (∀ e ∈ es, gD lf2 (L + 1) e (n0 + 1) = true) →
            (tIf (tB (tCB (rIsOne K "tuple") (tCons (tVar 1) (tCons (tC (V.ty "tuple")) tNil)))) (tCB (rTupOf K) (tCons (tVar 4) tNil)) (tVar 4)) [some (.ref b), some (.ref a), some (.int r), some (.int j), some (.ref l), x5] H5 Q := by
          intro x5 H5 zs es s5 b5 hl5 dz le ge
          have d5 : Dp K H5 (.ref a) d := dp_same ((m35 s5).trans (hide_same B H5)) d3
          have S5 := sH s5
          have lv5 : Live B H5 := S5.live lv fun c hc => by rw [List.mem_singleton.mp hc]; exact b5.live
          have gg := gD_mk le (gDs_of ge)
          rcases hkk with rfl | rfl
          · refine ⟨_, rfl, ⟨_, _, rfl, d5, false, (show kitB "list" "tuple" = some false by decide +kernel), _, rfl, iteF ⟨_, rfl, q _ (.list es) _ gg.1 S5 b5 (.lst (SqL.of (by rw [hide_out lB]; exact hl5)) dz)⟩⟩⟩
          · refine ⟨_, rfl, ⟨_, _, rfl, d5, true, (show kitB "tuple" "tuple" = some true by decide +kernel), _, rfl, iteT ⟨_, rfl, l, zs, rfl, .inl ⟨SqL.of hl5, fun l2 nl2 => q _ (.tuple es) _ gg.2 (S5.trans (SameX.of (same_upd nl2))) (b5.same (same_upd nl2)) (dp_new lv5 nl2 dz)⟩⟩⟩⟩
        have hjx : xs[j]? = some xs[j] := List.getElem?_eq_getElem hj
        obtain ⟨dj, hdj, hxj⟩ := dps_get hall3 hjx
        have hdl : dj ∈ ds := List.mem_of_getElem? hdj
        have upl : ∀ (ys : List V), SameX [l, b] (upd H3 l (.lst xs)) (upd (upd H3 l (.lst xs)) l (.lst ys)) := fun ys => sameX_upd List.mem_cons_self
        have bup : ∀ {H5 : Hp} {k : Nat} (ys : List V), BoxAt H5 b k → BoxAt (upd H5 l (.lst ys)) b k := fun {H5 k} ys z => by
          obtain ⟨u1, u2, u3, z1, z2⟩ := z
          exact ⟨u1, u2, u3, by rw [upd_ne lb.symm]; exact z1, z2⟩
        refine ⟨_, rfl, rfl, _, rfl, ite2 (fun e3 => ?_) (fun e3 => ?_)⟩
        · refine ⟨_, rfl, .inl ⟨rfl, _, .inl (.inl hl4)⟩, _, rfl, l, xs, j, j, xs[j], rfl, rfl, hl4, by omega, by omega, ?_, hjx, ?_⟩
          · exact seqIndex_of (k := (j : Int)) (by omega) (by omega)
          · refine ret _ _ (xs.eraseIdx j) (ds.eraseIdx j) (upl _) ((bup _ b4).le (by omega)) upd_same (dps_erase j (dps_same (m35 (upl _)) hall3)) ?_ fun e he => gall e (List.mem_of_mem_eraseIdx he)
            have := List.length_eraseIdx_le ds j
            omega
        · refine ⟨_, rfl, rfl, _, rfl, ite2 (fun e4 => ?_) (fun e4 => ?_)⟩
          · refine ⟨_, rfl, .inl ⟨rfl, _, .inl (.inl hl4)⟩, _, rfl, _, rfl, _, rfl, .inl ⟨l, xs, j, xs[j], rfl, rfl, SqL.of hl4, atI_nat hjx, l, xs, j, xs[j], rfl, rfl, hl4, small1000 (by omega), by omega, by omega, ?_⟩⟩
            refine ret _ _ (xs.take j ++ [xs[j]] ++ xs.drop j) (ds.take j ++ [dj] ++ ds.drop j) (upl _) ((bup _ b4).le (by omega)) upd_same (dps_app (dps_app (dps_take j (dps_same (m35 (upl _)) hall3)) (.cons (dp_same (m35 (upl _)) hxj) .nil)) (dps_drop j (dps_same (m35 (upl _)) hall3))) ?_ fun e he => ?_
            · rw [List.length_append, List.length_append, List.length_take, List.length_drop]
              show min j ds.length + 1 + (ds.length - j) ≤ L + 1
              omega
            · rcases List.mem_append.mp he with he | he
              · rcases List.mem_append.mp he with he | he
                · exact gall e (List.mem_of_mem_take he)
                · rw [List.mem_singleton.mp he]
                  exact gall _ hdl
              · exact gall e (List.mem_of_mem_drop he)
          · refine ⟨_, rfl, _, rfl, _, rfl, .inl ⟨l, xs, j, xs[j], rfl, rfl, SqL.of hl4, atI_nat hjx, n0, l :: B, b, m + 1 + 1, L, xs[j], dj, rfl, rfl, List.mem_cons_of_mem _ hb, lv4.cons hl4, b4, by omega, hL, dp_same m4 hxj, okGet hgs hdl, fun v' d' H5 g' s5 b5 dv' => ?_⟩⟩
            have hl5 : H5 l = some (.lst xs) := s5 l _ (fun z => lb (List.mem_singleton.mp z)) hl4
            refine ⟨_, rfl, _, rfl, l, xs, j, j, rfl, rfl, hl5, ?_, ?_⟩
            · unfold ixN
              rw [if_pos (by omega), if_pos (by omega)]
              rfl
            · have s6 : SameX [l, b] (upd H3 l (.lst xs)) (upd H5 l (.lst (xs.set j v'))) := (s5.sub fun z hz => List.mem_cons_of_mem _ hz).trans (sameX_upd List.mem_cons_self)
              have m6 : Same (hide (l :: B) H5) (hide B (upd H5 l (.lst (xs.set j v')))) := fun c o z => by
                obtain ⟨cB, z2⟩ := hide_some z
                rw [hide_out (fun y => cB (List.mem_cons_of_mem _ y)), upd_ne (fun y => cB (by rw [y]; exact List.mem_cons_self))]
                exact z2
              refine ret _ _ (xs.set j v') (ds.set j d') s6 ((bup _ b5).le (by omega)) upd_same (dps_set (dp_same m6 dv') j (dps_same (m35 s6) hall3)) (by rw [List.length_set]; omega) fun e he => ?_
              rcases List.mem_or_eq_of_mem_set he with he | rfl
              · exact gall e he
              · exact g'
end
end KV

namespace KV
open PySem PySem.Spec PyProof.Rows L2 RZ
abbrev sNum : Stmt := topS 2
abbrev sRow : Stmt := topS 5
abbrev sRowOf : Stmt := topS 18
abbrev sWhole : Stmt := topS 19
/-- a tuple of so many -/
def isRowD : PyData → Nat → Bool
  | .tuple ds, n => decide (ds.length = n)
  | _, _ => false
/-- a whole number, not below k -/
def isNumD : PyData → Int → Bool
  | .int i, k => decide (k ≤ i)
  | _, _ => false
section
variable {P : Program} {w : World} {K : PySem.W.Frag} {mg : Str → Option Value} {base : Heap}
def spRow (K : PySem.W.Frag) : Sp := fun vs H Q _ => ∃ (v : V) (d : PyData) (n : Nat), vs = [v, .int n] ∧ Dp K H v d ∧ Q (.bl (isRowD d n)) H
def spNum (K : PySem.W.Frag) : Sp := fun vs H Q _ => ∃ (v : V) (d : PyData) (k : Int), vs = [v, .int k] ∧ Dp K H v d ∧ Q (.bl (isNumD d k)) H
theorem scRow : FnScope ["thing", "many"] ["thing", "many"] (defScope sRow) :=
  ⟨rfl, rfl, rfl, by decide +kernel, rfl, by decide +kernel, by decide +kernel⟩
theorem scRowOf : FnScope ["_law_matter", "_law_size"] ["_law_matter", "_law_size"] (defScope sRowOf) :=
  ⟨rfl, rfl, rfl, by decide +kernel, rfl, by decide +kernel, by decide +kernel⟩
theorem scNum : FnScope ["thing", "least"] ["thing", "least"] (defScope sNum) :=
  ⟨rfl, rfl, rfl, by decide +kernel, rfl, by decide +kernel, by decide +kernel⟩
theorem scWhole : FnScope ["_law_matter", "_law_least_so"] ["_law_matter", "_law_least_so"] (defScope sWhole) :=
  ⟨rfl, rfl, rfl, by decide +kernel, rfl, by decide +kernel, by decide +kernel⟩
theorem ok_row {f : Addr} {fd : FuncData} {k : Nat} (F : Fun K "is_row" "is_row" sRow f fd) (mi : mg "isinstance" = none) (me : mg "len" = none) (mt : mg "tuple" = none) : FnOk P w K mg base CX0 (k + 1) f fd ["thing", "many"] (spRow K) := by
  refine F.ok scRow (fun vs H Q E h => ?_) (fun cdv A outer s H vs Q E hr h => ?_)
  · obtain ⟨v, d, n, rfl, _⟩ := h
    rfl
  · obtain ⟨v, d, n, rfl, hd, q⟩ := h
    refine ⟨_, pss_one (ps_ret (pe_and (pe_callB (cr_isOne "tuple") (by rfl) mi boot_isinstance (pa_cons (pv 0) (pa_cons (pe_bltn (v := .ty "tuple") (by rfl) mt (by decide +kernel) rfl) pa_nil)))
      (pe_one (pe_cmpR op_eq (pe_callB call_len_seq (by rfl) me PySem.boot_len (pa_cons (pv 0) pa_nil)) (pv 1) (nomark _))))), ?_⟩
    have hv := hd
    cases hd with
    | non => exact ⟨_, rfl, ⟨_, _, rfl, hv, false, (show kitB "NoneType" "tuple" = some false by decide +kernel), _, rfl, iteF q⟩⟩
    | bl c => exact ⟨_, rfl, ⟨_, _, rfl, hv, false, (show kitB "bool" "tuple" = some false by decide +kernel), _, rfl, iteF q⟩⟩
    | int c => exact ⟨_, rfl, ⟨_, _, rfl, hv, false, (show kitB "int" "tuple" = some false by decide +kernel), _, rfl, iteF q⟩⟩
    | str c => exact ⟨_, rfl, ⟨_, _, rfl, hv, false, (show kitB "str" "tuple" = some false by decide +kernel), _, rfl, iteF q⟩⟩
    | lst h1 h2 => exact ⟨_, rfl, ⟨_, _, rfl, hv, false, (show kitB "list" "tuple" = some false by decide +kernel), _, rfl, iteF q⟩⟩
    | tup h1 h2 =>
      rename_i a xs ds
      have hl := dps_len h2
      refine ⟨_, rfl, ⟨_, _, rfl, hv, true, (show kitB "tuple" "tuple" = some true by decide +kernel), _, rfl, iteT ⟨_, rfl, a, xs, rfl, .inr h1, _, rfl, rfl, ?_⟩⟩⟩
      have e : isRowD (.tuple ds) n = decide (V.int (xs.length : Int) = V.int (n : Int)) := by
        rw [hl, Bool.eq_iff_iff]
        show decide (ds.length = n) = true ↔ _
        rw [decide_eq_true_eq, decide_eq_true_eq]
        exact ⟨fun z => by rw [z], fun z => by injection z with z; omega⟩
      rw [e] at q
      exact q
theorem ok_num {f : Addr} {fd : FuncData} {k : Nat} (F : Fun K "is_number" "is_number" sNum f fd) (mi : mg "isinstance" = none) (mn : mg "int" = none) (mb : mg "bool" = none) : FnOk P w K mg base CX0 (k + 1) f fd ["thing", "least"] (spNum K) := by
  refine F.ok scNum (fun vs H Q E h => ?_) (fun cdv A outer s H vs Q E hr h => ?_)
  · obtain ⟨v, d, n, rfl, _⟩ := h
    rfl
  · obtain ⟨v, d, k, rfl, hd, q⟩ := h
    refine ⟨_, pss_one (ps_ret (pe_and (pe_callB (cr_isOne "int") (by rfl) mi boot_isinstance (pa_cons (pv 0) (pa_cons (pe_bltn (v := .ty "int") (by rfl) mn (by decide +kernel) rfl) pa_nil)))
      (pe_and (pe_not (pe_callB (cr_isOne "bool") (by rfl) mi boot_isinstance (pa_cons (pv 0) (pa_cons (pe_bltn (v := .ty "bool") (by rfl) mb (by decide +kernel) rfl) pa_nil)))) (pe_one (pe_cmpR op_ge (pv 0) (pv 1) (nomark _)))))), ?_⟩
    have hv := hd
    cases hd with
    | non => exact ⟨_, rfl, ⟨_, _, rfl, hv, false, (show kitB "NoneType" "int" = some false by decide +kernel), _, rfl, iteF q⟩⟩
    | bl c => exact ⟨_, rfl, ⟨_, _, rfl, hv, true, (show kitB "bool" "int" = some true by decide +kernel), _, rfl, iteT ⟨_, rfl, ⟨_, _, rfl, hv, true, (show kitB "bool" "bool" = some true by decide +kernel), _, rfl, _, rfl, iteF q⟩⟩⟩⟩
    | int c => exact ⟨_, rfl, ⟨_, _, rfl, hv, true, (show kitB "int" "int" = some true by decide +kernel), _, rfl, iteT ⟨_, rfl, ⟨_, _, rfl, hv, false, (show kitB "int" "bool" = some false by decide +kernel), _, rfl, _, rfl, iteT ⟨_, rfl, _, rfl, _, _, rfl, rfl, q⟩⟩⟩⟩⟩
    | str c => exact ⟨_, rfl, ⟨_, _, rfl, hv, false, (show kitB "str" "int" = some false by decide +kernel), _, rfl, iteF q⟩⟩
    | lst h1 h2 => exact ⟨_, rfl, ⟨_, _, rfl, hv, false, (show kitB "list" "int" = some false by decide +kernel), _, rfl, iteF q⟩⟩
    | tup h1 h2 => exact ⟨_, rfl, ⟨_, _, rfl, hv, false, (show kitB "tuple" "int" = some false by decide +kernel), _, rfl, iteF q⟩⟩
theorem ok_rowOf {f : Addr} {fd : FuncData} {k : Nat} (F : Fun K "_law_row_of" "_law_row_of" sRowOf f fd) (mi : mg "isinstance" = none) (me : mg "len" = none) (mt : mg "tuple" = none) : FnOk P w K mg base CX0 (k + 1) f fd ["_law_matter", "_law_size"] (spRow K) := by
  refine F.ok scRowOf (fun vs H Q E h => ?_) (fun cdv A outer s H vs Q E hr h => ?_)
  · obtain ⟨v, d, n, rfl, _⟩ := h
    rfl
  · obtain ⟨v, d, n, rfl, hd, q⟩ := h
    refine ⟨_, pss_one (ps_ret (pe_and (pe_callB (cr_isOne "tuple") (by rfl) mi boot_isinstance (pa_cons (pv 0) (pa_cons (pe_bltn (v := .ty "tuple") (by rfl) mt (by decide +kernel) rfl) pa_nil)))
      (pe_one (pe_cmpR op_eq (pe_callB call_len_seq (by rfl) me PySem.boot_len (pa_cons (pv 0) pa_nil)) (pv 1) (nomark _))))), ?_⟩
    have hv := hd
    cases hd with
    | non => exact ⟨_, rfl, ⟨_, _, rfl, hv, false, (show kitB "NoneType" "tuple" = some false by decide +kernel), _, rfl, iteF q⟩⟩
    | bl c => exact ⟨_, rfl, ⟨_, _, rfl, hv, false, (show kitB "bool" "tuple" = some false by decide +kernel), _, rfl, iteF q⟩⟩
    | int c => exact ⟨_, rfl, ⟨_, _, rfl, hv, false, (show kitB "int" "tuple" = some false by decide +kernel), _, rfl, iteF q⟩⟩
    | str c => exact ⟨_, rfl, ⟨_, _, rfl, hv, false, (show kitB "str" "tuple" = some false by decide +kernel), _, rfl, iteF q⟩⟩
    | lst h1 h2 => exact ⟨_, rfl, ⟨_, _, rfl, hv, false, (show kitB "list" "tuple" = some false by decide +kernel), _, rfl, iteF q⟩⟩
    | tup h1 h2 =>
      rename_i a xs ds
      have hl := dps_len h2
      refine ⟨_, rfl, ⟨_, _, rfl, hv, true, (show kitB "tuple" "tuple" = some true by decide +kernel), _, rfl, iteT ⟨_, rfl, a, xs, rfl, .inr h1, _, rfl, rfl, ?_⟩⟩⟩
      have e : isRowD (.tuple ds) n = decide (V.int (xs.length : Int) = V.int (n : Int)) := by
        rw [hl, Bool.eq_iff_iff]
        show decide (ds.length = n) = true ↔ _
        rw [decide_eq_true_eq, decide_eq_true_eq]
        exact ⟨fun z => by rw [z], fun z => by injection z with z; omega⟩
      rw [e] at q
      exact q
theorem ok_whole {f : Addr} {fd : FuncData} {k : Nat} (F : Fun K "_law_whole" "_law_whole" sWhole f fd) (mi : mg "isinstance" = none) (mn : mg "int" = none) (mb : mg "bool" = none) : FnOk P w K mg base CX0 (k + 1) f fd ["_law_matter", "_law_least_so"] (spNum K) := by
  refine F.ok scWhole (fun vs H Q E h => ?_) (fun cdv A outer s H vs Q E hr h => ?_)
  · obtain ⟨v, d, n, rfl, _⟩ := h
    rfl
  · obtain ⟨v, d, k, rfl, hd, q⟩ := h
    refine ⟨_, pss_one (ps_ret (pe_and (pe_callB (cr_isOne "int") (by rfl) mi boot_isinstance (pa_cons (pv 0) (pa_cons (pe_bltn (v := .ty "int") (by rfl) mn (by decide +kernel) rfl) pa_nil)))
      (pe_and (pe_not (pe_callB (cr_isOne "bool") (by rfl) mi boot_isinstance (pa_cons (pv 0) (pa_cons (pe_bltn (v := .ty "bool") (by rfl) mb (by decide +kernel) rfl) pa_nil)))) (pe_one (pe_cmpR op_ge (pv 0) (pv 1) (nomark _)))))), ?_⟩
    have hv := hd
    cases hd with
    | non => exact ⟨_, rfl, ⟨_, _, rfl, hv, false, (show kitB "NoneType" "int" = some false by decide +kernel), _, rfl, iteF q⟩⟩
    | bl c => exact ⟨_, rfl, ⟨_, _, rfl, hv, true, (show kitB "bool" "int" = some true by decide +kernel), _, rfl, iteT ⟨_, rfl, ⟨_, _, rfl, hv, true, (show kitB "bool" "bool" = some true by decide +kernel), _, rfl, _, rfl, iteF q⟩⟩⟩⟩
    | int c => exact ⟨_, rfl, ⟨_, _, rfl, hv, true, (show kitB "int" "int" = some true by decide +kernel), _, rfl, iteT ⟨_, rfl, ⟨_, _, rfl, hv, false, (show kitB "int" "bool" = some false by decide +kernel), _, rfl, _, rfl, iteT ⟨_, rfl, _, rfl, _, _, rfl, rfl, q⟩⟩⟩⟩⟩
    | str c => exact ⟨_, rfl, ⟨_, _, rfl, hv, false, (show kitB "str" "int" = some false by decide +kernel), _, rfl, iteF q⟩⟩
    | lst h1 h2 => exact ⟨_, rfl, ⟨_, _, rfl, hv, false, (show kitB "list" "int" = some false by decide +kernel), _, rfl, iteF q⟩⟩
    | tup h1 h2 => exact ⟨_, rfl, ⟨_, _, rfl, hv, false, (show kitB "tuple" "int" = some false by decide +kernel), _, rfl, iteF q⟩⟩
end
end KV

namespace KV
open PySem PySem.Spec PyProof.Rows L2 RZ
abbrev sLets : Stmt := topS 3
abbrev sIsName : Stmt := topS 4
abbrev sIsWord : Stmt := topS 20
def isLet (c : Nat) : Bool := decide (97 ≤ c) && decide (c ≤ 122)
theorem abcs_all : (List.range 123).all (fun c => decide (c ∈ abcs) == isLet c) = true := by decide +kernel
theorem abcs_top : abcs.all (fun c => decide (c < 123)) = true := by decide +kernel
theorem mem_abcs (c : Nat) : decide (c ∈ abcs) = isLet c := by
  by_cases h : c < 123
  · exact eq_of_beq (List.all_eq_true.mp abcs_all c (List.mem_range.mpr h))
  · have h1 : c ∉ abcs := fun z => h (of_decide_eq_true (List.all_eq_true.mp abcs_top c z))
    rw [decide_eq_false h1]
    unfold isLet
    rw [decide_eq_false (show ¬ c ≤ 122 by omega), Bool.and_false]
/-- a word of small letters, of 1 to m signs -/
def isWordD : PyData → Nat → Bool
  | .str x, m => decide (0 < x.length) && decide (x.length ≤ m) && x.cps.toList.all isLet
  | _, _ => false
/-- a text of small letters, of m signs or more -/
def isLetsD : PyData → Nat → Bool
  | .str x, m => decide (m ≤ x.length) && x.cps.toList.all isLet
  | _, _ => false
def sgS (c : Nat) : Str := ⟨#[c]⟩
theorem lay_sgs : ∀ is : List Nat, (is.all fun c => decide (c < 1114112)) = true → PyData.canLayAll0 ((is.map sgS).map PyData.str) = true
  | [], _ => by simp [PyData.canLayAll0]
  | i :: is, h => by
    rw [List.all_cons, Bool.and_eq_true, decide_eq_true_eq] at h
    have e : PyData.strOk (sgS i) = true := by
      unfold PyData.strOk sgS
      simp only [List.all_toArray, List.all_cons, List.all_nil, Bool.and_true, decide_eq_true_eq]
      omega
    simp only [List.map_cons, PyData.canLayAll0, PyData.canLay0, e, Bool.true_and]
    exact lay_sgs is h.2
theorem depth_strs : ∀ is : List Str, PyData.depthAll (is.map PyData.str) = 0
  | [] => by simp [PyData.depthAll]
  | i :: is => by simp [PyData.depthAll, PyData.depth, depth_strs is]
theorem shaped_sgs {is : List Nat} (h : (is.all fun c => decide (c < 1114112)) = true) : SeqAt.shaped (.list ((is.map sgS).map PyData.str)) = true := by
  show (PyData.canLay0 (.list _) && decide (PyData.depth (.list _) ≤ 64)) = true
  simp only [PyData.canLay0, PyData.depth, lay_sgs is h, depth_strs]
  decide
theorem op_inSK : True := trivial
theorem shaped_nilL : SeqAt.shaped (.list []) = true := by decide +kernel
theorem eqv_nil (is : List Str) : PyData.eqv (.list (is.map PyData.str)) (.list []) = is.isEmpty := by
  cases is <;> simp [PyData.eqv, PyData.eqvAll]
theorem op_notInSK {X : Cx} : OpR X (compareOp .NotIn) rNotInS := op_notInS
section
variable {P : Program} {w : World} {K : PySem.W.Frag} {mg : Str → Option Value} {base : Heap}
def spIsWord (K : PySem.W.Frag) : Sp := fun vs H Q _ => ∃ (v : V) (d : PyData) (m : Nat), vs = [v, .int m] ∧ m ≤ 1000 ∧ Dp K H v d ∧ (∀ x, d = .str x → x.length ≤ 1000 ∧ (x.cps.toList.all fun c => decide (c < 1114112)) = true) ∧ ∀ H', Same H H' → Q (.bl (isWordD d m)) H'
abbrev nIsWord : List Str := ["_law_matter", "_law_most_so", "_law_sign"]
theorem scIsWord : FnScope nIsWord ["_law_matter", "_law_most_so"] (defScope sIsWord) :=
  ⟨rfl, rfl, rfl, by decide +kernel, rfl, by decide +kernel, by decide +kernel⟩
theorem ok_isWord {f : Addr} {fd : FuncData} {k : Nat} (F : Fun K "_law_is_word" "_law_is_word" sIsWord f fd) (mi : mg "isinstance" = none) (me : mg "len" = none) (ms : mg "str" = none) : FnOk P w K mg base CX0 (k + 1) f fd ["_law_matter", "_law_most_so"] (spIsWord K) := by
  refine F.ok scIsWord (fun vs H Q E h => ?_) (fun cdv A outer s H vs Q E hr h => ?_)
  · obtain ⟨v, d, m, rfl, _⟩ := h
    rfl
  · obtain ⟨v, d, m, rfl, hm, hd, hx, q⟩ := h
    refine ⟨_, pss_cons (ps_if (PW.pt (pw_or (pt_not (pt_val (pe_callB (cr_isOne "str") (by rfl) mi boot_isinstance (pa_cons (pv 0) (pa_cons (pe_bltn (v := .ty "str") (by rfl) ms (by decide +kernel) rfl) pa_nil)))))
        (pw_or1 (pt_not (pt_chain op_lt op_le pe_int (pe_callB call_len_str (by rfl) me PySem.boot_len (pa_cons (pv 0) pa_nil)) (pv 1)))))) (pss_one (ps_ret pe_bl)) pss_nil)
      (pss_one (ps_ret (pe_cmpR (op_eqD hr.units) (pe_lc (own := [("_law_sign", 2)]) (g := gName 2) rfl scIsWord.nd (pi_str (pv 0)) (blkOk_by (N := nIsWord) (sc := defScope sIsWord) (by decide +kernel))
          (fun _ _ _ _ _ => pg_name (i := 2) scIsWord.nd rfl (Or.inl rfl)) (fun _ _ _ _ _ => pts_one (pt_cmpR op_notInS (pv 2) pe_str (by rfl))) (fun _ _ _ _ _ => pv 2)) (pe_lst pa_nil) (nomark _)))), ?_⟩
    have hv := hd
    have q0 : isWordD d m = false → Q (.bl false) H := fun e => by
      have := q H fun _ _ z => z
      rw [e] at this
      exact this
    cases hd with
    | non => exact ⟨_, rfl, ⟨_, _, rfl, hv, false, (show kitB "NoneType" "str" = some false by decide +kernel), _, rfl, iteT (iteT (q0 rfl))⟩⟩
    | bl c => exact ⟨_, rfl, ⟨_, _, rfl, hv, false, (show kitB "bool" "str" = some false by decide +kernel), _, rfl, iteT (iteT (q0 rfl))⟩⟩
    | int c => exact ⟨_, rfl, ⟨_, _, rfl, hv, false, (show kitB "int" "str" = some false by decide +kernel), _, rfl, iteT (iteT (q0 rfl))⟩⟩
    | lst h1 h2 => exact ⟨_, rfl, ⟨_, _, rfl, hv, false, (show kitB "list" "str" = some false by decide +kernel), _, rfl, iteT (iteT (q0 rfl))⟩⟩
    | tup h1 h2 => exact ⟨_, rfl, ⟨_, _, rfl, hv, false, (show kitB "tuple" "str" = some false by decide +kernel), _, rfl, iteT (iteT (q0 rfl))⟩⟩
    | str x =>
      obtain ⟨lx, cx⟩ := hx x rfl
      refine ⟨_, rfl, ⟨_, _, rfl, hv, true, (show kitB "str" "str" = some true by decide +kernel), _, rfl, iteF ?_⟩⟩
      refine ⟨_, rfl, x, rfl, Nat.le_of_lt (small1000 lx), _, _, rfl, rfl, _, rfl, ite2 (fun e1 => ?_) (fun e1 => ?_)⟩
      · refine ⟨_, rfl, _, _, rfl, rfl, _, rfl, ite2 (fun e2 => ?_) (fun e2 => ?_)⟩
        · refine q0 ?_
          have z : ¬ x.length ≤ m := fun z => by
            rw [decide_eq_true (show (x.length : Int) ≤ (m : Int) by omega)] at e2
            exact nomatch e2
          show (decide (0 < x.length) && decide (x.length ≤ m) && x.cps.toList.all isLet) = false
          rw [decide_eq_false z, Bool.and_false, Bool.false_and]
        · have z : x.length ≤ m := Classical.byContradiction fun z => e2 (by rw [decide_eq_false (show ¬ (x.length : Int) ≤ (m : Int) by omega)]; rfl)
          have z0 : 0 < x.length := by
            have := of_decide_eq_true e1
            omega
          have ed : isWordD (.str x) m = x.cps.toList.all isLet := by
            show (decide (0 < x.length) && decide (x.length ≤ m) && x.cps.toList.all isLet) = _
            rw [decide_eq_true z, decide_eq_true z0]
            rfl
          refine ⟨_, rfl, x, rfl, fun D nD => lc_it (walk_str (z := x)) (fun j H3 => SameX [D] H H3 ∧ H3 D = some (.lst ((((x.cps.toList.take j).filter fun c => !isLet c).map sgS).map V.str))) ⟨sameX_upd List.mem_cons_self, upd_same⟩ (fun _ _ _ _ => trivial) ?_ ?_⟩
          · rintro j v H3 H3' hj ⟨s3, hD⟩ ⟨rfl, c, hc, rfl⟩
            have hc2 : x.cps.toList[j]? = some c := by
              rw [← hc]
              exact Array.getElem?_toList
            refine ⟨rfl, _, rfl, c, _, rfl, rfl, _, rfl, ?_⟩
            rw [show decide (c ∈ (Str.ofString "abcdefghijklmnopqrstuvwxyz").cps.toList) = isLet c from mem_abcs c]
            have ef : (x.cps.toList.take (j + 1)).filter (fun c => !isLet c) = (x.cps.toList.take j).filter (fun c => !isLet c) ++ (if (!isLet c) = true then [c] else []) := by
              rw [take_snoc hc2, List.filter_append, List.filter_cons, List.filter_nil]
            cases hk : (!isLet c) with
            | true =>
              rw [hk] at ef
              refine iteT ⟨_, rfl, _, hD, small1000 ?_, s3.trans (sameX_upd List.mem_cons_self), ?_⟩
              · rw [List.length_map, List.length_map]
                have h1 := List.length_filter_le (fun c => !isLet c) (x.cps.toList.take j)
                rw [List.length_take, sgn_len] at h1
                omega
              · rw [upd_same, ef, List.map_append, List.map_append]
                rfl
            | false =>
              rw [hk] at ef
              refine iteF ⟨s3, ?_⟩
              rw [hD, ef]
              exact congrArg _ (congrArg _ (by simp))
          · rintro H3 ⟨s3, hD⟩
            have eT : x.cps.toList.take x.cps.size = x.cps.toList := List.take_of_length_le (by rw [Array.length_toList]; exact Nat.le_refl _)
            rw [eT] at hD
            have s0 : Same H H3 := fun c o e => s3 c o (fun y => ne_of_none e nD (List.mem_singleton.mp y)) e
            have call : ((x.cps.toList.filter fun c => !isLet c).all fun c => decide (c < 1114112)) = true := by
              rw [List.all_eq_true] at cx ⊢
              exact fun c hc => cx c (List.mem_filter.mp hc).1
            refine ⟨by show 0 ≤ sizeLine; decide, fun t nt => ⟨_, .list [], .lst (SqL.of (same_upd nt _ _ hD)) (dps_strs _), .lst (SqL.of upd_same) .nil, shaped_sgs call, shaped_nilL, ?_⟩⟩
            rw [eqv_nil]
            have ee : (((x.cps.toList.filter fun c => !isLet c).map sgS)).isEmpty = x.cps.toList.all isLet := by
              rw [Bool.eq_iff_iff, List.isEmpty_iff, List.map_eq_nil_iff, List.filter_eq_nil_iff, List.all_eq_true]
              exact ⟨fun h c hc => by simpa using h c hc, fun h c hc => by simpa using h c hc⟩
            rw [ee, ← ed]
            exact q _ (s0.trans (same_upd nt))
      · refine ⟨_, rfl, iteT (q0 ?_)⟩
        have z : ¬ 0 < x.length := fun z => e1 (decide_eq_true (by omega))
        show (decide (0 < x.length) && decide (x.length ≤ m) && x.cps.toList.all isLet) = false
        rw [decide_eq_false z, Bool.false_and, Bool.false_and]
/-! ### is_letters, is_name -/
def spLets (K : PySem.W.Frag) : Sp := fun vs H Q _ => ∃ (v : V) (d : PyData) (m : Nat), vs = [v, .int m] ∧ Dp K H v d ∧ (∀ x, d = .str x → x.length ≤ 1000) ∧ ∀ H', Same H H' → Q (.bl (isLetsD d m)) H'
abbrev nLets : List Str := ["thing", "least", "letter"]
theorem scLets : FnScope nLets ["thing", "least"] (defScope sLets) :=
  ⟨rfl, rfl, rfl, by decide +kernel, rfl, by decide +kernel, by decide +kernel⟩
theorem ok_lets {f : Addr} {fd : FuncData} {k : Nat} {tk : Tok} (F : Fun K "is_letters" "is_letters" sLets f fd) (mi : mg "isinstance" = none) (me : mg "len" = none) (ms : mg "str" = none) (ma : mg "all" = none) (mL : mg "LETTERS" = some (.str "abcdefghijklmnopqrstuvwxyz" tk)) : FnOk P w K mg base CX0 (k + 1) f fd ["thing", "least"] (spLets K) := by
  refine F.ok scLets (fun vs H Q E h => ?_) (fun cdv A outer s H vs Q E hr h => ?_)
  · obtain ⟨v, d, m, rfl, _⟩ := h
    rfl
  · obtain ⟨v, d, m, rfl, hd, hx, q⟩ := h
    refine ⟨_, pss_one (ps_ret (pe_and (pe_callB (cr_isOne "str") (by rfl) mi boot_isinstance (pa_cons (pv 0) (pa_cons (pe_bltn (v := .ty "str") (by rfl) ms (by decide +kernel) rfl) pa_nil)))
      (pe_and (pe_cmpR op_ge (pe_callB call_len_str (by rfl) me PySem.boot_len (pa_cons (pv 0) pa_nil)) (pv 1) (nomark _))
      (pe_one (pe_callB (cr_all rfl) (by rfl) ma boot_all (pa_cons
        (pe_lc (own := [("letter", 2)]) (g := gName 2) (tt := tYes) rfl scLets.nd (pi_str (pv 0)) (blkOk_by (N := nLets) (sc := defScope sLets) (by decide +kernel))
          (fun _ _ _ _ _ => pg_name (i := 2) scLets.nd rfl (Or.inl rfl)) (fun _ _ _ _ _ => pts_nil) (fun _ _ _ _ _ => pe_cmpR op_inS (pv 2) (pe_glob (v := .str "abcdefghijklmnopqrstuvwxyz") (by rfl) mL ⟨_, rfl⟩) (by rfl))) pa_nil)))))), ?_⟩
    have hv := hd
    have q0 : isLetsD d m = false → Q (.bl false) H := fun e => by
      have := q H fun _ _ z => z
      rw [e] at this
      exact this
    cases hd with
    | non => exact ⟨_, rfl, ⟨_, _, rfl, hv, false, (show kitB "NoneType" "str" = some false by decide +kernel), _, rfl, iteF (q0 rfl)⟩⟩
    | bl c => exact ⟨_, rfl, ⟨_, _, rfl, hv, false, (show kitB "bool" "str" = some false by decide +kernel), _, rfl, iteF (q0 rfl)⟩⟩
    | int c => exact ⟨_, rfl, ⟨_, _, rfl, hv, false, (show kitB "int" "str" = some false by decide +kernel), _, rfl, iteF (q0 rfl)⟩⟩
    | lst h1 h2 => exact ⟨_, rfl, ⟨_, _, rfl, hv, false, (show kitB "list" "str" = some false by decide +kernel), _, rfl, iteF (q0 rfl)⟩⟩
    | tup h1 h2 => exact ⟨_, rfl, ⟨_, _, rfl, hv, false, (show kitB "tuple" "str" = some false by decide +kernel), _, rfl, iteF (q0 rfl)⟩⟩
    | str x =>
      have lx := hx x rfl
      refine ⟨_, rfl, ⟨_, _, rfl, hv, true, (show kitB "str" "str" = some true by decide +kernel), _, rfl, iteT ?_⟩⟩
      refine ⟨_, rfl, x, rfl, Nat.le_of_lt (small1000 lx), _, rfl, _, _, rfl, rfl, _, rfl, ite2 (fun e1 => ?_) (fun e1 => ?_)⟩
      · have z : m ≤ x.length := by
          have := of_decide_eq_true e1
          omega
        have ed : isLetsD (.str x) m = x.cps.toList.all isLet := by
          show (decide (m ≤ x.length) && x.cps.toList.all isLet) = _
          rw [decide_eq_true z]
          rfl
        refine ⟨_, rfl, x, rfl, fun D nD => lc_it (walk_str (z := x)) (fun j H3 => SameX [D] H H3 ∧ H3 D = some (.lst (((x.cps.toList.take j).map isLet).map V.bl))) ⟨sameX_upd List.mem_cons_self, upd_same⟩ (fun _ _ _ _ => trivial) ?_ ?_⟩
        · rintro j v H3 H3' hj ⟨s3, hD⟩ ⟨rfl, c, hc, rfl⟩
          have hc2 : x.cps.toList[j]? = some c := by
            rw [← hc]
            exact Array.getElem?_toList
          refine ⟨rfl, tYes_ok ⟨_, rfl, c, _, rfl, rfl, _, hD, small1000 ?_, s3.trans (sameX_upd List.mem_cons_self), ?_⟩⟩
          · rw [List.length_map, List.length_map, List.length_take, sgn_len]
            omega
          · rw [upd_same, take_snoc hc2, List.map_append, List.map_append]
            show some (HO.lst (_ ++ [V.bl (decide (c ∈ (Str.ofString "abcdefghijklmnopqrstuvwxyz").cps.toList))])) = _
            rw [show decide (c ∈ (Str.ofString "abcdefghijklmnopqrstuvwxyz").cps.toList) = isLet c from mem_abcs c]
            rfl
        · rintro H3 ⟨s3, hD⟩
          have eT : x.cps.toList.take x.cps.size = x.cps.toList := List.take_of_length_le (by rw [Array.length_toList]; exact Nat.le_refl _)
          rw [eT] at hD
          refine ⟨D, _, rfl, SqL.of hD, ?_⟩
          have ea : (x.cps.toList.map isLet).all id = isLetsD (.str x) m := by
            rw [ed, List.all_map]
            rfl
          rw [ea]
          exact q _ fun c o e => s3 c o (fun y => ne_of_none e nD (List.mem_singleton.mp y)) e
      · refine q0 ?_
        have z : ¬ m ≤ x.length := fun z => e1 (decide_eq_true (by omega))
        show (decide (m ≤ x.length) && x.cps.toList.all isLet) = false
        rw [decide_eq_false z, Bool.false_and]
end
end KV

namespace KV
open PySem PySem.Spec PyProof.Rows L2 RZ
abbrev sAsc : Stmt := topS 6
abbrev sAreNames : Stmt := topS 7
/-- what ascends finds, pair by pair -/
def adjS : List Str → List Bool
  | [] => []
  | [_] => []
  | a :: b :: r => decide (ltS a b) :: adjS (b :: r)
theorem adj_asc : ∀ l : List Str, (adjS l).all id = ascS l
  | [] => rfl
  | [_] => rfl
  | a :: b :: r => by
    show (decide (ltS a b) && (adjS (b :: r)).all id) = (decide (ltS a b) && ascS (b :: r))
    rw [adj_asc (b :: r)]
theorem adj_len : ∀ l : List Str, (adjS l).length = l.length - 1
  | [] => rfl
  | [_] => rfl
  | a :: b :: r => by
    show (adjS (b :: r)).length + 1 = (r.length + 1 + 1) - 1
    rw [adj_len (b :: r)]
    rfl
theorem adj_get : ∀ (l : List Str) (j : Nat) (x y : Str), l[j]? = some x → l[j + 1]? = some y → (adjS l)[j]? = some (decide (ltS x y))
  | [], _, _, _, h, _ => by cases h
  | [_], 0, _, _, _, h => by cases h
  | [_], j + 1, _, _, h, _ => by cases h
  | a :: b :: r, 0, x, y, h1, h2 => by
    cases h1
    cases h2
    rfl
  | a :: b :: r, j + 1, x, y, h1, h2 => adj_get (b :: r) j x y h1 h2
theorem lc_asc {K : PySem.W.Frag} {J : It} {G : Hp → Prop} {ss : List Str} {n : Nat} (w : Walk J n G (YPair (fun i => (ss.map V.str)[i]?) (fun i => ((ss.drop 1).map V.str)[i]?))) (hn : n = ss.length - 1) (hz : ss.length ≤ 1000) {σ : L2.St} {vs : List Nat} {te : TE} {H1 : Hp} {D : Addr} {Qd : Hp → Prop}
    (nD : H1 D = none) (hG : ∀ H, Same H1 H → G H) (hw : ∀ x y : V, wipe (((wipe σ vs).set 1 (some x)).set 2 (some y)) vs = wipe σ vs)
    (step : ∀ (x y : Str) (H : Hp) (Q : VK), Q (.bl (decide (ltS x y))) H → te (((wipe σ vs).set 1 (some (.str x))).set 2 (some (.str y))) H Q)
    (hd : ∀ H, SameX [D] H1 H → H D = some (.lst ((adjS ss).map V.bl)) → Qd H) :
    ∃ W : Nat → Nat → Hp → Prop, (∃ m, W 0 m (upd H1 D (.lst []))) ∧ ∀ i' m H, W i' m H →
      (J.stop i' H ∧ Qd H) ∨ (J.go i' H ∧ ∃ Nx : Hp → Prop, (∀ H', Nx H' → ∃ m', m' < m ∧ W (i' + 1) m' H') ∧ ∀ x H', J.yld i' H x H' → gTup K 2 (gCons (gName 1) (gCons (gName 2) gNil)) x (wipe σ vs) H' fun σ2 H2 => wipe σ2 vs = wipe σ vs ∧ tYes σ2 H2 fun b H3 =>
        if b = true then te σ2 H3 fun y H4 => ∃ acc, H4 D = some (.lst acc) ∧ acc.length < sizeLine ∧ Nx (upd H4 D (.lst (acc ++ [y]))) else Nx H3) := by
  have base : ∀ {H : Hp}, SameX [D] H1 H → Same H1 H := fun {H} h c o e => h c o (fun z => ne_of_none e nD (List.mem_singleton.mp z)) e
  refine lc_it w (fun j H => SameX [D] H1 H ∧ H D = some (.lst (((adjS ss).take j).map V.bl))) ⟨sameX_upd List.mem_cons_self, upd_same⟩ (fun j H _ h => hG H (base h.1)) ?_ (fun H h => ?_)
  · rintro j v H H' hj ⟨hs, hD⟩ ⟨T, x, y, rfl, nT, rfl, ex, ey⟩
    have ex : (ss.map V.str)[j]? = some x := ex
    have ey : ((ss.drop 1).map V.str)[j]? = some y := ey
    rw [List.getElem?_map] at ex ey
    obtain ⟨x, ex2, rfl⟩ := Option.map_eq_some_iff.mp ex
    obtain ⟨y, ey2, rfl⟩ := Option.map_eq_some_iff.mp ey
    rw [List.getElem?_drop, Nat.add_comm] at ey2
    have ea := adj_get ss j x y ex2 ey2
    have hD2 : (upd H T (.tup [.str x, .str y])) D = some (.lst (((adjS ss).take j).map V.bl)) := same_upd nT _ _ hD
    refine ⟨T, [.str x, .str y], rfl, SqT.of upd_same, rfl, .str x, [.str y], rfl, .str y, [], rfl, rfl, hw _ _, tYes_ok (step x y _ _ ⟨_, hD2, ?_, ?_, ?_⟩)⟩
    · rw [List.length_map, List.length_take, adj_len]
      exact small1000 (by omega)
    · exact hs.trans ((SameX.of (same_upd nT)).trans (sameX_upd List.mem_cons_self))
    · rw [upd_same, take_snoc ea, List.map_append]
      rfl
  · refine hd H h.1 ?_
    rw [h.2, hn, ← adj_len, List.take_length]
section
variable {P : Program} {w : World} {K : PySem.W.Frag} {mg : Str → Option Value} {base : Heap}
/-! ### is_name -/
def spIsName (K : PySem.W.Frag) : Sp := fun vs H Q _ => ∃ (v : V) (d : PyData), vs = [v] ∧ Dp K H v d ∧ (∀ x, d = .str x → x.length ≤ 1000) ∧ ∀ H', Same H H' → Q (.bl (isWordD d 8)) H'
theorem scIsName : FnScope ["thing"] ["thing"] (defScope sIsName) :=
  ⟨rfl, rfl, rfl, by decide +kernel, rfl, by decide +kernel, by decide +kernel⟩
theorem ok_isName {f fL : Addr} {fd fdL : FuncData} {k : Nat} (F : Fun K "is_name" "is_name" sIsName f fd) (FL : Fun K "is_letters" "is_letters" sLets fL fdL) (bL : Binds K fdL ["thing", "least"] []) (mL : mg "is_letters" = some (.ref fL))
    (GL : FnOk P w K mg base CX0 (k + 1) fL fdL ["thing", "least"] (spLets K)) (me : mg "len" = none) : FnOk P w K mg base CX0 (k + 2) f fd ["thing"] (spIsName K) := by
  refine F.ok scIsName (fun vs H Q E h => ?_) (fun cdv A outer s H vs Q E hr h => ?_)
  · obtain ⟨v, d, rfl, _⟩ := h
    rfl
  · obtain ⟨v, d, rfl, hd, hx, q⟩ := h
    refine ⟨_, pss_one (ps_ret (pe_and (pe_call GL hr (by rfl) mL FL.kp bL .nil pass0 (pa_cons (pv 0) (pa_cons pe_int pa_nil)))
      (pe_one (pe_cmpR op_le (pe_callB call_len_str (by rfl) me PySem.boot_len (pa_cons (pv 0) pa_nil)) pe_int (nomark _))))), ?_⟩
    refine ⟨_, rfl, v, d, 1, rfl, hd, hx, fun H1 s1 => ⟨_, rfl, ?_⟩⟩
    cases he : isLetsD d 1 with
    | false =>
      refine iteF ?_
      have e : isWordD d 8 = false := by
        cases d with
        | str x =>
          have z : (decide (1 ≤ x.length) && x.cps.toList.all isLet) = false := he
          show (decide (0 < x.length) && decide (x.length ≤ 8) && x.cps.toList.all isLet) = false
          rw [Bool.and_assoc, Bool.and_comm (decide (x.length ≤ 8)), ← Bool.and_assoc]
          have e0 : decide (0 < x.length) = decide (1 ≤ x.length) := rfl
          rw [e0, z]
          rfl
        | _ => rfl
      rw [e] at q
      exact q _ s1
    | true =>
      refine iteT ?_
      cases d with
      | str x =>
        have hv := dp_same s1 hd
        cases hv
        have z : (decide (1 ≤ x.length) && x.cps.toList.all isLet) = true := he
        rw [Bool.and_eq_true] at z
        have lx := hx x rfl
        refine ⟨_, rfl, x, rfl, Nat.le_of_lt (small1000 lx), _, _, rfl, rfl, ?_⟩
        have e : isWordD (.str x) 8 = decide ((x.length : Int) ≤ 8) := by
          show (decide (0 < x.length) && decide (x.length ≤ 8) && x.cps.toList.all isLet) = _
          have e0 : decide (0 < x.length) = decide (1 ≤ x.length) := rfl
          rw [e0, z.1, z.2, Bool.true_and, Bool.and_true, Bool.eq_iff_iff, decide_eq_true_eq, decide_eq_true_eq]
          omega
        have q1 := q _ s1
        rw [e] at q1
        exact q1
      | none => exact nomatch he
      | bool b => exact nomatch he
      | int i => exact nomatch he
      | list xs => exact nomatch he
      | tuple xs => exact nomatch he
      | dict xs => exact nomatch he
/-! ### ascends, of texts -/
def spAsc (K : PySem.W.Frag) : Sp := fun vs H Q _ => ∃ (a : Addr) (xs : List Str), vs = [.ref a] ∧ SqT K H a (xs.map V.str) ∧ xs.length ≤ 1000 ∧ ∀ H', Same H H' → Q (.bl (ascS xs)) H'
abbrev nAsc : List Str := ["names", "one", "other"]
theorem scAsc : FnScope nAsc ["names"] (defScope sAsc) :=
  ⟨rfl, rfl, rfl, by decide +kernel, rfl, by decide +kernel, by decide +kernel⟩
theorem ok_asc {f : Addr} {fd : FuncData} {k : Nat} (F : Fun K "ascends" "ascends" sAsc f fd) (ma : mg "all" = none) (mz : mg "zip" = none) : FnOk P w K mg base CX0 (k + 1) f fd ["names"] (spAsc K) := by
  refine F.ok scAsc (fun vs H Q E h => ?_) (fun cdv A outer s H vs Q E hr h => ?_)
  · obtain ⟨a, xs, rfl, _⟩ := h
    rfl
  · obtain ⟨a, xs, rfl, hS, hz, q⟩ := h
    refine ⟨_, pss_one (ps_ret (pe_callB (cr_all rfl) (by rfl) ma boot_all (pa_cons
      (pe_lc (own := [("one", 1), ("other", 2)]) (g := gTup K 2 (gCons (gName 1) (gCons (gName 2) gNil))) (tt := tYes) rfl scAsc.nd (pi_zipA (by rfl) mz (pa_cons (pv 0) (pa_cons (pe_slice sl_tupA (pv 0) (po_some pe_int) po_none) pa_nil)))
        (blkOk_by (N := nAsc) (sc := defScope sAsc) (by decide +kernel))
        (fun _ _ _ _ _ => pg_tup rfl (pgs_cons (pg_name (i := 1) scAsc.nd rfl (.inl rfl)) (pgs_cons (pg_name (i := 2) scAsc.nd rfl (.inl rfl)) pgs_nil))) (fun _ _ _ _ _ => pts_nil)
        (fun _ _ _ _ _ => pe_cmpR op_lt_str (pv 1) (pv 2) (nomark _))) pa_nil))), ?_⟩
    have fin : ∀ H1, Same H H1 → ∀ H2 D, SameX [D] H1 H2 → H1 D = none → H2 D = some (.lst ((adjS xs).map V.bl)) → rAll K [.ref D] H2 Q := by
      intro H1 s1 H2 D s2 nD hD
      refine ⟨D, _, rfl, SqL.of hD, ?_⟩
      rw [adj_asc]
      exact q _ (s1.trans fun c o e => s2 c o (fun y => ne_of_none e nD (List.mem_singleton.mp y)) e)
    have ex : cutV (xs.map V.str) (some (1 : Int)) none = (xs.drop 1).map V.str := by
      unfold cutV
      have e1 : HT.sIx (xs.map V.str).length 0 (some (1 : Int)) = min 1 (xs.map V.str).length := HT.sIx_nat _ _ 1
      rw [e1, HT.sIx_none, List.length_map, List.map_drop]
      by_cases h : 1 ≤ xs.length
      · rw [Nat.min_eq_left h, List.take_of_length_le (by rw [List.length_drop, List.length_map]; exact Nat.le_refl _)]
      · have h0 : xs = [] := List.eq_nil_of_length_eq_zero (by omega)
        subst h0
        rfl
    refine ⟨_, rfl, _, rfl, _, rfl, a, _, rfl, hS, fun e0 => ?_, fun _ p np => ?_⟩
    · have h0 : xs = [] := by
        have e1 : HT.sIx (xs.map V.str).length 0 (some (1 : Int)) = min 1 (xs.map V.str).length := HT.sIx_nat _ _ 1
        rw [e1, List.length_map] at e0
        exact List.eq_nil_of_length_eq_zero (by omega)
      subst h0
      exact ⟨a, a, _, _, rfl, .inr ⟨hS, hS, fun D nD => lc_asc (K := K) (ss := []) (walk_zipT (n := 0) rfl) rfl (by decide) nD (fun H2 s2 => ⟨same_seqT s2 hS, same_seqT s2 hS⟩) (fun _ _ => rfl) (fun x y H2 Q2 k2 => ⟨_, rfl, _, rfl, x, y, rfl, rfl, k2⟩) fun H2 s2 hD2 => fin H (fun _ _ z => z) H2 D s2 nD hD2⟩⟩
    · rw [ex]
      have sp : Same H (upd H p (.tup ((xs.drop 1).map V.str))) := same_upd np
      exact ⟨a, p, _, _, rfl, .inr ⟨same_seqT sp hS, SqT.of upd_same, fun D nD => lc_asc (K := K) (ss := xs) (walk_zipT (n := xs.length - 1) (by rw [List.length_map, List.length_map, List.length_drop]; omega)) rfl hz nD (fun H2 s2 => ⟨same_seqT (sp.trans s2) hS, same_seqT s2 (SqT.of upd_same)⟩) (fun _ _ => rfl) (fun x y H2 Q2 k2 => ⟨_, rfl, _, rfl, x, y, rfl, rfl, k2⟩) fun H2 s2 hD2 => fin _ sp H2 D s2 nD hD2⟩⟩
end
end KV

namespace KV
open PySem PySem.Spec PyProof.Rows L2 RZ
/-- a comprehension of flags over a sequence of data -/
theorem lc_flags {K : PySem.W.Frag} {J : It} {G : Hp → Prop} {xs : List V} (w : Walk J xs.length G (YAt xs)) {ds : List PyData} {σ : L2.St} {i : Nat} {te : TE} {H1 : Hp} {D : Addr} {Qd : Hp → Prop}
    (hx : DpAll K H1 xs ds) (nD : H1 D = none) (hz : xs.length ≤ 1000) (hG : ∀ H, Same H1 H → G H) (Pf : PyData → Bool)
    (step : ∀ (j : Nat) (x : V) (d : PyData) (H : Hp) (Q : VK), ds[j]? = some d → Same H1 H → Dp K H x d → (∀ H', Same H H' → Q (.bl (Pf d)) H') → te ((wipe σ [i]).set i (some x)) H Q)
    (hd : ∀ H, Same H1 H → H D = some (.lst ((ds.map Pf).map V.bl)) → Qd H) :
    ∃ W : Nat → Nat → Hp → Prop, (∃ m, W 0 m (upd H1 D (.lst []))) ∧ ∀ i' m H, W i' m H →
      (J.stop i' H ∧ Qd H) ∨ (J.go i' H ∧ ∃ Nx : Hp → Prop, (∀ H', Nx H' → ∃ m', m' < m ∧ W (i' + 1) m' H') ∧ ∀ x H', J.yld i' H x H' → gName i x (wipe σ [i]) H' fun σ2 H2 => wipe σ2 [i] = wipe σ [i] ∧ tYes σ2 H2 fun b H3 =>
        if b = true then te σ2 H3 fun y H4 => ∃ acc, H4 D = some (.lst acc) ∧ acc.length < sizeLine ∧ Nx (upd H4 D (.lst (acc ++ [y]))) else Nx H3) := by
  have old : ∀ {H : Hp}, SameX [D] H1 H → Same H1 H := fun {H} h c o e => h c o (fun z => ne_of_none e nD (List.mem_singleton.mp z)) e
  have hl := dps_len hx
  refine lc_it w (fun j H => SameX [D] H1 H ∧ H D = some (.lst (((ds.take j).map Pf).map V.bl))) ⟨sameX_upd List.mem_cons_self, upd_same⟩ (fun j H _ h => hG H (old h.1)) ?_ (fun H h => ?_)
  · rintro j x H H' hj ⟨hs, hD⟩ ⟨rfl, hx1⟩
    obtain ⟨d, hd1, hdp⟩ := dps_get hx hx1
    refine ⟨?_, tYes_ok (step j x d _ _ hd1 (old hs) (dp_same (old hs) hdp) fun H4 s4 => ⟨_, s4 _ _ hD, ?_, ?_, ?_⟩)⟩
    · show ((((σ.set i none)).set i (some x)).set i none) = σ.set i none
      rw [List.set_set, List.set_set]
    · rw [List.length_map, List.length_map, List.length_take]
      exact small1000 (by omega)
    · exact hs.trans ((SameX.of s4).trans (sameX_upd List.mem_cons_self))
    · rw [upd_same, take_snoc hd1, List.map_append, List.map_append]
      rfl
  · refine hd H (old h.1) ?_
    rw [h.2, hl, List.take_length]
def strOfD : PyData → Str
  | .str x => x
  | _ => Str.empty
/-- a tuple of names, each below the next -/
def areNamesD : PyData → Bool
  | .tuple ds => ds.all (fun e => isWordD e 8) && ascS (ds.map strOfD)
  | _ => false
theorem words_back {ds : List PyData} (h : ds.all (fun e => isWordD e 8) = true) : ds = (ds.map strOfD).map PyData.str := by
  induction ds with
  | nil => rfl
  | cons d ds ih =>
    rw [List.all_cons, Bool.and_eq_true] at h
    rw [List.map_cons, List.map_cons, ← ih h.2]
    cases d with
    | str x => rfl
    | _ => exact nomatch h.1
theorem dps_strV {K : PySem.W.Frag} {H : Hp} : ∀ {xs : List V} {ss : List Str}, DpAll K H xs (ss.map PyData.str) → xs = ss.map V.str
  | _, [], h => by
    cases h
    rfl
  | _, s :: ss, h => by
    cases h with
    | cons h1 h2 =>
      cases h1
      rw [dps_strV h2]
      rfl
section
variable {P : Program} {w : World} {K : PySem.W.Frag} {mg : Str → Option Value} {base : Heap}
/-! ### are_names -/
def spAre (K : PySem.W.Frag) : Sp := fun vs H Q _ => ∃ (v : V) (d : PyData) (L n : Nat), vs = [v] ∧ Dp K H v d ∧ gD lf2 L d n = true ∧ L ≤ 100 ∧ ∀ H', Same H H' → Q (.bl (areNamesD d)) H'
abbrev nAre : List Str := ["thing", "name"]
theorem scAre : FnScope nAre ["thing"] (defScope sAreNames) :=
  ⟨rfl, rfl, rfl, by decide +kernel, rfl, by decide +kernel, by decide +kernel⟩
theorem str_fine {L n : Nat} {x : Str} (h : gD lf2 L (.str x) n = true) : x.length ≤ 1000 ∧ (x.cps.toList.all fun c => decide (c < 1114112)) = true := by
  have h1 : (decide (x.length ≤ 60) && x.cps.toList.all fun c => decide (c < 1114112)) = true := by simp only [gD] at h; exact h
  rw [Bool.and_eq_true, decide_eq_true_eq] at h1
  exact ⟨by omega, h1.2⟩
theorem ok_are {f fN fA : Addr} {fd fdN fdA : FuncData} {k : Nat} (F : Fun K "are_names" "are_names" sAreNames f fd)
    (FN : Fun K "is_name" "is_name" sIsName fN fdN) (bN : Binds K fdN ["thing"] []) (mN : mg "is_name" = some (.ref fN)) (GN : FnOk P w K mg base CX0 (k + 2) fN fdN ["thing"] (spIsName K))
    (FA : Fun K "ascends" "ascends" sAsc fA fdA) (bA : Binds K fdA ["names"] []) (mA : mg "ascends" = some (.ref fA)) (GA : FnOk P w K mg base CX0 (k + 2) fA fdA ["names"] (spAsc K))
    (mi : mg "isinstance" = none) (mt : mg "tuple" = none) (ma : mg "all" = none) : FnOk P w K mg base CX0 (k + 3) f fd ["thing"] (spAre K) := by
  refine F.ok scAre (fun vs H Q E h => ?_) (fun cdv A outer s H vs Q E hr h => ?_)
  · obtain ⟨v, d, L, n, rfl, _⟩ := h
    rfl
  · obtain ⟨v, d, L, n, rfl, hd, hg, hL, q⟩ := h
    refine ⟨_, pss_one (ps_ret (pe_and (pe_callB (cr_isOne "tuple") (by rfl) mi boot_isinstance (pa_cons (pv 0) (pa_cons (pe_bltn (v := .ty "tuple") (by rfl) mt (by decide +kernel) rfl) pa_nil)))
      (pe_and (pe_callB (cr_all rfl) (by rfl) ma boot_all (pa_cons
        (pe_lc (own := [("name", 1)]) (g := gName 1) (tt := tYes) rfl scAre.nd (pi_tup (pv 0)) (blkOk_by (N := nAre) (sc := defScope sAreNames) (by decide +kernel))
          (fun _ _ _ _ _ => pg_name (i := 1) scAre.nd rfl (Or.inl rfl)) (fun _ _ _ _ _ => pts_nil) (fun _ _ _ _ _ => pe_call GN hr (by rfl) mN FN.kp bN .nil pass0 (pa_cons (pv 1) pa_nil))) pa_nil))
        (pe_one (pe_call GA hr (by rfl) mA FA.kp bA .nil pass0 (pa_cons (pv 0) pa_nil)))))), ?_⟩
    have hv := hd
    have q0 : areNamesD d = false → Q (.bl false) H := fun e => by
      have := q H fun _ _ z => z
      rw [e] at this
      exact this
    cases hd with
    | non => exact ⟨_, rfl, ⟨_, _, rfl, hv, false, (show kitB "NoneType" "tuple" = some false by decide +kernel), _, rfl, iteF (q0 rfl)⟩⟩
    | bl c => exact ⟨_, rfl, ⟨_, _, rfl, hv, false, (show kitB "bool" "tuple" = some false by decide +kernel), _, rfl, iteF (q0 rfl)⟩⟩
    | int c => exact ⟨_, rfl, ⟨_, _, rfl, hv, false, (show kitB "int" "tuple" = some false by decide +kernel), _, rfl, iteF (q0 rfl)⟩⟩
    | str c => exact ⟨_, rfl, ⟨_, _, rfl, hv, false, (show kitB "str" "tuple" = some false by decide +kernel), _, rfl, iteF (q0 rfl)⟩⟩
    | lst h1 h2 => exact ⟨_, rfl, ⟨_, _, rfl, hv, false, (show kitB "list" "tuple" = some false by decide +kernel), _, rfl, iteF (q0 rfl)⟩⟩
    | tup h1 h2 =>
      rename_i a xs ds
      have hl := dps_len h2
      obtain ⟨n0, _, hlen, hgs⟩ := gD_seq (.inr rfl) hg
      refine ⟨_, rfl, ⟨_, _, rfl, hv, true, (show kitB "tuple" "tuple" = some true by decide +kernel), _, rfl, iteT ?_⟩⟩
      refine ⟨_, rfl, a, rfl, ⟨xs, h1⟩, fun D nD => lc_flags (K := K) (walk_tup (xs := xs)) h2 nD (by omega) (fun H2 s2 => same_seqT s2 h1) (fun e => isWordD e 8)
        (fun j x e H2 Q2 he s2 dx k2 => ⟨_, rfl, x, e, rfl, dx, fun z ez => (str_fine (n := n0) (L := L) (by rw [← ez]; exact okGet hgs (List.mem_of_getElem? he))).1, k2⟩) fun H2 s2 hD2 => ⟨D, _, rfl, SqL.of hD2, ?_⟩⟩
      rw [List.all_map]
      refine ⟨_, rfl, ?_⟩
      have eall : ds.all (id ∘ fun e => isWordD e 8) = ds.all fun e => isWordD e 8 := rfl
      rw [eall]
      cases he : ds.all fun e => isWordD e 8 with
      | false =>
        refine iteF ?_
        have e : areNamesD (.tuple ds) = false := by
          show (ds.all (fun e => isWordD e 8) && ascS (ds.map strOfD)) = false
          rw [he]
          rfl
        have q1 := q _ s2
        rw [e] at q1
        exact q1
      | true =>
        refine iteT ?_
        have eb := words_back he
        rw [eb] at h2
        have ev := dps_strV h2
        have e : areNamesD (.tuple ds) = ascS (ds.map strOfD) := by
          show (ds.all (fun e => isWordD e 8) && ascS (ds.map strOfD)) = _
          rw [he]
          rfl
        refine ⟨_, rfl, a, ds.map strOfD, rfl, by rw [← ev]; exact same_seqT s2 h1, by rw [List.length_map]; omega, fun H3 s3 => ?_⟩
        have q1 := q _ (s2.trans s3)
        rw [e] at q1
        exact q1
end
end KV

namespace KV
open PySem PySem.Spec PyProof.Rows L2 RZ
abbrev sIsSetup : Stmt := topS 9
def rInT (K : PySem.W.Frag) : R2 := fun x y H Q => ∃ d ds, Dp K H x d ∧ Dp K H y (.tuple ds) ∧ PyData.canLayAll0 ds = true ∧ d.canLay0 = true ∧ PyData.depthAll ds = 0 ∧ Q (.bl (ds.any fun z => PyData.eqv z d)) H
theorem op_inT {X : Cx} {K : PySem.W.Frag} (hK : X.K = K) (hu : X.A.units + 64 < cLine) : OpR X (compareOp .In) (rInT K) := by
  subst hK
  intro pins s σ H x y v u Q I rx ry h
  obtain ⟨d, ds, hd, he, c1, c2, d0, q⟩ := h
  obtain ⟨as, r1⟩ := Dp.reads I d x v hd rx
  obtain ⟨bs, r2⟩ := Dp.reads I (.tuple ds) y u he ry
  refine SeqAt.in_tuple_reads r2 r1 c1 c2 ?_ ⟨.bl _, H, I, rfl, q⟩
  have := Nat.min_le_left (PyData.depthAll ds) d.depth
  omega
mutual
theorem gD_lay {L : Nat} : ∀ (d : PyData) (n : Nat), gD lf2 L d n = true → d.canLay0 = true
  | .list xs, n, h => by
    obtain ⟨m, rfl, _, h2⟩ := gD_seq (.inl rfl) h
    simpa only [PyData.canLay0] using gDs_lay xs m h2
  | .tuple xs, n, h => by
    obtain ⟨m, rfl, _, h2⟩ := gD_seq (.inr rfl) h
    simpa only [PyData.canLay0] using gDs_lay xs m h2
  | .none, n, _ => rfl
  | .bool _, n, _ => rfl
  | .int _, n, _ => rfl
  | .str x, n, h => by
    have h1 : (decide (x.length ≤ 60) && x.cps.toList.all fun c => decide (c < 1114112)) = true := by simp only [gD] at h; exact h
    rw [Bool.and_eq_true] at h1
    show PyData.strOk x = true
    unfold PyData.strOk
    rw [← Array.all_toList]
    exact h1.2
  | .dict _, n, h => by simp [gD] at h
theorem gDs_lay {L : Nat} : ∀ (ds : List PyData) (n : Nat), gDs lf2 L ds n = true → PyData.canLayAll0 ds = true
  | [], n, _ => rfl
  | d :: ds, n, h => by
    simp only [gDs, Bool.and_eq_true] at h
    simp only [PyData.canLayAll0, gD_lay d n h.1, gDs_lay ds n h.2, Bool.and_self]
end
/-- None, or one of these -/
def slotD (ss : List Str) : PyData → Bool
  | .none => true
  | .str x => decide (x ∈ ss)
  | _ => false
theorem eqv_strs (d : PyData) (h : d ≠ .none) (ss : List Str) : ((ss.map PyData.str).any fun z => PyData.eqv z d) = slotD ss d := by
  cases d with
  | none => exact absurd rfl h
  | str x =>
    show _ = decide (x ∈ ss)
    rw [List.any_map, Bool.eq_iff_iff, List.any_eq_true, decide_eq_true_eq]
    constructor
    · rintro ⟨y, hy, e⟩
      have e2 : (y == x) = true := by simpa [PyData.eqv] using e
      rw [← eq_of_beq e2]
      exact hy
    · intro hx
      exact ⟨x, hx, by simp [PyData.eqv]⟩
  | bool c =>
    show _ = false
    rw [List.any_map, List.any_eq_false]
    intro y _
    simp [PyData.eqv]
  | int c =>
    show _ = false
    rw [List.any_map, List.any_eq_false]
    intro y _
    simp [PyData.eqv]
  | list c =>
    show _ = false
    rw [List.any_map, List.any_eq_false]
    intro y _
    simp [PyData.eqv]
  | tuple c =>
    show _ = false
    rw [List.any_map, List.any_eq_false]
    intro y _
    simp [PyData.eqv]
  | dict c =>
    show _ = false
    rw [List.any_map, List.any_eq_false]
    intro y _
    simp [PyData.eqv]
def pipesD : PyData → List Str
  | .tuple ds => ds.map strOfD
  | _ => []
def slotsD (ss : List Str) : PyData → Bool
  | .tuple es => es.all (slotD ss)
  | _ => false
/-- a SETUP -/
def isSetupD : PyData → Bool
  | .tuple [a, b, p, s] => isNumD a 1 && isNumD b 1 && areNamesD p && slotsD (pipesD p) s
  | _ => false
theorem setup_row : ∀ {d : PyData}, isRowD d 4 = false → isSetupD d = false
  | .tuple [a, b, c, e], h => nomatch h
  | .tuple [], _ => rfl
  | .tuple [_], _ => rfl
  | .tuple [_, _], _ => rfl
  | .tuple [_, _, _], _ => rfl
  | .tuple (_ :: _ :: _ :: _ :: _ :: _), _ => rfl
  | .none, _ => rfl
  | .bool _, _ => rfl
  | .int _, _ => rfl
  | .str _, _ => rfl
  | .list _, _ => rfl
  | .dict _, _ => rfl
theorem row_four : ∀ {d : PyData}, isRowD d 4 = true → ∃ a b c e, d = .tuple [a, b, c, e]
  | .tuple [a, b, c, e], _ => ⟨a, b, c, e, rfl⟩
  | .tuple [], h => nomatch h
  | .tuple [_], h => nomatch h
  | .tuple [_, _], h => nomatch h
  | .tuple [_, _, _], h => nomatch h
  | .tuple (_ :: _ :: _ :: _ :: _ :: r), h => by
    have z : (r.length + 1 + 1 + 1 + 1 + 1) = 4 := of_decide_eq_true h
    omega
  | .none, h => nomatch h
  | .bool _, h => nomatch h
  | .int _, h => nomatch h
  | .str _, h => nomatch h
  | .list _, h => nomatch h
  | .dict _, h => nomatch h
theorem are_pipes : ∀ {d : PyData}, areNamesD d = true → d = .tuple ((pipesD d).map PyData.str) ∧ ascS (pipesD d) = true
  | .tuple ds, h => by
    have z : (ds.all (fun e => isWordD e 8) && ascS (ds.map strOfD)) = true := h
    rw [Bool.and_eq_true] at z
    exact ⟨congrArg PyData.tuple (words_back z.1), z.2⟩
  | .none, h => nomatch h
  | .bool _, h => nomatch h
  | .int _, h => nomatch h
  | .str _, h => nomatch h
  | .list _, h => nomatch h
  | .dict _, h => nomatch h
theorem dp_four {K : PySem.W.Frag} {H : Hp} {v : V} {a b c e : PyData} (h : Dp K H v (.tuple [a, b, c, e])) : ∃ (p : Addr) (x y z u : V), v = .ref p ∧ SqT K H p [x, y, z, u] ∧ Dp K H x a ∧ Dp K H y b ∧ Dp K H z c ∧ Dp K H u e := by
  cases h with
  | tup h1 h2 =>
    cases h2 with
    | cons a1 h2 =>
      cases h2 with
      | cons a2 h2 =>
        cases h2 with
        | cons a3 h2 =>
          cases h2 with
          | cons a4 h2 =>
            cases h2
            exact ⟨_, _, _, _, _, rfl, h1, a1, a2, a3, a4⟩
section
variable {P : Program} {w : World} {K : PySem.W.Frag} {mg : Str → Option Value} {base : Heap}
def spIsSetup (K : PySem.W.Frag) : Sp := fun vs H Q _ => ∃ (v : V) (d : PyData) (L n : Nat), vs = [v] ∧ Dp K H v d ∧ gD lf2 L d n = true ∧ L ≤ 100 ∧ ∀ H', Same H H' → Q (.bl (isSetupD d)) H'
abbrev nIsSetup : List Str := ["thing", "space", "room", "pipes", "slots", "entry"]
theorem scIsSetup : FnScope nIsSetup ["thing"] (defScope sIsSetup) :=
  ⟨rfl, rfl, rfl, by decide +kernel, rfl, by decide +kernel, by decide +kernel⟩
theorem ok_isSetup {f fR fN fA : Addr} {fd fdR fdN fdA : FuncData} {k : Nat} (F : Fun K "is_setup" "is_setup" sIsSetup f fd)
    (FR : Fun K "is_row" "is_row" sRow fR fdR) (bR : Binds K fdR ["thing", "many"] []) (mR : mg "is_row" = some (.ref fR)) (GR : FnOk P w K mg base CX0 (k + 3) fR fdR ["thing", "many"] (spRow K))
    (FN : Fun K "is_number" "is_number" sNum fN fdN) (bN : Binds K fdN ["thing", "least"] []) (mN : mg "is_number" = some (.ref fN)) (GN : FnOk P w K mg base CX0 (k + 3) fN fdN ["thing", "least"] (spNum K))
    (FA : Fun K "are_names" "are_names" sAreNames fA fdA) (bA : Binds K fdA ["thing"] []) (mA : mg "are_names" = some (.ref fA)) (GA : FnOk P w K mg base CX0 (k + 3) fA fdA ["thing"] (spAre K))
    (mi : mg "isinstance" = none) (mt : mg "tuple" = none) (ma : mg "all" = none) : FnOk P w K mg base CX0 (k + 4) f fd ["thing"] (spIsSetup K) := by
  refine F.ok scIsSetup (fun vs H Q E h => ?_) (fun cdv A outer s H vs Q E hr h => ?_)
  · obtain ⟨v, d, L, n, rfl, _⟩ := h
    rfl
  · obtain ⟨v, d, L, n, rfl, hd, hg, hL, q⟩ := h
    refine ⟨_, pss_cons (ps_if (pt_not (pt_val (pe_call GR hr (by rfl) mR FR.kp bR .nil pass0 (pa_cons (pv 0) (pa_cons pe_int pa_nil))))) (pss_one (ps_ret pe_bl)) pss_nil)
      (pss_cons (ps_asg (pv 0) (pg_tup rfl (pgs_cons (pg_name (i := 1) scIsSetup.nd rfl (.inl rfl)) (pgs_cons (pg_name (i := 2) scIsSetup.nd rfl (.inl rfl)) (pgs_cons (pg_name (i := 3) scIsSetup.nd rfl (.inr rfl)) (pgs_cons (pg_name (i := 4) scIsSetup.nd rfl (.inl rfl)) pgs_nil))))))
      (pss_cons (ps_if (PW.pt (pw_or (pt_not (pt_val (pe_call GN hr (by rfl) mN FN.kp bN .nil pass0 (pa_cons (pv 1) (pa_cons pe_int pa_nil)))))
          (pw_or (pt_not (pt_val (pe_call GN hr (by rfl) mN FN.kp bN .nil pass0 (pa_cons (pv 2) (pa_cons pe_int pa_nil)))))
          (pw_or1 (pt_not (pt_val (pe_call GA hr (by rfl) mA FA.kp bA .nil pass0 (pa_cons (pv 3) pa_nil)))))))) (pss_one (ps_ret pe_bl)) pss_nil)
      (pss_one (ps_ret (pe_and (pe_callB (cr_isOne "tuple") (by rfl) mi boot_isinstance (pa_cons (pv 4) (pa_cons (pe_bltn (v := .ty "tuple") (by rfl) mt (by decide +kernel) rfl) pa_nil)))
        (pe_one (pe_callB (cr_all rfl) (by rfl) ma boot_all (pa_cons
          (pe_lc (own := [("entry", 5)]) (g := gName 5) (tt := tYes) rfl scIsSetup.nd (pi_tup (pv 4)) (blkOk_by (N := nIsSetup) (sc := defScope sIsSetup) (by decide +kernel))
            (fun _ _ _ _ _ => pg_name (i := 5) scIsSetup.nd rfl (Or.inl rfl)) (fun _ _ _ _ _ => pts_nil) (fun _ _ _ _ _ => pe_or (pe_cmpR op_isN (pv 5) pe_non (nomark _)) (pe_one (pe_cmpR (op_inT (K := K) rfl hr.units) (pv 5) (pv 3) (by rfl))))) pa_nil)))))))), ?_⟩
    have q0 : isSetupD d = false → ∀ H', Same H H' → Q (.bl false) H' := fun e H' s' => by
      have := q H' s'
      rw [e] at this
      exact this
    refine ⟨_, rfl, v, d, 4, rfl, hd, _, rfl, ?_⟩
    cases h4 : isRowD d 4 with
    | false => exact iteT (q0 (setup_row h4) H fun _ _ z => z)
    | true =>
      refine iteF ?_
      obtain ⟨da, db, dc, de, rfl⟩ := row_four h4
      obtain ⟨p, x, y, z, u, rfl, hS, d1, d2, d3, d4⟩ := dp_four hd
      obtain ⟨n0, rfl, _, hgs⟩ := gD_seq (.inr rfl) hg
      simp only [gDs, Bool.and_eq_true] at hgs
      obtain ⟨g1, g2, g3, g4, _⟩ := hgs
      have es : isSetupD (.tuple [da, db, dc, de]) = (isNumD da 1 && isNumD db 1 && areNamesD dc && slotsD (pipesD dc) de) := rfl
      refine ⟨_, rfl, p, _, rfl, hS, rfl, x, _, rfl, y, _, rfl, z, _, rfl, u, _, rfl, rfl, ?_⟩
      refine ⟨_, rfl, x, da, 1, rfl, d1, _, rfl, ?_⟩
      cases n1 : isNumD da 1 with
      | false => exact iteT (iteT (q0 (by rw [es, n1]; rfl) H fun _ _ z => z))
      | true =>
        refine iteF ⟨_, rfl, y, db, 1, rfl, d2, _, rfl, ?_⟩
        cases n2 : isNumD db 1 with
        | false => exact iteT (iteT (q0 (by rw [es, n1, n2]; rfl) H fun _ _ z => z))
        | true =>
          refine iteF ⟨_, rfl, z, dc, L, n0, rfl, d3, g3, hL, fun H1 s1 => ⟨_, rfl, ?_⟩⟩
          cases n3 : areNamesD dc with
          | false => exact iteT (q0 (by rw [es, n1, n2, n3]; rfl) H1 s1)
          | true =>
            refine iteF ?_
            obtain ⟨ep, _⟩ := are_pipes n3
            have es2 : isSetupD (.tuple [da, db, dc, de]) = slotsD (pipesD dc) de := by
              rw [es, n1, n2, n3]
              rfl
            have e3 : Dp K H1 z (.tuple ((pipesD dc).map PyData.str)) := by
              rw [← ep]
              exact dp_same s1 d3
            have lay : PyData.canLayAll0 ((pipesD dc).map PyData.str) = true := by
              have z1 := gD_lay dc n0 g3
              rw [ep] at z1
              simpa only [PyData.canLay0, pipesD, List.map_map] using z1
            have hv := dp_same s1 d4
            have hv0 := hv
            cases hv with
            | non => exact ⟨_, rfl, ⟨_, _, rfl, hv0, false, (show kitB "NoneType" "tuple" = some false by decide +kernel), _, rfl, iteF (q0 (by rw [es2]; rfl) H1 s1)⟩⟩
            | bl c => exact ⟨_, rfl, ⟨_, _, rfl, hv0, false, (show kitB "bool" "tuple" = some false by decide +kernel), _, rfl, iteF (q0 (by rw [es2]; rfl) H1 s1)⟩⟩
            | int c => exact ⟨_, rfl, ⟨_, _, rfl, hv0, false, (show kitB "int" "tuple" = some false by decide +kernel), _, rfl, iteF (q0 (by rw [es2]; rfl) H1 s1)⟩⟩
            | str c => exact ⟨_, rfl, ⟨_, _, rfl, hv0, false, (show kitB "str" "tuple" = some false by decide +kernel), _, rfl, iteF (q0 (by rw [es2]; rfl) H1 s1)⟩⟩
            | lst h1 h2 => exact ⟨_, rfl, ⟨_, _, rfl, hv0, false, (show kitB "list" "tuple" = some false by decide +kernel), _, rfl, iteF (q0 (by rw [es2]; rfl) H1 s1)⟩⟩
            | tup h1 h2 =>
              rename_i a xs ds _
              have hl := dps_len h2
              obtain ⟨m0, _, hlen, hgs4⟩ := gD_seq (.inr rfl) g4
              refine ⟨_, rfl, ⟨_, _, rfl, hv0, true, (show kitB "tuple" "tuple" = some true by decide +kernel), _, rfl, iteT ?_⟩⟩
              refine ⟨_, rfl, a, rfl, ⟨xs, h1⟩, fun D nD => lc_flags (K := K) (walk_tup (xs := xs)) h2 nD (by omega) (fun H2 s2 => same_seqT s2 h1) (slotD (pipesD dc))
                (fun j x e H2 Q2 he s2 dx k2 => ?_) fun H2 s2 hD2 => ⟨D, _, rfl, SqL.of hD2, ?_⟩⟩
              · have e3' := dp_same s2 e3
                have le := gD_lay e m0 (okGet hgs4 (List.mem_of_getElem? he))
                by_cases en : e = .none
                · subst en
                  cases dx
                  exact ⟨_, rfl, rfl, _, rfl, iteD rfl (k2 H2 fun _ _ z => z)⟩
                · have xn : x ≠ .non := fun xe => by
                    subst xe
                    cases dx
                    exact en rfl
                  refine ⟨_, rfl, rfl, _, rfl, iteDN xn ⟨_, rfl, _, rfl, e, _, dx, e3', lay, le, depth_strs _, ?_⟩⟩
                  rw [eqv_strs e en]
                  exact k2 H2 fun _ _ z => z
              · have q1 := q _ (s1.trans s2)
                rw [es2] at q1
                have ea : (ds.map (slotD (pipesD dc))).all id = slotsD (pipesD dc) (.tuple ds) := by
                  rw [List.all_map]
                  rfl
                rw [ea]
                exact q1
end
end KV

namespace KV
open PySem PySem.Spec PyProof.Rows L2 RZ
abbrev sLawSetup : Stmt := topS 21
theorem ix_seqK {X : Cx} {K : PySem.W.Frag} (h : X.K = K) : IxR X (rIx K) := by
  subst h
  exact ix_seq
theorem op_inSeqK {X : Cx} {K : PySem.W.Frag} (h : X.K = K) : OpR X (compareOp .In) (rIn K false) := by
  subst h
  exact op_in_seq
theorem cr_isOneK {X : Cx} {K : PySem.W.Frag} (h : X.K = K) (n : String) : CallR X (.builtin "isinstance") (rIsOne K n) := by
  subst h
  exact cr_isOne n
theorem eqv_texts : ∀ xs ts : List Str, PyData.eqv (.list (xs.map PyData.str)) (.list (ts.map PyData.str)) = decide (xs = ts) := by
  have key : ∀ xs ts : List Str, PyData.eqvAll (xs.map PyData.str) (ts.map PyData.str) = decide (xs = ts) := by
    intro xs
    induction xs with
    | nil => intro ts; cases ts <;> simp [PyData.eqvAll]
    | cons x xs ih =>
      intro ts
      cases ts with
      | nil => simp [PyData.eqvAll]
      | cons t ts =>
        rw [List.map_cons, List.map_cons]
        simp only [PyData.eqvAll, PyData.eqv, ih ts]
        rw [Bool.eq_iff_iff]
        simp
  intro xs ts
  simp only [PyData.eqv]
  exact key xs ts
theorem word_lay {x : Str} (h : isWordD (.str x) 8 = true) : PyData.strOk x = true := by
  have z : (decide (0 < x.length) && decide (x.length ≤ 8) && x.cps.toList.all isLet) = true := h
  rw [Bool.and_eq_true] at z
  unfold PyData.strOk
  rw [← Array.all_toList, List.all_eq_true]
  intro c hc
  have z2 := List.all_eq_true.mp z.2 c hc
  unfold isLet at z2
  rw [Bool.and_eq_true, decide_eq_true_eq, decide_eq_true_eq] at z2
  rw [decide_eq_true_eq]
  omega
theorem lay_of : ∀ ts : List Str, (∀ t ∈ ts, PyData.strOk t = true) → PyData.canLayAll0 (ts.map PyData.str) = true
  | [], _ => rfl
  | t :: ts, h => by
    simp only [List.map_cons, PyData.canLayAll0, PyData.canLay0, h t List.mem_cons_self, lay_of ts fun u hu => h u (List.mem_cons_of_mem _ hu), Bool.and_self]
theorem shaped_texts {ts : List Str} (h : ∀ t ∈ ts, PyData.strOk t = true) : SeqAt.shaped (.list (ts.map PyData.str)) = true := by
  show (PyData.canLay0 (.list _) && decide (PyData.depth (.list _) ≤ 64)) = true
  simp only [PyData.canLay0, PyData.depth, lay_of ts h, depth_strs]
  decide
def isTupD : PyData → Bool
  | .tuple _ => true
  | _ => false
theorem kit_tup : ∀ d : PyData, kitB (tyD d) "tuple" = some (isTupD d)
  | .none => (by decide +kernel : kitB "NoneType" "tuple" = some false)
  | .bool _ => (by decide +kernel : kitB "bool" "tuple" = some false)
  | .int _ => (by decide +kernel : kitB "int" "tuple" = some false)
  | .str _ => (by decide +kernel : kitB "str" "tuple" = some false)
  | .list _ => (by decide +kernel : kitB "list" "tuple" = some false)
  | .tuple _ => (by decide +kernel : kitB "tuple" "tuple" = some true)
  | .dict _ => (by decide +kernel : kitB "dict" "tuple" = some false)
theorem are_not : ∀ {d : PyData}, isTupD d = false → areNamesD d = false
  | .tuple _, h => nomatch h
  | .none, _ => rfl
  | .bool _, _ => rfl
  | .int _, _ => rfl
  | .str _, _ => rfl
  | .list _, _ => rfl
  | .dict _, _ => rfl
theorem slots_not : ∀ {d : PyData} {ss : List Str}, isTupD d = false → slotsD ss d = false
  | .tuple _, _, h => nomatch h
  | .none, _, _ => rfl
  | .bool _, _, _ => rfl
  | .int _, _, _ => rfl
  | .str _, _, _ => rfl
  | .list _, _, _ => rfl
  | .dict _, _, _ => rfl
theorem tup_of : ∀ {d : PyData}, isTupD d = true → ∃ ds, d = .tuple ds
  | .tuple ds, _ => ⟨ds, rfl⟩
  | .none, h => nomatch h
  | .bool _, h => nomatch h
  | .int _, h => nomatch h
  | .str _, h => nomatch h
  | .list _, h => nomatch h
  | .dict _, h => nomatch h
theorem dp_tupR {K : PySem.W.Frag} {H : Hp} {v : V} {es : List PyData} (h : Dp K H v (.tuple es)) : ∃ a xs, v = .ref a ∧ SqT K H a xs ∧ DpAll K H xs es := by
  cases h with
  | tup h1 h2 => exact ⟨_, _, rfl, h1, h2⟩
section
variable {P : Program} {w : World} {K : PySem.W.Frag} {mg : Str → Option Value} {base : Heap}
abbrev nLawSetup : List Str := ["_law_matter", "_law_bit"]
theorem scLawSetup : FnScope nLawSetup ["_law_matter"] (defScope sLawSetup) :=
  ⟨rfl, rfl, rfl, by decide +kernel, rfl, by decide +kernel, by decide +kernel⟩
theorem ok_lawSetup {f fR fN fA : Addr} {fd fdR fdN fdA : FuncData} {k : Nat} (F : Fun K "_law_is_setup" "_law_is_setup" sLawSetup f fd)
    (FR : Fun K "_law_row_of" "_law_row_of" sRowOf fR fdR) (bR : Binds K fdR ["_law_matter", "_law_size"] []) (mR : mg "_law_row_of" = some (.ref fR)) (GR : FnOk P w K mg base CX0 (k + 3) fR fdR ["_law_matter", "_law_size"] (spRow K))
    (FN : Fun K "_law_whole" "_law_whole" sWhole fN fdN) (bN : Binds K fdN ["_law_matter", "_law_least_so"] []) (mN : mg "_law_whole" = some (.ref fN)) (GN : FnOk P w K mg base CX0 (k + 3) fN fdN ["_law_matter", "_law_least_so"] (spNum K))
    (FA : Fun K "_law_is_word" "_law_is_word" sIsWord fA fdA) (bA : Binds K fdA ["_law_matter", "_law_most_so"] []) (mA : mg "_law_is_word" = some (.ref fA)) (GA : FnOk P w K mg base CX0 (k + 3) fA fdA ["_law_matter", "_law_most_so"] (spIsWord K))
    (mi : mg "isinstance" = none) (mt : mg "tuple" = none) (ma : mg "all" = none) (ml : mg "list" = none) (mst : mg "set" = none) (mso : mg "sorted" = none) (ms : mg "str" = none) : FnOk P w K mg base CX0 (k + 4) f fd ["_law_matter"] (spIsSetup K) := by
  refine F.ok scLawSetup (fun vs H Q E h => ?_) (fun cdv A outer s H vs Q E hr h => ?_)
  · obtain ⟨v, d, L, n, rfl, _⟩ := h
    rfl
  · obtain ⟨v, d, L, n, rfl, hd, hg, hL, q⟩ := h
    refine ⟨_, pss_cons (ps_if (PW.pt (pw_or (pt_not (pt_val (pe_call GR hr (by rfl) mR FR.kp bR .nil pass0 (pa_cons (pv 0) (pa_cons pe_int pa_nil)))))
          (pw_or (pt_not (pt_val (pe_call GN hr (by rfl) mN FN.kp bN .nil pass0 (pa_cons (pe_ix ix_seq (pv 0) pe_int (fun _ _ => rfl)) (pa_cons pe_int pa_nil)))))
          (pw_or1 (pt_not (pt_val (pe_call GN hr (by rfl) mN FN.kp bN .nil pass0 (pa_cons (pe_ix ix_seq (pv 0) pe_int (fun _ _ => rfl)) (pa_cons pe_int pa_nil))))))))) (pss_one (ps_ret pe_bl)) pss_nil)
      (pss_cons (ps_if (PW.pt (pw_or (pt_not (pt_val (pe_callB (cr_isOne "tuple") (by rfl) mi boot_isinstance (pa_cons (pe_ix ix_seq (pv 0) pe_int (fun _ _ => rfl)) (pa_cons (pe_bltn (v := .ty "tuple") (by rfl) mt (by decide +kernel) rfl) pa_nil)))))
          (pw_or1 (pt_not (pt_val (pe_callB (cr_isOne "tuple") (by rfl) mi boot_isinstance (pa_cons (pe_ix ix_seq (pv 0) pe_int (fun _ _ => rfl)) (pa_cons (pe_bltn (v := .ty "tuple") (by rfl) mt (by decide +kernel) rfl) pa_nil)))))))) (pss_one (ps_ret pe_bl)) pss_nil)
      (pss_cons (ps_for PassesOwn.never rfl (pi_tup (pe_ix ix_seq (pv 0) pe_int (fun _ _ => rfl))) (pg_name (i := 1) scLawSetup.nd rfl (.inl rfl))
          (pss_one (ps_if (pt_not (pt_val (pe_call GA hr (by rfl) mA FA.kp bA .nil pass0 (pa_cons (pv 1) (pa_cons pe_int pa_nil))))) (pss_one (ps_ret pe_bl)) pss_nil)))
      (pss_cons (ps_if (pt_cmpR (op_neD hr.units) (pe_callTy call_list_of (by rfl) ml PyProof.Rows.boot_list (pa_cons (pe_ix ix_seq (pv 0) pe_int (fun _ _ => rfl)) pa_nil))
          (pe_callB (cr_sortedT rfl) (by rfl) mso boot_sorted (pa_cons (pe_callTy (cr_setT rfl) (by rfl) mst PyProof.Rows.boot_set (pa_cons (pe_ix ix_seq (pv 0) pe_int (fun _ _ => rfl)) pa_nil)) pa_nil)) (nomark _)) (pss_one (ps_ret pe_bl)) pss_nil)
      (pss_one (ps_ret (pe_callB (cr_all rfl) (by rfl) ma boot_all (pa_cons
          (pe_lc (own := [("_law_bit", 1)]) (g := gName 1) (tt := tYes) rfl scLawSetup.nd (pi_tup (pe_ix ix_seq (pv 0) pe_int (fun _ _ => rfl))) (blkOk_by (N := nLawSetup) (sc := defScope sLawSetup) (by decide +kernel))
            (fun _ _ _ _ _ => pg_name (i := 1) scLawSetup.nd rfl (Or.inl rfl)) (fun _ _ _ _ _ => pts_nil) (fun _ _ _ _ _ => pe_or (pe_cmpR op_isN (pv 1) pe_non (nomark _))
              (pe_one (pe_and (pe_callB (cr_isOneK (K := K) rfl "str") (by rfl) mi boot_isinstance (pa_cons (pv 1) (pa_cons (pe_bltn (v := .ty "str") (by rfl) ms (by decide +kernel) rfl) pa_nil)))
                (pe_one (pe_cmpR (op_inSeqK (K := K) rfl) (pv 1) (pe_ix (ix_seqK (K := K) rfl) (pv 0) pe_int (fun _ _ => rfl)) (by rfl))))))) pa_nil))))))), ?_⟩
    have q0 : isSetupD d = false → ∀ H', Same H H' → Q (.bl false) H' := fun e H' s' => by
      have := q H' s'
      rw [e] at this
      exact this
    refine ⟨_, rfl, v, d, 4, rfl, hd, _, rfl, ?_⟩
    cases h4 : isRowD d 4 with
    | false => exact iteT (iteT (q0 (setup_row h4) H fun _ _ z => z))
    | true =>
      refine iteF ?_
      obtain ⟨da, db, dc, de, rfl⟩ := row_four h4
      obtain ⟨p, x, y, z, u, rfl, hS, d1, d2, d3, d4⟩ := dp_four hd
      obtain ⟨n0, rfl, _, hgs⟩ := gD_seq (.inr rfl) hg
      simp only [gDs, Bool.and_eq_true] at hgs
      obtain ⟨g1, g2, g3, g4, _⟩ := hgs
      have es : isSetupD (.tuple [da, db, dc, de]) = (isNumD da 1 && isNumD db 1 && areNamesD dc && slotsD (pipesD dc) de) := rfl
      refine ⟨_, rfl, .inr (.inl ⟨p, _, 0, x, rfl, rfl, hS, atI_nat (j := 0) rfl, x, da, 1, rfl, d1, _, rfl, ?_⟩)⟩
      cases n1 : isNumD da 1 with
      | false => exact iteT (iteT (q0 (by rw [es, n1]; rfl) H fun _ _ z => z))
      | true =>
        refine iteF ⟨_, rfl, .inr (.inl ⟨p, _, 1, y, rfl, rfl, hS, atI_nat (j := 1) rfl, y, db, 1, rfl, d2, _, rfl, ?_⟩)⟩
        cases n2 : isNumD db 1 with
        | false => exact iteT (q0 (by rw [es, n1, n2]; rfl) H fun _ _ z => z)
        | true =>
          refine iteF ⟨_, rfl, .inr (.inl ⟨p, _, 2, z, rfl, rfl, hS, atI_nat (j := 2) rfl, ⟨_, _, rfl, d3, _, kit_tup dc, _, rfl, ?_⟩⟩)⟩
          cases t1 : isTupD dc with
          | false => exact iteT (iteT (q0 (by rw [es, n1, n2, are_not t1]; rfl) H fun _ _ z => z))
          | true =>
            refine iteF ⟨_, rfl, .inr (.inl ⟨p, _, 3, u, rfl, rfl, hS, atI_nat (j := 3) rfl, ⟨_, _, rfl, d4, _, kit_tup de, _, rfl, ?_⟩⟩)⟩
            cases t2 : isTupD de with
            | false => exact iteT (q0 (by rw [es, slots_not t2, Bool.and_false]) H fun _ _ z => z)
            | true =>
              refine iteF ?_
              obtain ⟨ds, rfl⟩ := tup_of t1
              obtain ⟨fs, rfl⟩ := tup_of t2
              obtain ⟨a3, xs3, rfl, S3, A3⟩ := dp_tupR d3
              obtain ⟨a4, xs4, rfl, S4, A4⟩ := dp_tupR d4
              have l3 := dps_len A3
              have l4 := dps_len A4
              obtain ⟨m3, _, len3, gs3⟩ := gD_seq (.inr rfl) g3
              obtain ⟨m4, _, len4, gs4⟩ := gD_seq (.inr rfl) g4
              refine ⟨_, rfl, .inr (.inl ⟨p, _, 2, .ref a3, rfl, rfl, hS, atI_nat (j := 2) rfl, a3, rfl, ⟨xs3, S3⟩, for_it (walk_tup (xs := xs3)) (fun j σ H' => ∃ y, σ = [some (.ref p), y] ∧ Same H H' ∧ ∀ e ∈ ds.take j, isWordD e 8 = true)
                ⟨none, rfl, fun _ _ z => z, fun e he => absurd he List.not_mem_nil⟩ (fun j σ H' _ hp => ?_) ?_ ?_⟩)⟩
              · obtain ⟨_, _, s', _⟩ := hp
                exact same_seqT s' S3
              · rintro j x' σ H' H'' hj ⟨y', rfl, s', w'⟩ ⟨rfl, hx⟩
                obtain ⟨e, he, dx⟩ := dps_get A3 hx
                refine ⟨_, rfl, x', e, 8, rfl, by decide, dp_same s' dx, fun w ew => str_fine (n := m3) (L := L) (by rw [← ew]; exact okGet gs3 (List.mem_of_getElem? he)), fun H2 s2 => ⟨_, rfl, ?_⟩⟩
                cases hw : isWordD e 8 with
                | false =>
                  refine iteT (q0 ?_ H2 (s'.trans s2))
                  have no : areNamesD (.tuple ds) = false := by
                    show (ds.all (fun e => isWordD e 8) && ascS (ds.map strOfD)) = false
                    have na : ds.all (fun e => isWordD e 8) = false := by
                      rw [List.all_eq_false]
                      exact ⟨e, List.mem_of_getElem? he, by rw [hw]; exact Bool.false_ne_true⟩
                    rw [na]
                    rfl
                  rw [es, n1, n2, no]
                  rfl
                | true =>
                  refine iteF ⟨some x', rfl, s'.trans s2, fun e2 he2 => ?_⟩
                  rw [take_snoc he] at he2
                  rcases List.mem_append.mp he2 with he2 | he2
                  · exact w' e2 he2
                  · rw [List.mem_singleton.mp he2]
                    exact hw
              · rintro σ H' ⟨y', rfl, s', w'⟩
                rw [l3, List.take_length] at w'
                have hall : ds.all (fun e => isWordD e 8) = true := List.all_eq_true.mpr w'
                have eb := words_back hall
                have ean : areNamesD (.tuple ds) = ascS (ds.map strOfD) := by
                  show (ds.all (fun e => isWordD e 8) && ascS (ds.map strOfD)) = _
                  rw [hall]
                  rfl
                have epi : pipesD (.tuple ds) = ds.map strOfD := rfl
                rw [ean, epi, n1, n2] at es
                have okS : ∀ t ∈ ds.map strOfD, PyData.strOk t = true := fun t ht => by
                  obtain ⟨e, he, rfl⟩ := List.mem_map.mp ht
                  have hw := w' e he
                  cases e with
                  | str x => exact word_lay hw
                  | _ => exact nomatch hw
                have A3' := A3
                rw [eb] at A3'
                have ev := dps_strV A3'
                have lss : (ds.map strOfD).length = ds.length := List.length_map _
                generalize ds.map strOfD = ss at eb es okS ev lss
                have S3' : SqT K H' a3 (ss.map V.str) := by
                  rw [← ev]
                  exact same_seqT s' S3
                have hS' := same_seqT s' hS
                refine ⟨_, rfl, .inr (.inl ⟨p, _, 2, .ref a3, rfl, rfl, hS', atI_nat (j := 2) rfl, a3, _, rfl, .inr S3', fun l nl => ?_⟩)⟩
                have sl : Same H' (upd H' l (.lst (ss.map V.str))) := same_upd nl
                refine ⟨_, rfl, .inr (.inl ⟨p, _, 2, .ref a3, rfl, rfl, same_seqT sl hS', atI_nat (j := 2) rfl, a3, ss, rfl, same_seqT sl S3', by omega, fun a l2 na hm hl2 => ⟨a, l2, rfl, upd_same, by omega, fun ts p2 hs pm nd np => ?_⟩⟩)⟩
                have sa := same_upd (o := TxO P w a l2) na
                have sp := same_upd (o := HO.lst (ts.map V.str)) np
                have okT : ∀ t ∈ ts, PyData.strOk t = true := fun t ht => okS t ((hm t).mp (pm.mem_iff.mp ht))
                refine ⟨.list (ss.map PyData.str), .list (ts.map PyData.str), .lst (SqL.of (sp _ _ (sa _ _ upd_same))) (dps_strs ss), .lst (SqL.of upd_same) (dps_strs ts), shaped_texts okS, shaped_texts okT, _, rfl, ?_⟩
                have s8 : Same H' _ := (sl.trans sa).trans sp
                have iff := sorted_set_iff hm nd hs pm
                rw [eqv_texts]
                by_cases e9 : ss = ts
                · rw [decide_eq_true e9]
                  refine iteF ?_
                  rw [iff.mp e9] at es
                  have s9 := s'.trans s8
                  refine ⟨_, rfl, .inr (.inl ⟨p, _, 3, .ref a4, rfl, rfl, same_seqT s9 hS, atI_nat (j := 3) rfl, a4, rfl, ⟨xs4, same_seqT s9 S4⟩, fun D nD => lc_flags (K := K) (walk_tup (xs := xs4)) (dps_same s9 A4) nD (by omega) (fun H2 s2 => same_seqT (s9.trans s2) S4) (slotD ss)
                    (fun j x e H2 Q2 he s2 dx k2 => ?_) fun H2 s2 hD2 => ⟨D, _, rfl, SqL.of hD2, ?_⟩⟩)⟩
                  · cases dx with
                    | non => exact ⟨_, rfl, rfl, _, rfl, iteD rfl (k2 H2 fun _ _ z => z)⟩
                    | bl c => exact ⟨_, rfl, rfl, _, rfl, iteDN (fun z => nomatch z) ⟨_, rfl, ⟨_, _, rfl, .bl c, false, (show kitB "bool" "str" = some false by decide +kernel), _, rfl, iteF (k2 H2 fun _ _ z => z)⟩⟩⟩
                    | int c => exact ⟨_, rfl, rfl, _, rfl, iteDN (fun z => nomatch z) ⟨_, rfl, ⟨_, _, rfl, .int c, false, (show kitB "int" "str" = some false by decide +kernel), _, rfl, iteF (k2 H2 fun _ _ z => z)⟩⟩⟩
                    | lst h1 h2 => exact ⟨_, rfl, rfl, _, rfl, iteDN (fun z => nomatch z) ⟨_, rfl, ⟨_, _, rfl, .lst h1 h2, false, (show kitB "list" "str" = some false by decide +kernel), _, rfl, iteF (k2 H2 fun _ _ z => z)⟩⟩⟩
                    | tup h1 h2 => exact ⟨_, rfl, rfl, _, rfl, iteDN (fun z => nomatch z) ⟨_, rfl, ⟨_, _, rfl, .tup h1 h2, false, (show kitB "tuple" "str" = some false by decide +kernel), _, rfl, iteF (k2 H2 fun _ _ z => z)⟩⟩⟩
                    | str c =>
                      refine ⟨_, rfl, rfl, _, rfl, iteDN (fun z => nomatch z) ⟨_, rfl, ⟨_, _, rfl, .str c, true, (show kitB "str" "str" = some true by decide +kernel), _, rfl, iteT ⟨_, rfl, _, rfl, .inr (.inl ⟨p, _, 2, .ref a3, rfl, rfl, same_seqT (s9.trans s2) hS, atI_nat (j := 2) rfl, a3, _, rfl, .inr (same_seqT (s8.trans s2) S3'), rfl, flat_strs ss, ?_⟩)⟩⟩⟩⟩
                      rw [in_strs]
                      exact k2 H2 fun _ _ z => z
                  · have q1 := q _ (s9.trans s2)
                    rw [es] at q1
                    have ea : (fs.map (slotD ss)).all id = slotsD ss (.tuple fs) := by
                      rw [List.all_map]
                      rfl
                    rw [ea]
                    exact q1
                · rw [decide_eq_false e9]
                  refine iteT (q0 ?_ _ (s'.trans s8))
                  have na : ascS ss = false := by
                    cases z : ascS ss with
                    | false => rfl
                    | true => exact absurd (iff.mpr z) e9
                  rw [es, na]
                  rfl
end
end KV

namespace KV
open PySem PySem.Spec PyProof.Rows L2 RZ
/-! ### literal data -/
def tDat (K : PySem.W.Frag) (B : List Addr) (d : PyData) : TE := fun _ H Q => Live B H ∧ ∀ (v : V) (H' : Hp), Same H H' → Dp K (hide B H') v d → Q v H'
def tDats (K : PySem.W.Frag) (B : List Addr) (ds : List PyData) : TA := fun _ H Q => Live B H ∧ ∀ (vs : List V) (H' : Hp), Same H H' → DpAll K (hide B H') vs ds → Q vs H'
section
variable {X : Cx} {K : PySem.W.Frag} {B : List Addr} {e : Expr} {es : List Expr} {d : PyData} {ds : List PyData} {pos : Pos}
theorem pd_c {v : V} (he : PE X e (tC v)) (hd : ∀ H : Hp, Dp K H v d) : PE X e (tDat K B d) := ⟨fun pins s σ H Q I h => he.run pins s σ H Q I (h.2 v H (fun _ _ z => z) (hd _))⟩
theorem pds_nil : PA X [] (tDats K B []) := ⟨fun pos pins s σ H Q I h => pa_nil.run pos pins s σ H Q I (h.2 [] H (fun _ _ z => z) .nil)⟩
theorem pds_cons (he : PE X e (tDat K B d)) (hs : PA X es (tDats K B ds)) (h1 : starEach (e :: es) X.env = (false, eval e X.env) :: starEach es X.env := by rfl) : PA X (e :: es) (tDats K B (d :: ds)) :=
  ⟨fun pos pins s σ H Q I h => (pa_cons he hs h1).run pos pins s σ H Q I ⟨h.1, fun v H1 s1 dv => ⟨h.1.same s1, fun vs H2 s2 dvs => h.2 (v :: vs) H2 (s1.trans s2) (.cons (dp_same (hide_of_same s2) dv) dvs)⟩⟩⟩
theorem pd_tup {k : Nat} (hs : PA X es (tDats K B ds)) (hz : ds.length ≤ 1000 := by decide) : PE X (.Tuple es k pos) (tDat K B (.tuple ds)) :=
  ⟨fun pins s σ H Q I h => (pe_tup hs).run pins s σ H Q I ⟨h.1, fun vs H1 s1 dvs => ⟨by have := dps_len dvs; exact Nat.le_of_lt (small1000 (by omega)), fun p np => h.2 _ _ (s1.trans (same_upd np)) (dp_new (h.1.same s1) np dvs)⟩⟩⟩
theorem pd_lst (hs : PA X es (tDats K B ds)) (hz : ds.length ≤ 1000 := by decide) : PE X (.List es pos) (tDat K B (.list ds)) :=
  ⟨fun pins s σ H Q I h => (pe_lst hs).run pins s σ H Q I ⟨h.1, fun vs H1 s1 dvs => ⟨by have := dps_len dvs; exact Nat.le_of_lt (small1000 (by omega)), fun p np => h.2 _ _ (s1.trans (same_upd np)) (dp_newL (h.1.same s1) np dvs)⟩⟩⟩
theorem pd_int {i : Int} {j} : PE X (.Constant (.int i) j pos) (tDat K B (.int i)) := pd_c pe_int fun _ => .int i
theorem pd_str {x : Str} {j} : PE X (.Constant (.str x) j pos) (tDat K B (.str x)) := pd_c pe_str fun _ => .str x
theorem pd_bl {b : Bool} {j} : PE X (.Constant (.bool b) j pos) (tDat K B (.bool b)) := pd_c pe_bl fun _ => .bl b
theorem pd_non {j} : PE X (.Constant .none j pos) (tDat K B .none) := pd_c pe_non fun _ => .non
end
/-- a list that is there, and its data -/
def OddAt (K : PySem.W.Frag) (B : List Addr) (H : Hp) (a : Addr) (ds : List PyData) : Prop := ∃ xs, H a = some (.lst xs) ∧ DpAll K (hide B H) xs ds ∧ xs.length = ds.length
theorem OddAt.same {K : PySem.W.Frag} {B : List Addr} {H H' : Hp} {a : Addr} {ds : List PyData} (h : OddAt K B H a ds) (s : Same H H') : OddAt K B H' a ds := by
  obtain ⟨xs, h1, h2, h3⟩ := h
  exact ⟨xs, s _ _ h1, dps_same (hide_of_same s) h2, h3⟩
/-- odd = odd + [..] of literal data -/
theorem odd_more {K : PySem.W.Frag} {B : List Addr} {i : Nat} {ds es : List PyData} {σ : L2.St} {H : Hp} {a : Addr} {Q : VK} (hσ : σ[i]? = some (some (.ref a))) (lv : Live B H) (h : OddAt K B H a ds) (hz : ds.length + es.length ≤ 1000)
    (q : ∀ (p : Addr) (H' : Hp), Same H H' → OddAt K B H' p (ds ++ es) → p ∉ B → Q (.ref p) H') : tOp rCat (tVar i) (tLst (tDats K B es)) σ H Q := by
  refine ⟨_, hσ, lv, fun vs H1 s1 dvs => ?_⟩
  obtain ⟨xs, h1, h2, h3⟩ := h
  have hl := dps_len dvs
  refine ⟨Nat.le_of_lt (small1000 (by omega)), fun p np => ⟨a, p, xs, vs, rfl, rfl, same_upd np _ _ (s1 _ _ h1), upd_same, Nat.le_of_lt (small1000 (by omega)), fun p2 np2 => ?_⟩⟩
  have lv1 := lv.same s1
  have u1 : Same H1 (upd H1 p (.lst vs)) := same_upd np
  refine q p2 _ ((s1.trans u1).trans (same_upd np2)) ⟨xs ++ vs, upd_same, ?_, by rw [List.length_append, List.length_append]; omega⟩ ((lv1.upd (p := p)).new np2)
  exact dps_same (hide_of_same (same_upd (o := HO.lst (xs ++ vs)) np2)) (dps_app (dps_same (hide_of_same (s1.trans u1)) h2) (dps_same (hide_of_same u1) dvs))
end KV

namespace KV
open PySem PySem.Spec PyProof.Rows L2 RZ
/-! ### t[::-1] of a tuple -/
section
variable {prog : Program} {w : World} {A : Around} {E : Value → Shared → Prop} {s : Shared}
theorem sa_rev {sl : Addr} {vl vu vs : Value} {n : Nat} {Q : Int × Int × Nat → Shared → Prop} (hs : s.heap.IsSliceOf sl vl vu vs) (pl : IsPart vl none) (pu : IsPart vu none) (ps : IsPart vs (some (-1)))
    (h : Q ((n : Int) - 1, -1, n) s) : wpAny (model prog w) A (Builtin.Slice.sliceApplied (.ref sl) (pure (n : Int))) Q E s := by
  obtain ⟨os, hos, hcs, hds⟩ := id hs
  unfold Builtin.Slice.sliceApplied Builtin.Slice.sliceFields
  refine wpAny_bind (wpAny_bind (wpAny_field hos hds (x := vl) rfl (wpAny_bind (wpAny_field hos hds (x := vu) rfl (wpAny_bind (wpAny_field hos hds (x := vs) rfl (wpAny_pure ?_)))))))
  refine wpAny_bind (HT.slicePart_ ps ?_)
  show wpAny _ _ (if ((-1 : Int) == 0) = true then _ else _) _ _ s
  rw [if_neg (by decide)]
  refine wpAny_bind (HT.slicePart_ pl (wpAny_bind (HT.slicePart_ pu (wpAny_bind (wpAny_pure ?_)))))
  have e : Builtin.Slice.sliceAdjust none none (-1) (n : Int) = ((n : Int) - 1, -1) := by
    simp [Builtin.Slice.sliceAdjust]
  have e2 : Builtin.Slice.slicePlaces ((n : Int) - 1) (-1) (-1) = n := by
    unfold Builtin.Slice.slicePlaces
    simp
    omega
  show wpAny _ _ (match Builtin.Slice.sliceAdjust none none (-1) (n : Int) with | (lo, hi) => pure (lo, (-1 : Int), Builtin.Slice.slicePlaces lo hi (-1))) _ _ s
  rw [e]
  show wpAny _ _ (pure ((n : Int) - 1, (-1 : Int), Builtin.Slice.slicePlaces ((n : Int) - 1) (-1) (-1))) _ _ s
  rw [e2]
  exact wpAny_pure h
theorem fm_congr {α β : Type} {f g : α → Option β} : ∀ l : List α, (∀ x ∈ l, f x = g x) → l.filterMap f = l.filterMap g
  | [], _ => rfl
  | x :: l, h => by
    rw [List.filterMap_cons, List.filterMap_cons, h x List.mem_cons_self, fm_congr l fun y hy => h y (List.mem_cons_of_mem _ hy)]
theorem fm_all {α : Type} : ∀ l : List α, (List.range l.length).filterMap (fun k => l[k]?) = l
  | [] => rfl
  | x :: l => by
    rw [List.length_cons, List.range_succ_eq_map, List.filterMap_cons]
    show x :: (((List.range l.length).map Nat.succ).filterMap fun k => (x :: l)[k]?) = _
    rw [List.filterMap_map]
    exact congrArg (x :: ·) (fm_all l)
theorem pick_rev (xs : Array Value) : ((List.range xs.size).filterMap fun (k : Nat) => xs[((xs.size : Int) - 1 + (k : Int) * -1).toNat]?) = xs.toList.reverse := by
  have e1 : ((List.range xs.size).filterMap fun (k : Nat) => xs[((xs.size : Int) - 1 + (k : Int) * -1).toNat]?) = (List.range xs.size).filterMap fun (k : Nat) => xs.toList.reverse[k]? := by
    refine fm_congr _ fun k hk => ?_
    have hk := List.mem_range.mp hk
    have e : ((xs.size : Int) - 1 + (k : Int) * -1).toNat = xs.size - 1 - k := by omega
    rw [e, List.getElem?_reverse (by rw [Array.length_toList]; exact hk), Array.length_toList, Array.getElem?_toList]
  have hl : xs.size = xs.toList.reverse.length := by rw [List.length_reverse, Array.length_toList]
  rw [e1, hl]
  exact fm_all _
theorem gi_rev {t sl : Addr} {items : Array Value} {vl vu vs : Value} {Q : Value → Shared → Prop} (ht : IsTup s.heap t items) (hs : s.heap.IsSliceOf sl vl vu vs) (pl : IsPart vl none) (pu : IsPart vu none) (ps : IsPart vs (some (-1)))
    (h : Q (.ref s.heap.objs.size) { s with heap := s.heap.push { cls := .type "tuple", data := .seq items.toList.reverse.toArray } }) (hsz : items.size ≤ sizeLine) : wpAny (model prog w) A (getItem (.ref t) (.ref sl)) Q E s := by
  have hz : sizeOk (.seq items.toList.reverse.toArray) := by
    show items.toList.reverse.toArray.size ≤ sizeLine
    rw [List.size_toArray, List.length_reverse, Array.length_toList]
    exact hsz
  obtain ⟨os, hos, hcs, hds⟩ := id hs
  unfold getItem
  try with_reducible refine wpAny_holding ?_
  first | refine wpAny_bind (wpAny_pure ?_) | skip
  refine wpAny_bind (wpAny_sequenceKey ht.typeIs (by decide) ?_)
  refine wpAny_bind (wpAny_callSpecial?_slot (name := Str.ofString "__getitem__") ht.typeIs PyProof.Rows.slot_tuple_getitem (wpAny_call_entry PyProof.Rows.slot_tuple_getitem ht.typeIs entry_tuple_getitem ?_ (args_tuple_getitem _ _)))
  show wpAny _ _ (Builtin.Tuple.tupleItemsOf (.ref t) >>= _) _ _ s
  refine wpAny_bind (tupleItemsOf_ ht (wpAny_bind (wpAny_typeOf (T := "slice") ⟨os, hos, hcs⟩ ?_)))
  rw [if_pos (by decide)]
  refine wpAny_bind (sa_rev hs pl pu ps ?_)
  have no : ¬ (((items.size : Int) - 1 == 0 && (-1 : Int) == 1 && items.size == items.size) = true) := by
    rw [show ((-1 : Int) == 1) = false from rfl, Bool.and_false, Bool.false_and]
    exact Bool.false_ne_true
  show wpAny _ _ (if ((items.size : Int) - 1 == 0 && (-1 : Int) == 1 && items.size == items.size) = true then _ else _) _ _ s
  rw [if_neg no, pick_rev]
  first
    | exact wpAny_bind (m := Builtin.Tuple.tupleExact _) (wpAny_newObj_type (wpAny_pure ⟨_, rfl, wpAny_pure h⟩) hz)
    | exact wpAny_bind (m := Builtin.Tuple.tupleExact _) (wpAny_newObj_type (wpAny_bind (wpAny_pure (wpAny_pure ⟨_, rfl, wpAny_pure h⟩))) hz)
end
section
variable {X : Cx}
def tRevT (K : PySem.W.Frag) (te : TE) : TE := fun σ H Q => te σ H fun x H1 => ∃ a xs, x = .ref a ∧ SqT K H1 a xs ∧ ∀ p, H1 p = none → Q (.ref p) (upd H1 p (.tup xs.reverse))
theorem pe_revT {e : Expr} {te : TE} {k : Nat} {p1 p2 p3 pos : Pos} (he : PE X e te) : PE X (.Subscript e (.Slice none none (some (.UnaryOp .USub (.Constant (.int 1) k p1) p2)) p3) pos) (tRevT X.K te) := by
  refine ⟨fun pins s σ H Q I h => Subscript_ (thn (he.run pins s σ H _ I h) fun v s1 ⟨x, H1, I1, r1, a, xs, ex, hx, q⟩ => ?_)⟩
  subst ex
  cases r1
  have neg : PO X (some (.UnaryOp .USub (.Constant (.int 1) k p1) p2)) (tPart (tUn (rU fun i => .int (-i)) (tC (.int 1)))) := po_some (pe_un un_neg pe_int)
  refine wpAny_Slice (thn (po_none.run pins s1 σ H1 (fun o H2 => o = none ∧ H2 = H1) I1 ⟨rfl, rfl⟩) fun vl s2 ⟨l, H2, I2, pl, el, e2⟩ => ?_)
  subst el e2
  refine thn (po_none.run pins s2 σ H2 (fun o H3 => o = none ∧ H3 = H2) I2 ⟨rfl, rfl⟩) fun vu s3 ⟨u, H3, I3, pu, eu, e3⟩ => ?_
  subst eu e3
  refine thn (neg.run pins s3 σ H3 (fun o H4 => o = some (-1) ∧ H4 = H3) I3 ⟨1, rfl, -1, rfl, rfl, rfl⟩) fun vs s4 ⟨o, H4, I4, ps, eo, e4⟩ => ?_
  subst eo e4
  have I5 : Inv X pins σ H4 { s4 with heap := s4.heap.push { cls := .type "slice", data := .fields #[vl, vu, vs] } } := I4.kept (t' := s4.toks) fun b ob q => Heap.get?_push_of_some _ q
  obtain ⟨its, r, ht, hz⟩ := I5.tuple hx
  have hlen := r.length
  show wpAny (model X.prog X.w) X.A (subscriptTail e (.Slice none none (some (.UnaryOp .USub (.Constant (.int 1) k p1) p2)) p3) (.ref a) (.ref s4.heap.objs.size)) (EP X pins σ Q) X.xe { s4 with heap := s4.heap.push { cls := .type "slice", data := .fields #[vl, vu, vs] } }
  refine tail_any (ops := [.ref a, .ref s4.heap.objs.size]) ht.typeIs (PyProof.Rows.slot_tuple_getitem.lookup) (gi_rev (items := its.toArray) ht (Heap.IsSliceOf.new _ vl vu vs) pl pu ps ?_ (by rw [List.size_toArray]; omega)) (by with_unfolding_all rfl)
  refine ⟨.ref _, _, I5.laid (t' := s4.toks) (o := .tup xs.reverse) (fun b ob q => Heap.get?_push_of_some _ q) (Nat.le_refl _) ?_, rfl, q _ (I5.hok.fresh (Nat.le_refl _))⟩
  exact ⟨by rw [List.length_reverse]; exact hz, _, r.reverse, IsTup.new _ _⟩
end
end KV

namespace KV
open PySem PySem.Spec PyProof.Rows L2 RZ
theorem word_parts {x : Str} (h : wordS x = true) : 0 < x.length ∧ x.length ≤ 8 ∧ x.cps.toList.all isLet = true := by
  have z : (decide (0 < x.length) && decide (x.length ≤ 8) && x.cps.toList.all fun c => decide (97 ≤ c) && decide (c ≤ 122)) = true := h
  rw [Bool.and_eq_true, Bool.and_eq_true, decide_eq_true_eq, decide_eq_true_eq] at z
  exact ⟨z.1.1, z.1.2, z.2⟩
theorem word_is {x : Str} (h : wordS x = true) : isWordD (.str x) 8 = true := h
theorem word_lf1 {x : Str} (h : wordS x = true) : lf1 (.str x) = true := by
  obtain ⟨h1, h2, h3⟩ := word_parts h
  show (decide (x.length ≤ 15) && x.cps.toList.all fun c => decide (c < 128)) = true
  rw [Bool.and_eq_true, decide_eq_true_eq]
  refine ⟨by omega, ?_⟩
  rw [List.all_eq_true] at h3 ⊢
  intro c hc
  have z : (decide (97 ≤ c) && decide (c ≤ 122)) = true := h3 c hc
  rw [Bool.and_eq_true, decide_eq_true_eq, decide_eq_true_eq] at z
  exact decide_eq_true (by omega)
theorem strOf_map (ps : List Str) : (ps.map PyData.str).map strOfD = ps := by
  rw [List.map_map]
  exact List.map_id ps
theorem setup_good {l : Nat} {d : PyData} (h : SetupD l d) : gD lf1 5 d 3 = true := by
  obtain ⟨sp, rm, ps, ss, rfl, a1, a2, a3, a4, wp, asc, _, lp, ls, hs⟩ := h
  have gp : gDs lf1 5 (ps.map PyData.str) 1 = true := gDs_of fun e he => by
    obtain ⟨p, hp, rfl⟩ := List.mem_map.mp he
    simp only [gD]
    exact word_lf1 (wp p hp)
  have gs : gDs lf1 5 ss 1 = true := gDs_of fun e he => by
    rcases hs e he with rfl | ⟨p, hp, rfl⟩
    · simp only [gD]
    · simp only [gD]
      exact word_lf1 (wp p hp)
  have g1 : gD lf1 5 (.int sp) 2 = true := by
    simp only [gD]
    exact decide_eq_true (by omega)
  have g2 : gD lf1 5 (.int rm) 2 = true := by
    simp only [gD]
    exact decide_eq_true (by omega)
  refine (gD_mk (m := 2) (by show 4 ≤ 5; decide) (gDs_of fun e he => ?_)).2
  rcases List.mem_cons.mp he with rfl | he
  · exact g1
  rcases List.mem_cons.mp he with rfl | he
  · exact g2
  rcases List.mem_cons.mp he with rfl | he
  · exact (gD_mk (m := 1) (by rw [List.length_map]; omega) gp).2
  · rw [List.mem_singleton.mp he]
    exact (gD_mk (m := 1) (by omega) gs).2
theorem setup_is {l : Nat} {d : PyData} (h : SetupD l d) : isSetupD d = true := by
  obtain ⟨sp, rm, ps, ss, rfl, a1, a2, a3, a4, wp, asc, _, lp, ls, hs⟩ := h
  have n1 : isNumD (.int sp) 1 = true := decide_eq_true a1
  have n2 : isNumD (.int rm) 1 = true := decide_eq_true a3
  have n3 : areNamesD (.tuple (ps.map PyData.str)) = true := by
    show ((ps.map PyData.str).all (fun e => isWordD e 8) && ascS ((ps.map PyData.str).map strOfD)) = true
    rw [strOf_map, asc, Bool.and_true, List.all_map, List.all_eq_true]
    exact fun p hp => word_is (wp p hp)
  have n4 : slotsD (pipesD (.tuple (ps.map PyData.str))) (.tuple ss) = true := by
    show ss.all (slotD ((ps.map PyData.str).map strOfD)) = true
    rw [strOf_map, List.all_eq_true]
    intro e he
    rcases hs e he with rfl | ⟨p, hp, rfl⟩
    · rfl
    · exact decide_eq_true hp
  show (isNumD (.int sp) 1 && isNumD (.int rm) 1 && areNamesD (.tuple (ps.map PyData.str)) && slotsD (pipesD (.tuple (ps.map PyData.str))) (.tuple ss)) = true
  rw [n1, n2, n3, n4]
  rfl
theorem bulk_fits : 132 * bulkN 6 4 + 130 ≤ 16777216 := by decide +kernel
end KV

namespace KV
open PySem PySem.Spec PyProof.Rows L2 RZ
/-! ### repr of any data, also of what stands nowhere in the heap -/
def rReprA (K : PySem.W.Frag) : List V → Hp → VK → Prop := fun vs H Q => ∃ v d, vs = [v] ∧ Dp K H v d ∧ d.showable = true ∧ d.hasDict = false ∧ d.depth ≤ 60 ∧ d.shown.length ≤ sizeLine ∧ Q (.str d.shown) H
section
variable {X : Cx}
theorem cr_reprA (hg : X.A.guards = some []) (hu : X.A.units + 64 < cLine) : CallR X (.builtin "repr") (rReprA X.K) := by
  intro pins s σ H vs us Q I r h
  obtain ⟨v, d, rfl, hd, hs, hn, hdp, hz, q⟩ := h
  cases hd with
  | non =>
    obtain ⟨u, rfl, ru⟩ := vals1 r
    cases ru
    exact PySem.P.repr_of_none ⟨.str _, H, I.tok _, ⟨_, rfl⟩, q⟩
  | bl b =>
    obtain ⟨u, rfl, ru⟩ := vals1 r
    cases ru
    refine PySem.P.repr_of_bool ⟨.str _, H, I.tok _, ⟨_, rfl⟩, ?_⟩
    cases b <;> exact q
  | int i =>
    obtain ⟨u, rfl, t, rfl⟩ := vals1 r
    refine PySem.P.repr_of_int ?_ ⟨.str _, H, I.tok _, ⟨_, rfl⟩, q⟩
    simpa only [PyData.showable, decide_eq_true_eq] using hs
  | str x =>
    obtain ⟨u, rfl, t, rfl⟩ := vals1 r
    exact PySem.P.repr_of_str ⟨.str _, H, I.tok _, ⟨_, rfl⟩, q⟩ hz
  | lst h1 h2 => exact cr_repr hg hu pins s σ H [_] us Q I r ⟨_, _, rfl, ⟨_, rfl⟩, .lst h1 h2, hs, hn, hdp, hz, q⟩
  | tup h1 h2 => exact cr_repr hg hu pins s σ H [_] us Q I r ⟨_, _, rfl, ⟨_, rfl⟩, .tup h1 h2, hs, hn, hdp, hz, q⟩
end
/-! ### a list of so many good data -/
def OddG (K : PySem.W.Frag) (B : List Addr) (H : Hp) (a : Addr) (n : Nat) : Prop := ∃ ds, OddAt K B H a ds ∧ gDs lf2 6 ds 4 = true ∧ ds.length = n ∧ a ∉ B
theorem OddG.same {K : PySem.W.Frag} {B : List Addr} {H H' : Hp} {a : Addr} {n : Nat} (h : OddG K B H a n) (s : Same H H') : OddG K B H' a n := by
  obtain ⟨ds, h1, h2, h3⟩ := h
  exact ⟨ds, h1.same s, h2, h3⟩
theorem gDs_app {lf : PyData → Bool} {L n : Nat} {ds es : List PyData} (h1 : gDs lf L ds n = true) (h2 : gDs lf L es n = true) : gDs lf L (ds ++ es) n = true := by
  rw [gDs_all] at *
  rw [List.all_append, h1, h2]
  rfl
theorem oddg_more {K : PySem.W.Frag} {B : List Addr} {i n : Nat} {es : List PyData} {σ : L2.St} {H : Hp} {a : Addr} {Q : VK} (lv : Live B H) (h : OddG K B H a n) (he : gDs lf2 6 es 4 = true) (hz : n + es.length ≤ 1000) (hσ : σ[i]? = some (some (.ref a)))
    (q : ∀ (p : Addr) (H' : Hp), Same H H' → OddG K B H' p (n + es.length) → Q (.ref p) H') : tOp rCat (tVar i) (tLst (tDats K B es)) σ H Q := by
  obtain ⟨ds, h1, h2, rfl, h4⟩ := h
  exact odd_more hσ lv h1 hz fun p H' s o np => q p H' s ⟨ds ++ es, o, gDs_app h2 he, by rw [List.length_append], np⟩
/-- a new list of good data beside such a one -/
theorem OddG.new {K : PySem.W.Frag} {B : List Addr} {H : Hp} {p : Addr} {xs : List V} {ds : List PyData} (lv : Live B H) (n : H p = none) (h : DpAll K (hide B H) xs ds) (g : gDs lf2 6 ds 4 = true) : OddG K B (upd H p (.lst xs)) p ds.length :=
  ⟨ds, ⟨xs, upd_same, dps_same (hide_of_same (same_upd n)) h, dps_len h⟩, g, rfl, lv.new n⟩
/-- odd + another list -/
theorem OddG.cat {K : PySem.W.Frag} {B : List Addr} {H : Hp} {a : Addr} {n : Nat} {c : Addr} {m : Nat} {Q : VK} (lv : Live B H) (h1 : OddG K B H a n) (h2 : OddG K B H c m) (hz : n + m ≤ 1000)
    (q : ∀ (p : Addr) (H' : Hp), Same H H' → OddG K B H' p (n + m) → Q (.ref p) H') : rCat (.ref a) (.ref c) H Q := by
  obtain ⟨ds, ⟨xs, a1, a2, a3⟩, g1, rfl, _⟩ := h1
  obtain ⟨es, ⟨ys, b1, b2, b3⟩, g2, rfl, _⟩ := h2
  refine ⟨a, c, xs, ys, rfl, rfl, a1, b1, Nat.le_of_lt (small1000 (by omega)), fun p np => ?_⟩
  exact q p _ (same_upd np) ⟨ds ++ es, ⟨xs ++ ys, upd_same, dps_same (hide_of_same (same_upd np)) (dps_app a2 b2), by rw [List.length_append, List.length_append]; omega⟩, gDs_app g1 g2, by rw [List.length_append], lv.new np⟩
end KV

namespace KV
open PySem PySem.Spec PyProof.Rows L2 RZ
theorem lstDs_map' : ∀ ds, lstDs ds = ds.map lstD := lstDs_map
mutual
theorem gD_lst {lf : PyData → Bool} {L : Nat} : ∀ (d : PyData) (n : Nat), gD lf L d n = true → gD lf L (lstD d) n = true
  | .list xs, n, h => by
    obtain ⟨m, rfl, h1, h2⟩ := gD_seq (.inl rfl) h
    simp only [lstD]
    exact (gD_mk (by rw [lstDs_len]; exact h1) (gDs_lst xs m h2)).1
  | .tuple xs, n, h => by
    obtain ⟨m, rfl, h1, h2⟩ := gD_seq (.inr rfl) h
    simp only [lstD]
    exact (gD_mk (by rw [lstDs_len]; exact h1) (gDs_lst xs m h2)).1
  | .none, _, h => by simpa only [lstD] using h
  | .bool _, _, h => by simpa only [lstD] using h
  | .int i, _, h => by simpa only [lstD] using h
  | .str i, _, h => by simpa only [lstD] using h
  | .dict _, _, h => by simpa only [lstD] using h
theorem gDs_lst {lf : PyData → Bool} {L : Nat} : ∀ (ds : List PyData) (n : Nat), gDs lf L ds n = true → gDs lf L (lstDs ds) n = true
  | [], _, h => by simp only [lstDs, gDs]
  | d :: ds, n, h => by
    simp only [gDs, Bool.and_eq_true] at h
    simp only [lstDs, gDs, Bool.and_eq_true]
    exact ⟨gD_lst d n h.1, gDs_lst ds n h.2⟩
end
theorem gDs_up {lf : PyData → Bool} {L n : Nat} {ds : List PyData} {d : PyData} (h : gDs lf L ds n = true) (e : d ∈ ds) : gD lf L d n = true := okGet h e
/-- what is made of a drawn SETUP is good data -/
theorem setup_forms {l : Nat} {sp rm : Int} {ps : List Str} {ss : List PyData} (h : SetupD l (.tuple [.int sp, .int rm, .tuple (ps.map PyData.str), .tuple ss])) :
    gDs lf2 6 [.tuple [.int sp, .int rm, .tuple (ps.map PyData.str), .tuple ss], .list [.int sp, .int rm, .tuple (ps.map PyData.str), .tuple ss], lstD (.tuple [.int sp, .int rm, .tuple (ps.map PyData.str), .tuple ss]),
      .tuple [.int sp, .int rm, .tuple (ps.map PyData.str)], .tuple [.int sp, .int rm, .tuple (ps.map PyData.str), .tuple ss, .int 0]] 4 = true ∧
    gDs lf2 6 [.tuple [.int sp, .int rm, .tuple (ps.map PyData.str), .tuple (ss ++ [.str "zz"])], .tuple [.int sp, .int rm, .tuple (ps.map PyData.str).reverse, .tuple ss]] 4 = true := by
  have g := setup_good h
  have g4 : gD lf2 6 (.tuple [.int sp, .int rm, .tuple (ps.map PyData.str), .tuple ss]) 4 = true := gD_mono lf12 (by decide) _ 3 4 (by decide) g
  obtain ⟨m, hm, _, ge⟩ := gD_seq (.inr rfl) g4
  have em : m = 3 := by omega
  subst em
  simp only [gDs, Bool.and_eq_true] at ge
  obtain ⟨i1, i2, i3, i4, _⟩ := ge
  obtain ⟨m3, hm3, l3, q3⟩ := gD_seq (.inr rfl) i3
  obtain ⟨m4, hm4, l4, q4⟩ := gD_seq (.inr rfl) i4
  have em3 : m3 = 2 := by omega
  have em4 : m4 = 2 := by omega
  subst em3 em4
  have l4' : ss.length ≤ 5 := by
    obtain ⟨m', hm', _, ge'⟩ := gD_seq (.inr rfl) g
    simp only [gDs, Bool.and_eq_true] at ge'
    obtain ⟨m'', _, k, _⟩ := gD_seq (.inr rfl) ge'.2.2.2.1
    exact k
  have z0 : gD lf2 6 (.int 0) 3 = true := by decide
  have s4 : gD lf2 6 (.tuple (ss ++ [.str "zz"])) 3 = true := (gD_mk (m := 2) (by rw [List.length_append]; show ss.length + 1 ≤ 6; omega) (gDs_app q4 (by decide))).2
  have r3 : gD lf2 6 (.tuple (ps.map PyData.str).reverse) 3 = true := (gD_mk (m := 2) (by rw [List.length_reverse]; exact l3) (gDs_of fun e he => okGet q3 (List.mem_reverse.mp he))).2
  have n0 : gDs lf2 6 [] 3 = true := by simp only [gDs]
  have t4 : gDs lf2 6 [.int sp, .int rm, .tuple (ps.map PyData.str), .tuple ss] 3 = true := by simp only [gDs, i1, i2, i3, i4, Bool.and_self]
  refine ⟨?_, ?_⟩
  · have a2 := (gD_mk (m := 3) (L := 6) (xs := [.int sp, .int rm, .tuple (ps.map PyData.str), .tuple ss]) (by show 4 ≤ 6; decide) t4).1
    have a3 := gD_lst _ 4 g4
    have a4 := (gD_mk (lf := lf2) (m := 3) (L := 6) (xs := [.int sp, .int rm, .tuple (ps.map PyData.str)]) (by show 3 ≤ 6; decide) (by simp only [gDs, i1, i2, i3, Bool.and_self])).2
    have a5 := (gD_mk (lf := lf2) (m := 3) (L := 6) (xs := [.int sp, .int rm, .tuple (ps.map PyData.str), .tuple ss, .int 0]) (by show 5 ≤ 6; decide) (by simp only [gDs, i1, i2, i3, i4, z0, Bool.and_self])).2
    rw [gDs, gDs, gDs, gDs, gDs, gDs, g4, a2, a3, a4, a5]
    rfl
  · have a2 := (gD_mk (lf := lf2) (m := 3) (L := 6) (xs := [.int sp, .int rm, .tuple (ps.map PyData.str), .tuple (ss ++ [.str "zz"])]) (by show 4 ≤ 6; decide) (by simp only [gDs, i1, i2, i3, s4, Bool.and_self])).2
    have a3 := (gD_mk (lf := lf2) (m := 3) (L := 6) (xs := [.int sp, .int rm, .tuple (ps.map PyData.str).reverse, .tuple ss]) (by show 4 ≤ 6; decide) (by simp only [gDs, i1, i2, r3, i4, Bool.and_self])).2
    rw [gDs, gDs, gDs, a2, a3]
    rfl
/-! ### tuples of data: x + y, and the other way about -/
theorem dps_rev {K : PySem.W.Frag} {H : Hp} : ∀ {vs : List V} {ds : List PyData}, DpAll K H vs ds → DpAll K H vs.reverse ds.reverse
  | [], _, h => by
    cases h
    exact .nil
  | v :: vs, _, h => by
    cases h with
    | cons h1 h2 =>
      rw [List.reverse_cons, List.reverse_cons]
      exact dps_snoc (dps_rev h2) h1
theorem catA_dp {K : PySem.W.Frag} {B : List Addr} {H : Hp} {x y : V} {ds es : List PyData} {Q : VK} (lv : Live B H) (da : Dp K (hide B H) x (.tuple ds)) (db : Dp K (hide B H) y (.tuple es)) (hz : ds.length + es.length ≤ 1000)
    (q : ∀ (r : V) (H' : Hp), Same H H' → Dp K (hide B H') r (.tuple (ds ++ es)) → Q r H') : rCatA K x y H Q := by
  obtain ⟨a, xs, rfl, sa, dx⟩ := dp_tupR da
  obtain ⟨c, ys, rfl, sc, dy⟩ := dp_tupR db
  have l1 := dps_len dx
  have l2 := dps_len dy
  refine ⟨a, c, xs, ys, rfl, rfl, same_seqT (hide_same B H) sa, same_seqT (hide_same B H) sc, Nat.le_of_lt (small1000 (by omega)), fun e => ?_, fun _ e => ?_, fun _ _ p np => ?_⟩
  · subst e
    cases dx
    exact q _ H (Same.refl _) db
  · subst e
    cases dy
    refine q _ H (Same.refl _) ?_
    rw [List.append_nil]
    exact da
  · exact q _ _ (same_upd np) (dp_new lv np (dps_app dx dy))
/-- what is at an address that is none of those that changed -/
theorem OddG.sameX {K : PySem.W.Frag} {b D : Addr} {H H' : Hp} {a : Addr} {n : Nat} (h : OddG K [b] H a n) (s : SameX [D, b] H H') (nD : H D = none) : OddG K [b] H' a n := by
  obtain ⟨ds, ⟨xs, h1, h2, h3⟩, g, hn, na⟩ := h
  have ne : a ≠ D := fun e => by
    rw [e, nD] at h1
    cases h1
  refine ⟨ds, ⟨xs, s _ _ (fun z => ?_) h1, ?_, h3⟩, g, hn, na⟩
  · rcases List.mem_cons.mp z with z | z
    · exact ne z
    · exact na z
  · exact dps_same hide_leave (dps_same (SameX.enter (C := [b]) s (fun _ z => z) nD) h2)
end KV

namespace KV
open PySem PySem.Spec PyProof.Rows L2 RZ
theorem right_loop {K : PySem.W.Frag} {H23 : Hp} {b p a3 a4 p23 : Addr} {sp rm : Int} {ps : List Str} {ss : List PyData} {n l : Nat} {D0 : Ends} (hS : SetupD l (.tuple [.int sp, .int rm, .tuple (ps.map PyData.str), .tuple ss]))
    (d23 : Dp K (hide [b] H23) (.ref p) (.tuple [.int sp, .int rm, .tuple (ps.map PyData.str), .tuple ss])) (b23 : BoxAt H23 b (n + 400)) (hn : n ≤ 2 ^ 20) (o23' : OddG K [b] H23 p23 29)
    (q : ∀ H', SameX [b] H23 H' → BoxAt H' b (n + 1000) → D0.rt (.bl true) H') :
    tSeq
            (tFor
              (iList
                K
                (tOp rCat (tVar 6)
                  (tLc (iRng1 (tCons (tC (V.int 15)) tNil)) (gName 10) tYes
                    (tCall (spBent K 4) [] E0 (tCons (tVar 0) (tCons (tVar 1) tNil)))
                    [10])))
              (gName 7)
              (tSeq
                (tPar 8 9
                  (tCons
                    (tCB
                      (rReprA
                        K)
                      (tCons (tVar 7) tNil))
                    (tCons (tCall (spIsSetup K) [] E0 (tCons (tVar 7) tNil)) tNil)))
                (tIfS
                  (tOr
                    (tNot
                      (tB
                        (tCall (spSame K 8) [] E0
                          (tCons
                            (tLst
                              (tCons (tCall (spIsSetup K) [] E0 (tCons (tVar 7) tNil))
                                (tCons (tCallK (spIsSetup K) (fun vs zs => vs ++ zs) E0 tNil (tCons (tVar 7) tNil))
                                  tNil)))
                            (tCons (tLst (tCons (tVar 9) (tCons (tVar 9) tNil))) tNil)))))
                    (tTest
                      (tOp rNe
                        (tCB
                          (rReprA
                            K)
                          (tCons (tVar 7) tNil))
                        (tVar 8))))
                  (tRet (tC (V.bl false))) tNext)))
            (tRet (tOp rIsB (tCall (spIsSetup K) [] E0 (tCons (tVar 1) tNil)) (tC (V.bl true)))) D0 [some (.ref b), some (.ref p), some (.int sp), some (.int rm), some (.ref a3), some (.ref a4), some (.ref p23), none, none, none, none] H23 := by
  have g1 := setup_good hS
  have is1 := setup_is hS
  have bl23 : H23 b ≠ none := b23.live
  refine ⟨_, rfl, 15, rfl, by decide, by decide, fun D nD => lc_it (walk_range (lo := 0) (n := 15)) (fun j H3 => SameX [D, b] H23 H3 ∧ BoxAt H3 b (n + 400 + 40 * j) ∧ ∃ ds xs, H3 D = some (.lst xs) ∧ DpAll K (hide [D, b] H3) xs ds ∧ gDs lf2 6 ds 4 = true ∧ ds.length = j) ⟨?_, ?_, [], [], upd_same, .nil, by simp only [gDs], rfl⟩ (fun _ _ _ _ => trivial) ?_ ?_⟩
  · exact sameX_upd List.mem_cons_self
  · have bD : b ≠ D := fun e => bl23 (by rw [e]; exact nD)
    obtain ⟨x, y, c, z, z2⟩ := b23
    exact ⟨x, y, c, by rw [upd_ne bD]; exact z, by omega⟩
  · rintro j x H3 H3' hj ⟨s3, b3, ds, xs, hD3, dx, g, hn'⟩ ⟨rfl, rfl⟩
    have bD : b ≠ D := fun e => bl23 (by rw [e]; exact nD)
    have lvD : Live [D, b] H3' := fun c hc => by
      rcases List.mem_cons.mp hc with rfl | hc
      · rw [hD3]
        exact fun z => by cases z
      · rw [List.mem_singleton.mp hc]
        exact b3.live
    refine ⟨rfl, tYes_ok ⟨_, rfl, _, rfl, 3, [D, b], b, n + 400 + 40 * j, 5, .ref p, _, rfl, rfl, List.mem_cons_of_mem _ List.mem_cons_self, lvD, b3, by omega, by decide, dp_same (SameX.enter (C := [b]) s3 (fun _ z => z) nD) d23, g1, fun v' d' H4 g4 s4 b4 d4 => ?_⟩⟩
    have hD4 : H4 D = some (.lst xs) := s4 D _ (fun z => bD (List.mem_singleton.mp z).symm) hD3
    have sub : ∀ c ∈ [b], c ∈ [D, b] := fun c hc => List.mem_cons_of_mem _ hc
    refine ⟨xs, hD4, small1000 (by rw [dps_len dx]; omega), s3.trans ((s4.sub sub).trans (sameX_upd List.mem_cons_self)), ?_, ds ++ [d'], xs ++ [v'], upd_same, ?_, gDs_app g (by simp only [gDs, g4, Bool.and_self]), by rw [List.length_append, hn']; rfl⟩
    · obtain ⟨x, y, c, z, z2⟩ := b4
      exact ⟨x, y, c, by rw [upd_ne bD]; exact z, by omega⟩
    · rw [hide_upd_in List.mem_cons_self]
      exact dps_snoc (dps_same (s4.hide sub) dx) d4
  · rintro H3 ⟨s3, b3, ds, xs, hD3, dx, g, hn'⟩
    have bD : b ≠ D := fun e => bl23 (by rw [e]; exact nD)
    have oD : OddG K [b] H3 D 15 := ⟨ds, ⟨xs, hD3, dps_same hide_leave dx, dps_len dx⟩, g, hn', fun z => bD (List.mem_singleton.mp z).symm⟩
    have lv3' : Live [b] H3 := fun c hc => by rw [List.mem_singleton.mp hc]; exact b3.live
    refine OddG.cat lv3' (o23'.sameX s3 nD) oD (by decide) fun p24 H24 t24 o24 => ?_
    obtain ⟨ds24, ⟨xs24, h24, dx24, hl24⟩, g24, hn24, _⟩ := o24
    have d24 : Dp K (hide [b] H24) (.ref p) (PyData.tuple [PyData.int sp, PyData.int rm, PyData.tuple (List.map PyData.str ps), PyData.tuple ss]) := dp_same (hide_of_same t24) (dp_same hide_leave (dp_same (SameX.enter (C := [b]) s3 (fun _ z => z) nD) d23))
    refine ⟨p24, rfl, ⟨xs24, SqL.of h24⟩, for_it (walk_list (xs := xs24)) (fun i σ H' => ∃ y7 y8 y9, σ = [some (.ref b), some (.ref p), some (.int sp), some (.int rm), some (.ref a3), some (.ref a4), some (.ref p23), y7, y8, y9, none] ∧ Same H24 H') ⟨none, none, none, rfl, Same.refl _⟩ (fun i σ H' _ h => h.elim fun _ h => h.elim fun _ h => h.elim fun _ h => h.2.seq (SqL.of h24)) ?_ ?_⟩
    · rintro i x σ H' H'' hi ⟨y7, y8, y9, rfl, sm⟩ ⟨rfl, hx⟩
      obtain ⟨d, hd', dd⟩ := dps_get dx24 hx
      have gd : gD lf2 6 d 4 = true := okGet g24 (List.mem_of_getElem? hd')
      have dd0 : Dp K H24 x d := dp_same (hide_same [b] H24) dd
      have fx := gD_facts d 4 gd
      have dep := gD_dep d 4 gd
      have sz := gD_size gd bulk_fits
      refine ⟨_, rfl, x, d, rfl, dp_same sm dd0, fx.1, fx.2.1, by omega, sz, _, rfl, x, d, 6, 4, rfl, dp_same sm dd0, gd, by decide, fun H25 s25 => ?_⟩
      have m5 := sm.trans s25
      refine ⟨_, _, rfl, ?_⟩
      refine ⟨_, rfl, x, d, 6, 4, rfl, dp_same m5 dd0, gd, by decide, fun H26 s26 => ?_⟩
      refine ⟨_, rfl, x, d, 6, 4, rfl, dp_same (m5.trans s26) dd0, gd, by decide, fun H27 s27 => ⟨by show 2 ≤ sizeLine; decide, fun q1 n1 => ⟨_, rfl, _, rfl, by show 2 ≤ sizeLine; decide, fun q2 n2 => ?_⟩⟩⟩
      have w2 := (same_upd (o := HO.lst [.bl (isSetupD d), .bl (isSetupD d)]) n1).trans (same_upd (o := HO.lst [.bl (isSetupD d), .bl (isSetupD d)]) n2)
      refine ⟨7, .ref q1, .ref q2, .list [.bool (isSetupD d), .bool (isSetupD d)], rfl, rfl, .lst (SqL.of (same_upd n2 _ _ upd_same)) (.cons (.bl _) (.cons (.bl _) .nil)), .lst (SqL.of upd_same) (.cons (.bl _) (.cons (.bl _) .nil)), by simp [okD, okDs], fun H30 s30 => ⟨_, rfl, iteF ?_⟩⟩
      have m7 := ((m5.trans s26).trans s27).trans (w2.trans s30)
      refine ⟨_, rfl, x, d, rfl, dp_same m7 dd0, fx.1, fx.2.1, by omega, sz, _, rfl, rfl, _, rfl, iteNS rfl ?_⟩
      exact ⟨_, _, _, rfl, m7⟩
    · rintro σ H' ⟨y7, y8, y9, rfl, sm⟩
      refine ⟨_, rfl, .ref p, _, 5, 3, rfl, dp_same sm (dp_same (hide_same [b] H24) d24), gD_mono lf12 (Nat.le_refl 5) _ 3 3 (Nat.le_refl 3) g1, by decide, fun H31 s31 => ?_⟩
      rw [is1]
      have w := t24.trans (sm.trans s31)
      refine ⟨true, true, rfl, rfl, q H31 (fun c o hc e => ?_) ((b3.same w).le (by omega))⟩
      refine w c o (s3 c o (fun z => ?_) e)
      rcases List.mem_cons.mp z with z | z
      · exact ne_of_none e nD z
      · exact hc z
end KV

namespace KV
open PySem PySem.Spec PyProof.Rows L2 RZ
abbrev sRight : Stmt := topS 24
abbrev nRight : List Str := ["_law_box_here", "_law_some", "_law_space", "_law_room", "_law_pipes_so", "_law_slots_so", "_law_odd", "_law_matter", "_law_shown", "_law_due", "_law_turn"]
theorem pd_pow {X : Cx} {K : PySem.W.Frag} {B : List Addr} {j k : Nat} {p1 p2 pos : Pos} : PE X (.BinOp (.Constant (.int 10) j p1) .Pow (.Constant (.int 30) k p2) pos) (tDat K B (.int (10 ^ (30 : Int).toNat))) :=
  ⟨fun pins s σ H Q I h => (pe_op op_pow pe_int pe_int).run pins s σ H Q I ⟨10, 30, rfl, rfl, ⟨by decide, by decide, by decide⟩, h.2 _ H (fun _ _ z => z) (.int _)⟩⟩
section
variable {P : Program} {w : World} {K : PySem.W.Frag} {mg : Str → Option Value} {base : Heap}
theorem scRight : FnScope nRight ["_law_box_here"] (defScope sRight) :=
  ⟨rfl, rfl, rfl, by decide +kernel, rfl, by decide +kernel, by decide +kernel⟩
def spRight : Sp := fun vs H Q _ => ∃ (b : Addr) (n : Nat), vs = [.ref b] ∧ BoxAt H b n ∧ n ≤ 2 ^ 20 ∧ ∀ H', SameX [b] H H' → BoxAt H' b (n + 20000) → Q (.bl true) H'
theorem ok_right {f fD fL fB fQ fI fS : Addr} {fd fdD fdL fdB fdQ fdI fdS : FuncData} (F : Fun K "_law_right" "_law_right" sRight f fd)
    (FD : Fun K "_law_named_setup" "_law_named_setup" sNamed fD fdD) (bD : Binds K fdD ["_law_box_here", "_law_least_so"] []) (mD : mg "_law_named_setup" = some (.ref fD)) (GD : FnOk P w K mg base CX0 8 fD fdD ["_law_box_here", "_law_least_so"] (spNamed K))
    (FL : Fun K "_law_lists" "_law_lists" sLists fL fdL) (bL : Binds K fdL ["_law_matter"] []) (mL : mg "_law_lists" = some (.ref fL)) (GL : FnOk P w K mg base CX0 8 fL fdL ["_law_matter"] (spLists K 7))
    (FB : Fun K "_law_bent" "_law_bent" sBent fB fdB) (bB : Binds K fdB ["_law_box_here", "_law_bit"] []) (mB : mg "_law_bent" = some (.ref fB)) (GB : FnOk P w K mg base CX0 6 fB fdB ["_law_box_here", "_law_bit"] (spBent K 4))
    (FQ : Fun K "_law_is_setup" "_law_is_setup" sLawSetup fQ fdQ) (bQ : Binds K fdQ ["_law_matter"] []) (mQ : mg "_law_is_setup" = some (.ref fQ)) (GQ : FnOk P w K mg base CX0 8 fQ fdQ ["_law_matter"] (spIsSetup K))
    (FI : Fun K "is_setup" "is_setup" sIsSetup fI fdI) (bI : Binds K fdI ["thing"] []) (kI : KBinds K fdI ["thing"] ["thing"] (fun us ws => us ++ ws) (fun vs zs => vs ++ zs)) (mI : mg "is_setup" = some (.ref fI)) (GI : FnOk P w K mg base CX0 8 fI fdI ["thing"] (spIsSetup K))
    (FS : Fun K "_law_same" "_law_same" sSame fS fdS) (bS : Binds K fdS ["_law_found", "_law_due"] []) (mS : mg "_law_same" = some (.ref fS)) (GS : FnOk P w K mg base CX0 8 fS fdS ["_law_found", "_law_due"] (spSame K 8))
    (zl : mg "list" = none) (zr : mg "range" = none) (zp : mg "repr" = none) : FnG P w K mg base 9 f fd ["_law_box_here"] spRight := by
  refine okG F scRight (fun vs H Q E h => ?_) (fun cdv A outer s H vs Q E hgd hr h => ?_)
  · obtain ⟨b, n, rfl, _⟩ := h
    rfl
  · obtain ⟨b, n, rfl, hB, hn, q⟩ := h
    refine ⟨_, pss_cons (ps_set (i := 1) scRight.nd rfl (.inr rfl) (pe_call GD hr (by rfl) mD FD.kp bD .nil pass0 (pa_cons (pv 0) (pa_cons pe_int pa_nil))))
      (pss_cons (ps_asg (pv 1) (pg_tup rfl (pgs_cons (pg_name (i := 2) scRight.nd rfl (.inl rfl)) (pgs_cons (pg_name (i := 3) scRight.nd rfl (.inl rfl)) (pgs_cons (pg_name (i := 4) scRight.nd rfl (.inl rfl)) (pgs_cons (pg_name (i := 5) scRight.nd rfl (.inl rfl)) pgs_nil))))))
      (pss_cons (ps_set (i := 6) scRight.nd rfl (.inl rfl) (pe_lst (pa_cons (pv 1) (pa_cons (pe_callTy call_list_of (by rfl) zl PyProof.Rows.boot_list (pa_cons (pv 1) pa_nil)) (pa_cons (pe_call GL hr (by rfl) mL FL.kp bL .nil pass0 (pa_cons (pv 1) pa_nil)) (pa_cons (pe_slice sl_tupA (pv 1) po_none (po_some pe_int)) (pa_cons (pe_op op_catA (pv 1) (pe_tup (pa_cons pe_int pa_nil))) (pds_cons (K := K) (B := [b]) (pd_tup pds_nil) (pds_cons (pd_lst pds_nil) (pds_cons pd_non (pds_cons pd_bl (pds_cons pd_int (pds_cons pd_str (pds_cons (pd_tup (pds_cons pd_int (pds_cons pd_int (pds_cons (pd_tup pds_nil) (pds_cons (pd_tup pds_nil) pds_nil))))) pds_nil))))))))))))))
      (pss_cons (ps_set (i := 6) scRight.nd rfl (.inl rfl) (pe_op op_cat (pv 6) (pe_lst (pds_cons (K := K) (B := [b]) (pd_tup (pds_cons pd_int (pds_cons pd_int (pds_cons (pd_tup pds_nil) (pds_cons (pd_tup pds_nil) pds_nil))))) pds_nil))))
      (pss_cons (ps_set (i := 6) scRight.nd rfl (.inl rfl) (pe_op op_cat (pv 6) (pe_lst (pds_cons (K := K) (B := [b]) (pd_tup (pds_cons pd_int (pds_cons pd_int (pds_cons (pd_tup pds_nil) (pds_cons (pd_tup pds_nil) pds_nil))))) (pds_cons (pd_tup (pds_cons pd_bl (pds_cons pd_int (pds_cons (pd_tup pds_nil) (pds_cons (pd_tup pds_nil) pds_nil))))) (pds_cons (pd_tup (pds_cons pd_int (pds_cons pd_int (pds_cons (pd_tup pds_nil) (pds_cons (pd_tup (pds_cons pd_non (pds_cons pd_non pds_nil))) pds_nil))))) (pds_cons (pd_tup (pds_cons pd_int (pds_cons pd_int (pds_cons (pd_tup pds_nil) (pds_cons (pd_tup (pds_cons pd_str pds_nil)) pds_nil))))) pds_nil)))))))
      (pss_cons (ps_set (i := 6) scRight.nd rfl (.inl rfl) (pe_op op_cat (pv 6) (pe_lst (pds_cons (K := K) (B := [b]) (pd_tup (pds_cons pd_int (pds_cons pd_int (pds_cons (pd_tup (pds_cons pd_str (pds_cons pd_str pds_nil))) (pds_cons (pd_tup pds_nil) pds_nil))))) pds_nil))))
      (pss_cons (ps_set (i := 6) scRight.nd rfl (.inl rfl) (pe_op op_cat (pv 6) (pe_lst (pds_cons (K := K) (B := [b]) (pd_tup (pds_cons pd_int (pds_cons pd_int (pds_cons (pd_tup (pds_cons pd_str (pds_cons pd_str pds_nil))) (pds_cons (pd_tup pds_nil) pds_nil))))) (pds_cons (pd_tup (pds_cons pd_int (pds_cons pd_int (pds_cons (pd_tup (pds_cons pd_str (pds_cons pd_str pds_nil))) (pds_cons (pd_tup (pds_cons pd_str (pds_cons pd_non (pds_cons pd_str pds_nil)))) pds_nil))))) (pds_cons (pd_tup (pds_cons pd_int (pds_cons pd_int (pds_cons (pd_tup (pds_cons pd_str pds_nil)) (pds_cons (pd_tup pds_nil) pds_nil))))) pds_nil))))))
      (pss_cons (ps_set (i := 6) scRight.nd rfl (.inl rfl) (pe_op op_cat (pv 6) (pe_lst (pds_cons (K := K) (B := [b]) (pd_tup (pds_cons pd_int (pds_cons pd_int (pds_cons (pd_tup (pds_cons pd_str pds_nil)) (pds_cons (pd_tup pds_nil) pds_nil))))) pds_nil))))
      (pss_cons (ps_set (i := 6) scRight.nd rfl (.inl rfl) (pe_op op_cat (pv 6) (pe_lst (pds_cons (K := K) (B := [b]) (pd_tup (pds_cons pd_int (pds_cons pd_int (pds_cons (pd_tup (pds_cons pd_str pds_nil)) (pds_cons (pd_tup pds_nil) pds_nil))))) (pds_cons (pd_tup (pds_cons pd_int (pds_cons pd_int (pds_cons (pd_tup (pds_cons pd_str pds_nil)) (pds_cons (pd_tup (pds_cons pd_str pds_nil)) pds_nil))))) (pds_cons (pd_tup (pds_cons pd_int (pds_cons pd_int (pds_cons pd_str (pds_cons (pd_tup pds_nil) pds_nil))))) pds_nil))))))
      (pss_cons (ps_set (i := 6) scRight.nd rfl (.inl rfl) (pe_op op_cat (pv 6) (pe_lst (pds_cons (K := K) (B := [b]) (pd_tup (pds_cons pd_pow (pds_cons pd_pow (pds_cons (pd_tup pds_nil) (pds_cons (pd_tup pds_nil) pds_nil))))) pds_nil))))
      (pss_cons (ps_set (i := 6) scRight.nd rfl (.inl rfl) (pe_op op_cat (pv 6) (pe_lst (pa_cons (pe_tup (pa_cons (pv 2) (pa_cons (pv 3) (pa_cons (pv 4) (pa_cons (pe_op op_catA (pv 5) (pe_tup (pa_cons pe_str pa_nil))) pa_nil))))) (pa_cons (pe_tup (pa_cons (pv 2) (pa_cons (pv 3) (pa_cons (pe_revT (pv 4)) (pa_cons (pv 5) pa_nil))))) pa_nil)))))
      (pss_cons (ps_set (i := 6) scRight.nd rfl (.inl rfl) (pe_op op_cat (pv 6) (pe_lst (pds_cons (K := K) (B := [b]) (pd_tup (pds_cons pd_int (pds_cons pd_int (pds_cons (pd_tup (pds_cons pd_int pds_nil)) (pds_cons (pd_tup pds_nil) pds_nil))))) pds_nil))))
      (pss_cons (ps_for PassesOwn.never rfl (pi_list (pe_op op_cat (pv 6) (pe_lc (own := [("_law_turn", 10)]) (g := gName 10) (tt := tYes) rfl scRight.nd (pi_range1 (by rfl) zr (pa_cons pe_int pa_nil)) (blkOk_by (N := nRight) (sc := defScope sRight) (by decide +kernel))
            (fun _ _ _ _ _ => pg_name (i := 10) scRight.nd rfl (Or.inl rfl)) (fun _ _ _ _ _ => pts_nil) (fun _ _ _ _ _ => pe_call GB (hr.mono (by decide)) (by rfl) mB FB.kp bB .nil pass0 (pa_cons (pv 0) (pa_cons (pv 1) pa_nil)))))) (pg_name (i := 7) scRight.nd rfl (.inl rfl))
          (pss_cons (ps_par (i := 8) (j := 9) rfl scRight.nd rfl rfl (by decide) rfl rfl (pa_cons (pe_callB (cr_reprA hgd hr.units) (by rfl) zp boot_repr (pa_cons (pv 7) pa_nil)) (pa_cons (pe_call GQ hr (by rfl) mQ FQ.kp bQ .nil pass0 (pa_cons (pv 7) pa_nil)) pa_nil)) (by rfl))
          (pss_one (ps_if (PW.pt (pw_or (pt_not (pt_val (pe_call GS hr (by rfl) mS FS.kp bS .nil pass0 (pa_cons (pe_lst (pa_cons (pe_call GI hr (by rfl) mI FI.kp bI .nil pass0 (pa_cons (pv 7) pa_nil)) (pa_cons (pe_callK0 GI hr (by rfl) mI FI.kp kI (pk_cons (pv 7) pk_nil)) pa_nil)))
              (pa_cons (pe_lst (pa_cons (pv 9) (pa_cons (pv 9) pa_nil))) pa_nil)))))
            (pw_or1 (pt_cmpR op_ne (pe_callB (cr_reprA hgd hr.units) (by rfl) zp boot_repr (pa_cons (pv 7) pa_nil)) (pv 8) (nomark _))))) (pss_one (ps_ret pe_bl)) pss_nil))))
      (pss_one (ps_ret (pe_cmpR op_isBl (pe_call GI hr (by rfl) mI FI.kp bI .nil pass0 (pa_cons (pv 1) pa_nil)) pe_bl (nomark _)))))))))))))))), ?_⟩
    have lvB : Live [b] H := fun c hc => by rw [List.mem_singleton.mp hc]; exact hB.live
    refine ⟨_, rfl, [b], b, n, 0, rfl, by decide, List.mem_singleton.mpr rfl, lvB, hB, by omega, fun v d H1 hd s1 b1 d1 => ?_⟩
    have g1 := setup_good hd
    have is1 := setup_is hd
    have hd0 := hd
    obtain ⟨sp, rm, ps, ss, rfl, _, _, _, _, _, _, _, lps, lss, _⟩ := hd
    have lv1 : Live [b] H1 := fun c hc => by rw [List.mem_singleton.mp hc]; exact b1.live
    obtain ⟨p, x, y, z, u, rfl, hS, e1, e2, e3, e4⟩ := dp_four d1
    cases e1
    cases e2
    obtain ⟨a3, xs3, rfl, S3, A3⟩ := dp_tupR e3
    obtain ⟨a4, xs4, rfl, S4, A4⟩ := dp_tupR e4
    have hS1 := same_seqT (hide_same [b] H1) hS
    refine ⟨_, rfl, p, _, rfl, hS1, rfl, .int sp, _, rfl, .int rm, _, rfl, .ref a3, _, rfl, .ref a4, _, rfl, rfl, ?_⟩
    -- the first row of odd matters
    refine ⟨_, rfl, _, rfl, p, _, rfl, .inr hS1, fun l1 n1 => ?_⟩
    have t1 : Same H1 (upd H1 l1 (.lst [.int sp, .int rm, .ref a3, .ref a4])) := same_upd n1
    have k1 : Dp K (hide [b] (upd H1 l1 (.lst [.int sp, .int rm, .ref a3, .ref a4]))) (.ref l1) (.list [.int sp, .int rm, .tuple (ps.map PyData.str), .tuple ss]) := dp_newL lv1 n1 (.cons (.int _) (.cons (.int _) (.cons e3 (.cons e4 .nil))))
    refine ⟨_, rfl, [b], .ref p, _, rfl, lv1.same t1, dp_same (hide_of_same t1) d1, gD_ok (by decide) _ 7 (gD_mono (fun _ z => z) (Nat.le_refl 5) _ 3 7 (by decide) g1), fun v3 H3 t3 d3 => ?_⟩
    have t13 := t1.trans t3
    refine ⟨_, rfl, _, rfl, p, _, rfl, same_seqT t13 hS1, fun e0 => absurd e0.2 (by show ¬ (min 3 4 = 4); decide), fun _ p4 n4 => ?_⟩
    refine ⟨_, rfl, by show 1 ≤ sizeLine; decide, fun p5 n5 => ⟨p, p5, _, _, rfl, rfl, same_seqT ((t13.trans (same_upd n4)).trans (same_upd n5)) hS1, SqT.of upd_same, by show 4 + 1 ≤ sizeLine; decide, (fun z => by cases z), (fun _ z => by cases z), fun _ _ p6 n6 => ?_⟩⟩
    have lv3 : Live [b] H3 := lv1.same t13
    have u4 := same_upd (o := HO.tup (cutV [V.int sp, V.int rm, V.ref a3, V.ref a4] none (some 3))) n4
    have u5 := same_upd (o := HO.tup [V.int 0]) n5
    have u6 := same_upd (o := HO.tup ([V.int sp, V.int rm, V.ref a3, V.ref a4] ++ [V.int 0])) n6
    have t36 := (u4.trans u5).trans u6
    refine ⟨lv3.same t36, fun vs7 H7 t7 d7 => ⟨Nat.le_of_lt (small1000 (by have h7 : vs7.length = 7 := dps_len d7; simp only [List.length_cons]; omega)), fun p8 n8 => ?_⟩⟩
    have t37 := t36.trans t7
    have t17 := t13.trans t37
    have lv7 := lv1.same t17
    have fm := setup_forms hd0
    have hs := fun {v : V} {d : PyData} (z : Dp K (hide [b] H1) v d) => dp_same (hide_of_same t17) z
    have c4 : Dp K (hide [b] H7) (.ref p4) (.tuple [.int sp, .int rm, .tuple (ps.map PyData.str)]) :=
      dp_same (hide_of_same ((u5.trans u6).trans t7)) (dp_new lv3 n4 (.cons (.int _) (.cons (.int _) (.cons (dp_same (hide_of_same t13) e3) .nil))))
    have c6 : Dp K (hide [b] H7) (.ref p6) (.tuple [.int sp, .int rm, .tuple (ps.map PyData.str), .tuple ss, .int 0]) :=
      dp_same (hide_of_same t7) (dp_new (lv3.same (u4.trans u5)) n6 (.cons (.int _) (.cons (.int _) (.cons (dp_same (hide_of_same (t13.trans (u4.trans u5))) e3) (.cons (dp_same (hide_of_same (t13.trans (u4.trans u5))) e4) (.cons (.int _) .nil))))))
    have o8 : OddG K [b] (upd H7 p8 (HO.lst (.ref p :: .ref l1 :: v3 :: .ref p4 :: .ref p6 :: vs7))) p8 12 := OddG.new lv7 n8 (DpAll.cons (hs d1) (.cons (dp_same (hide_of_same (t3.trans t37)) k1) (.cons (dp_same (hide_of_same t37) d3) (.cons c4 (.cons c6 d7))))) (gDs_app fm.1 (by decide +kernel))
    have t8 := t17.trans (same_upd (o := HO.lst (.ref p :: .ref l1 :: v3 :: .ref p4 :: .ref p6 :: vs7)) n8)
    have lv8 := lv1.same t8
    refine oddg_more lv8 o8 (by decide +kernel) (by decide) rfl fun p9 H9 t9 o9 => ?_
    refine oddg_more (lv8.same t9) o9 (by decide +kernel) (by decide) rfl fun p10 H10 t10 o10 => ?_
    replace t10 := t9.trans t10
    refine oddg_more (lv8.same t10) o10 (by decide +kernel) (by decide) rfl fun p11 H11 t11 o11 => ?_
    replace t11 := t10.trans t11
    refine oddg_more (lv8.same t11) o11 (by decide +kernel) (by decide) rfl fun p12 H12 t12 o12 => ?_
    replace t12 := t11.trans t12
    refine oddg_more (lv8.same t12) o12 (by decide +kernel) (by decide) rfl fun p13 H13 t13' o13 => ?_
    replace t13' := t12.trans t13'
    refine oddg_more (lv8.same t13') o13 (by decide +kernel) (by decide) rfl fun p14 H14 t14 o14 => ?_
    replace t14 := t13'.trans t14
    refine oddg_more (lv8.same t14) o14 (by decide +kernel) (by decide) rfl fun p15 H15 t15 o15 => ?_
    replace t15 := t8.trans (t14.trans t15)
    have lv15 := lv1.same t15
    have s15 := fun {v : V} {d : PyData} (z : Dp K (hide [b] H1) v d) => dp_same (hide_of_same t15) z
    refine ⟨_, rfl, _, rfl, _, rfl, _, rfl, _, rfl, by show 1 ≤ sizeLine; decide, fun p16 n16 => catA_dp (B := [b]) (lv15.same (same_upd n16)) (dp_same (hide_of_same (same_upd n16)) (s15 e4)) (dp_new lv15 n16 (.cons (.str _) .nil)) (by show ss.length + 1 ≤ 1000; omega) fun r17 H17 t17' d17 => ?_⟩
    have t17 := t15.trans ((same_upd (o := HO.tup [V.str (Str.ofString "zz")]) n16).trans t17')
    have lv17 := lv1.same t17
    refine ⟨by show 4 ≤ sizeLine; decide, fun p18 n18 => ?_⟩
    have d18 : Dp K (hide [b] (upd H17 p18 (.tup [.int sp, .int rm, .ref a3, r17]))) (.ref p18) (.tuple [.int sp, .int rm, .tuple (ps.map PyData.str), .tuple (ss ++ [.str "zz"])]) :=
      dp_new lv17 n18 (.cons (.int _) (.cons (.int _) (.cons (dp_same (hide_of_same t17) e3) (.cons d17 .nil))))
    have t18 := t17.trans (same_upd (o := HO.tup [.int sp, .int rm, .ref a3, r17]) n18)
    have lv18 := lv1.same t18
    refine ⟨_, rfl, _, rfl, _, rfl, a3, xs3, rfl, same_seqT (t18.trans (Same.refl _)) (same_seqT (hide_same [b] H1) S3), fun p19 n19 => ⟨_, rfl, by show 4 ≤ sizeLine; decide, fun p20 n20 => ?_⟩⟩
    have d19 : Dp K (hide [b] (upd (upd H17 p18 (.tup [.int sp, .int rm, .ref a3, r17])) p19 (.tup xs3.reverse))) (.ref p19) (.tuple (ps.map PyData.str).reverse) := dp_new lv18 n19 (dps_rev (dps_same (hide_of_same t18) A3))
    have t19 := t18.trans (same_upd (o := HO.tup xs3.reverse) n19)
    have lv19 := lv1.same t19
    have d20 := dp_new lv19 n20 (DpAll.cons (.int sp) (.cons (.int rm) (.cons d19 (.cons (dp_same (hide_of_same t19) e4) .nil))))
    have t20 := t19.trans (same_upd (o := HO.tup [.int sp, .int rm, .ref p19, .ref a4]) n20)
    have lv20 := lv1.same t20
    refine ⟨by show 2 ≤ sizeLine; decide, fun p21 n21 => ?_⟩
    have u1819 := (same_upd (o := HO.tup xs3.reverse) n19).trans (same_upd (o := HO.tup [.int sp, .int rm, .ref p19, .ref a4]) n20)
    have o21 := OddG.new lv20 n21 (DpAll.cons (dp_same (hide_of_same u1819) d18) (.cons d20 .nil)) fm.2
    have u21 := same_upd (o := HO.lst [.ref p18, .ref p20]) n21
    have w15 := (((same_upd (o := HO.tup [V.str (Str.ofString "zz")]) n16).trans t17').trans (same_upd (o := HO.tup [.int sp, .int rm, .ref a3, r17]) n18)).trans (u1819.trans u21)
    have o15' : OddG K [b] H15 p15 26 := o15
    have o21' : OddG K [b] _ p21 2 := o21
    refine OddG.cat (lv20.same u21) (o15'.same w15) o21' (by decide) fun p22 H22 t22 o22 => ?_
    replace t22 := (t20.trans u21).trans t22
    have o22' : OddG K [b] H22 p22 28 := o22
    refine oddg_more (lv1.same t22) o22' (by decide +kernel) (by decide) rfl fun p23 H23 t23 o23 => ?_
    replace t23 := t22.trans t23
    have o23' : OddG K [b] H23 p23 29 := o23
    have lv23 := lv1.same t23
    have b23 := b1.same t23
    have d23 := dp_same (hide_of_same t23) d1
    clear t22 o22' o21' o15' o22 o21 o15 o14 o13 o12 o11 o10 o9 o8 w15 u1819 t20 t19 t18 t17 t15 d20 d19 d18 d17
    exact right_loop hd0 d23 b23 hn o23' fun H' sx bx => q H' (s1.trans ((SameX.of t23).trans sx)) (bx.le (by omega))
end
end KV

namespace KV
open PySem PySem.Spec PyProof.Rows L2 RZ
abbrev sLaw : Stmt := topS 25
theorem iteBF {b : Bool} {A B : Prop} (h : b = false) (x : B) : if b = true then A else B := by
  subst h
  exact iteF x
section
variable {P : Program} {w : World} {K : PySem.W.Frag} {mg : Str → Option Value} {base : Heap}
def spLaw (K : PySem.W.Frag) : Sp := fun vs H Q _ => ∃ (a : Addr) (ns : List Int), vs = [.ref a] ∧ SqL K H a (ns.map V.int) ∧ ns.length ≤ 63 ∧ ∀ H', Q (.bl true) H'
theorem scLaw : FnScope ["_law_script", "_law_k", "_law_box_here", "_law_turn"] ["_law_script"] (defScope sLaw) :=
  ⟨rfl, rfl, rfl, by decide +kernel, rfl, by decide +kernel, by decide +kernel⟩
theorem ok_law {f fR fB : Addr} {fd fdR fdB : FuncData} (F : Fun K "law" "law" sLaw f fd) (FR : Fun K "_law_right" "_law_right" sRight fR fdR) (bR : Binds K fdR ["_law_box_here"] []) (mR : mg "_law_right" = some (.ref fR))
    (GR : FnG P w K mg base 9 fR fdR ["_law_box_here"] spRight)
    (FB : Fun K "_law_box" "_law_box" sBox fB fdB) (bB : Binds K fdB ["_law_script", "_law_k"] []) (mB : mg "_law_box" = some (.ref fB)) (zInt : mg "int" = none) (zLen : mg "len" = none) (zAbs : mg "abs" = none) (zMin : mg "min" = none) (zRange : mg "range" = none) (zAll : mg "all" = none) : FnG P w K mg base 10 f fd ["_law_script"] (spLaw K) := by
  have GB : FnOk P w K mg base CX0 1 fB fdB ["_law_script", "_law_k"] (spBox K) := ok_box FB zInt zLen zAbs
  refine okG F scLaw (fun vs H Q E h => ?_) (fun cdv A outer s H vs Q E hgd hr h => ?_)
  · obtain ⟨a, ns, rfl, _⟩ := h
    rfl
  · obtain ⟨a, ns, rfl, hS, hlen, q⟩ := h
    have hr1 : Room 1 _ := hr.mono (by decide)
    refine ⟨_, pss_cons (ps_for PassesOwn.never rfl (pi_range1 (by rfl) zRange (pa_cons (pe_op op_add pe_int (pe_callB (call_min2 rfl) (by rfl) zMin boot_min (pa_cons pe_int (pa_cons (pe_callB call_len_seq (by rfl) zLen PySem.boot_len (pa_cons (pv 0) pa_nil)) pa_nil)))) pa_nil)) (pg_name (i := 1) scLaw.nd rfl (.inl rfl))
        (pss_cons (ps_set (i := 2) scLaw.nd rfl (.inr rfl) (pe_call GB hr1 (by rfl) mB FB.kp bB .nil pass0 (pa_cons (pv 0) (pa_cons (pv 1) pa_nil))))
        (pss_one (ps_if (pt_not (pt_val (pe_callB (cr_all rfl) (by rfl) zAll boot_all (pa_cons
          (pe_lc (own := [("_law_turn", 3)]) (g := gName 3) (tt := tYes) rfl scLaw.nd (pi_range1 (by rfl) zRange (pa_cons pe_int pa_nil)) (blkOk_by (N := ["_law_script", "_law_k", "_law_box_here", "_law_turn"]) (sc := defScope sLaw) (by decide +kernel))
            (fun _ _ _ _ _ => pg_name (i := 3) scLaw.nd rfl (Or.inl rfl)) (fun _ _ _ _ _ => pts_nil) (fun _ _ _ _ _ => pe_callG GR hgd hr (by rfl) mR FR.kp bR (pa_cons (pv 2) pa_nil))) pa_nil)))) (pss_one (ps_ret pe_bl)) pss_nil))))
      (pss_one (ps_ret pe_bl)), ?_⟩
    refine ⟨_, rfl, a, _, rfl, .inl hS, _, _, rfl, _, _, rfl, rfl, _, rfl, ?_, ?_, for_range (lo := 0) (n := _) (fun i σ H' => ∃ y1 y2, σ = [some (.ref a), y1, y2, none] ∧ Same H H') ⟨none, none, rfl, Same.refl _⟩ ?_ ?_⟩
    · split <;> omega
    · split <;> omega
    · rintro i σ H' hi ⟨y1, y2, rfl, sm⟩
      have hi10 : i < 10 := by
        rw [List.length_map] at hi
        split at hi <;> omega
      refine ⟨_, rfl, _, rfl, a, ns, i, by rw [Int.zero_add]; rfl, sm.seq hS, hi10, hlen, fun p H2 s2 n2 b2 => ?_⟩
      refine ⟨2, rfl, by decide, by decide, fun D nD => lc_it (walk_range (lo := 0) (n := 2)) (fun j H3 => SameX [D, p] H2 H3 ∧ BoxAt H3 p (20000 * j) ∧ H3 D = some (.lst ((List.replicate j true).map V.bl))) ⟨?_, ?_, upd_same⟩ (fun _ _ _ _ => trivial) ?_ ?_⟩
      · exact sameX_upd List.mem_cons_self
      · have pD : p ≠ D := fun e => by
          obtain ⟨_, _, _, z, _⟩ := b2
          rw [e, nD] at z
          cases z
        obtain ⟨x, y, c, z, z2⟩ := b2
        exact ⟨x, y, c, by rw [upd_ne pD]; exact z, z2⟩
      · rintro j x H3 H3' hj ⟨s3, b3, hD3⟩ ⟨rfl, rfl⟩
        refine ⟨rfl, tYes_ok ⟨_, rfl, p, _, rfl, b3, by omega, fun H4 s4 b4 => ?_⟩⟩
        have pD : D ≠ p := fun e => by
          obtain ⟨_, _, _, z, _⟩ := b2
          rw [← e, nD] at z
          cases z
        have hD4 : H4 D = some (.lst ((List.replicate j true).map V.bl)) := s4 D _ (fun z => pD (List.mem_singleton.mp z)) hD3
        refine ⟨_, hD4, by rw [List.length_map, List.length_replicate]; exact small1000 (by omega), ?_, ?_, ?_⟩
        · exact s3.trans ((s4.sub fun c hc => List.mem_cons_of_mem _ hc).trans (sameX_upd List.mem_cons_self))
        · obtain ⟨x, y, c, z, z2⟩ := b4
          exact ⟨x, y, c, by rw [upd_ne pD.symm]; exact z, by omega⟩
        · rw [upd_same, List.replicate_succ', List.map_append]
          rfl
      · rintro H3 ⟨s3, b3, hD3⟩
        refine ⟨D, List.replicate 2 true, rfl, SqL.of hD3, _, rfl, iteBF (by rw [rep_all]; rfl) ?_⟩
        refine ⟨_, _, rfl, fun c o e => ?_⟩
        have e1 := sm c o e
        have e2 := s2 c o e1
        refine s3 c o (fun z => ?_) e2
        rcases List.mem_cons.mp z with z | z
        · exact ne_of_none e2 nD z
        · exact ne_of_none e1 n2 (List.mem_singleton.mp z)
    · rintro σ H' _
      exact q H'
end
/-! ### the head -/
theorem all_mk {l : PySem.W.OpenLaw} {w : World} {K : PySem.W.Frag} {h : Heap} {mg : Str → Option Value} {fa : Addr} {tk : Tok} (X : K.In h) (G : h.Ns mainGlobals mg) (hfa : mg "law" = some (.ref fa))
    {f0 : Addr} {od0 an0 : Option Addr} {sl0 : Array (Option Value)} {oc0 kV0 dc0 pm0 cd0 ct0 : Value} {f1 : Addr} {od1 an1 : Option Addr} {sl1 : Array (Option Value)} {oc1 kV1 dc1 pm1 cd1 ct1 : Value} {f2 : Addr} {od2 an2 : Option Addr} {sl2 : Array (Option Value)} {oc2 kV2 dc2 pm2 cd2 ct2 : Value} {f3 : Addr} {od3 an3 : Option Addr} {sl3 : Array (Option Value)} {oc3 kV3 dc3 pm3 cd3 ct3 : Value} {f4 : Addr} {od4 an4 : Option Addr} {sl4 : Array (Option Value)} {oc4 kV4 dc4 pm4 cd4 ct4 : Value} {f5 : Addr} {od5 an5 : Option Addr} {sl5 : Array (Option Value)} {oc5 kV5 dc5 pm5 cd5 ct5 : Value} {f6 : Addr} {od6 an6 : Option Addr} {sl6 : Array (Option Value)} {oc6 kV6 dc6 pm6 cd6 ct6 : Value} {f7 : Addr} {od7 an7 : Option Addr} {sl7 : Array (Option Value)} {oc7 kV7 dc7 pm7 cd7 ct7 : Value} {f8 : Addr} {od8 an8 : Option Addr} {sl8 : Array (Option Value)} {oc8 kV8 dc8 pm8 cd8 ct8 : Value} {f9 : Addr} {od9 an9 : Option Addr} {sl9 : Array (Option Value)} {oc9 kV9 dc9 pm9 cd9 ct9 : Value} {f10 : Addr} {od10 an10 : Option Addr} {sl10 : Array (Option Value)} {oc10 kV10 dc10 pm10 cd10 ct10 : Value} {f11 : Addr} {od11 an11 : Option Addr} {sl11 : Array (Option Value)} {oc11 kV11 dc11 pm11 cd11 ct11 : Value} {f12 : Addr} {od12 an12 : Option Addr} {sl12 : Array (Option Value)} {oc12 kV12 dc12 pm12 cd12 ct12 : Value} {f13 : Addr} {od13 an13 : Option Addr} {sl13 : Array (Option Value)} {oc13 kV13 dc13 pm13 cd13 ct13 : Value} {f14 : Addr} {od14 an14 : Option Addr} {sl14 : Array (Option Value)} {oc14 kV14 dc14 pm14 cd14 ct14 : Value} {f15 : Addr} {od15 an15 : Option Addr} {sl15 : Array (Option Value)} {oc15 kV15 dc15 pm15 cd15 ct15 : Value} {f16 : Addr} {od16 an16 : Option Addr} {sl16 : Array (Option Value)} {oc16 kV16 dc16 pm16 cd16 ct16 : Value} {f17 : Addr} {od17 an17 : Option Addr} {sl17 : Array (Option Value)} {oc17 kV17 dc17 pm17 cd17 ct17 : Value} {f18 : Addr} {od18 an18 : Option Addr} {sl18 : Array (Option Value)} {oc18 kV18 dc18 pm18 cd18 ct18 : Value} {f19 : Addr} {od19 an19 : Option Addr} {sl19 : Array (Option Value)} {oc19 kV19 dc19 pm19 cd19 ct19 : Value} {f20 : Addr} {od20 an20 : Option Addr} {sl20 : Array (Option Value)} {oc20 kV20 dc20 pm20 cd20 ct20 : Value} {f21 : Addr} {od21 an21 : Option Addr} {sl21 : Array (Option Value)} {oc21 kV21 dc21 pm21 cd21 ct21 : Value}
    (a0 : PySem.W.nsIn K mainGlobals "is_number" = some (some (.ref f0))) (l0 : K.lookup f0 = some ⟨oc0, od0, .func (PySem.W.fnOf "is_number" "is_number" (defArgs sNum) (defBody sNum) (defScope sNum) .none kV0 dc0 pm0 an0 cd0 ct0), sl0⟩) (c0 : PySem.W.codeIn K cd0 "is_number" = true) (k0 : PySem.W.keepIn K (.ref f0) = true)
    (a1 : PySem.W.nsIn K mainGlobals "is_letters" = some (some (.ref f1))) (l1 : K.lookup f1 = some ⟨oc1, od1, .func (PySem.W.fnOf "is_letters" "is_letters" (defArgs sLets) (defBody sLets) (defScope sLets) .none kV1 dc1 pm1 an1 cd1 ct1), sl1⟩) (c1 : PySem.W.codeIn K cd1 "is_letters" = true) (k1 : PySem.W.keepIn K (.ref f1) = true)
    (a2 : PySem.W.nsIn K mainGlobals "is_name" = some (some (.ref f2))) (l2 : K.lookup f2 = some ⟨oc2, od2, .func (PySem.W.fnOf "is_name" "is_name" (defArgs sIsName) (defBody sIsName) (defScope sIsName) .none kV2 dc2 pm2 an2 cd2 ct2), sl2⟩) (c2 : PySem.W.codeIn K cd2 "is_name" = true) (k2 : PySem.W.keepIn K (.ref f2) = true)
    (a3 : PySem.W.nsIn K mainGlobals "is_row" = some (some (.ref f3))) (l3 : K.lookup f3 = some ⟨oc3, od3, .func (PySem.W.fnOf "is_row" "is_row" (defArgs sRow) (defBody sRow) (defScope sRow) .none kV3 dc3 pm3 an3 cd3 ct3), sl3⟩) (c3 : PySem.W.codeIn K cd3 "is_row" = true) (k3 : PySem.W.keepIn K (.ref f3) = true)
    (a4 : PySem.W.nsIn K mainGlobals "ascends" = some (some (.ref f4))) (l4 : K.lookup f4 = some ⟨oc4, od4, .func (PySem.W.fnOf "ascends" "ascends" (defArgs sAsc) (defBody sAsc) (defScope sAsc) .none kV4 dc4 pm4 an4 cd4 ct4), sl4⟩) (c4 : PySem.W.codeIn K cd4 "ascends" = true) (k4 : PySem.W.keepIn K (.ref f4) = true)
    (a5 : PySem.W.nsIn K mainGlobals "are_names" = some (some (.ref f5))) (l5 : K.lookup f5 = some ⟨oc5, od5, .func (PySem.W.fnOf "are_names" "are_names" (defArgs sAreNames) (defBody sAreNames) (defScope sAreNames) .none kV5 dc5 pm5 an5 cd5 ct5), sl5⟩) (c5 : PySem.W.codeIn K cd5 "are_names" = true) (k5 : PySem.W.keepIn K (.ref f5) = true)
    (a6 : PySem.W.nsIn K mainGlobals "is_setup" = some (some (.ref f6))) (l6 : K.lookup f6 = some ⟨oc6, od6, .func (PySem.W.fnOf "is_setup" "is_setup" (defArgs sIsSetup) (defBody sIsSetup) (defScope sIsSetup) .none kV6 dc6 pm6 an6 cd6 ct6), sl6⟩) (c6 : PySem.W.codeIn K cd6 "is_setup" = true) (k6 : PySem.W.keepIn K (.ref f6) = true)
    (a7 : PySem.W.nsIn K mainGlobals "_law_take" = some (some (.ref f7))) (l7 : K.lookup f7 = some ⟨oc7, od7, .func (PySem.W.fnOf "_law_take" "_law_take" (defArgs sTake) (defBody sTake) (defScope sTake) .none kV7 dc7 pm7 an7 cd7 ct7), sl7⟩) (c7 : PySem.W.codeIn K cd7 "_law_take" = true) (k7 : PySem.W.keepIn K (.ref f7) = true)
    (a8 : PySem.W.nsIn K mainGlobals "_law_of" = some (some (.ref f8))) (l8 : K.lookup f8 = some ⟨oc8, od8, .func (PySem.W.fnOf "_law_of" "_law_of" (defArgs sOf) (defBody sOf) (defScope sOf) .none kV8 dc8 pm8 an8 cd8 ct8), sl8⟩) (c8 : PySem.W.codeIn K cd8 "_law_of" = true) (k8 : PySem.W.keepIn K (.ref f8) = true)
    (a9 : PySem.W.nsIn K mainGlobals "_law_name" = some (some (.ref f9))) (l9 : K.lookup f9 = some ⟨oc9, od9, .func (PySem.W.fnOf "_law_name" "_law_name" (defArgs sName) (defBody sName) (defScope sName) .none kV9 dc9 pm9 an9 cd9 ct9), sl9⟩) (c9 : PySem.W.codeIn K cd9 "_law_name" = true) (k9 : PySem.W.keepIn K (.ref f9) = true)
    (a10 : PySem.W.nsIn K mainGlobals "_law_names" = some (some (.ref f10))) (l10 : K.lookup f10 = some ⟨oc10, od10, .func (PySem.W.fnOf "_law_names" "_law_names" (defArgs sNames) (defBody sNames) (defScope sNames) .none kV10 dc10 pm10 an10 cd10 ct10), sl10⟩) (c10 : PySem.W.codeIn K cd10 "_law_names" = true) (k10 : PySem.W.keepIn K (.ref f10) = true)
    (a11 : PySem.W.nsIn K mainGlobals "_law_named_setup" = some (some (.ref f11))) (l11 : K.lookup f11 = some ⟨oc11, od11, .func (PySem.W.fnOf "_law_named_setup" "_law_named_setup" (defArgs sNamed) (defBody sNamed) (defScope sNamed) .none kV11 dc11 pm11 an11 cd11 ct11), sl11⟩) (c11 : PySem.W.codeIn K cd11 "_law_named_setup" = true) (k11 : PySem.W.keepIn K (.ref f11) = true)
    (a12 : PySem.W.nsIn K mainGlobals "_law_lists" = some (some (.ref f12))) (l12 : K.lookup f12 = some ⟨oc12, od12, .func (PySem.W.fnOf "_law_lists" "_law_lists" (defArgs sLists) (defBody sLists) (defScope sLists) .none kV12 dc12 pm12 an12 cd12 ct12), sl12⟩) (c12 : PySem.W.codeIn K cd12 "_law_lists" = true) (k12 : PySem.W.keepIn K (.ref f12) = true)
    (a13 : PySem.W.nsIn K mainGlobals "_law_bent" = some (some (.ref f13))) (l13 : K.lookup f13 = some ⟨oc13, od13, .func (PySem.W.fnOf "_law_bent" "_law_bent" (defArgs sBent) (defBody sBent) (defScope sBent) .none kV13 dc13 pm13 an13 cd13 ct13), sl13⟩) (c13 : PySem.W.codeIn K cd13 "_law_bent" = true) (k13 : PySem.W.keepIn K (.ref f13) = true)
    (a14 : PySem.W.nsIn K mainGlobals "_law_row_of" = some (some (.ref f14))) (l14 : K.lookup f14 = some ⟨oc14, od14, .func (PySem.W.fnOf "_law_row_of" "_law_row_of" (defArgs sRowOf) (defBody sRowOf) (defScope sRowOf) .none kV14 dc14 pm14 an14 cd14 ct14), sl14⟩) (c14 : PySem.W.codeIn K cd14 "_law_row_of" = true) (k14 : PySem.W.keepIn K (.ref f14) = true)
    (a15 : PySem.W.nsIn K mainGlobals "_law_whole" = some (some (.ref f15))) (l15 : K.lookup f15 = some ⟨oc15, od15, .func (PySem.W.fnOf "_law_whole" "_law_whole" (defArgs sWhole) (defBody sWhole) (defScope sWhole) .none kV15 dc15 pm15 an15 cd15 ct15), sl15⟩) (c15 : PySem.W.codeIn K cd15 "_law_whole" = true) (k15 : PySem.W.keepIn K (.ref f15) = true)
    (a16 : PySem.W.nsIn K mainGlobals "_law_is_word" = some (some (.ref f16))) (l16 : K.lookup f16 = some ⟨oc16, od16, .func (PySem.W.fnOf "_law_is_word" "_law_is_word" (defArgs sIsWord) (defBody sIsWord) (defScope sIsWord) .none kV16 dc16 pm16 an16 cd16 ct16), sl16⟩) (c16 : PySem.W.codeIn K cd16 "_law_is_word" = true) (k16 : PySem.W.keepIn K (.ref f16) = true)
    (a17 : PySem.W.nsIn K mainGlobals "_law_is_setup" = some (some (.ref f17))) (l17 : K.lookup f17 = some ⟨oc17, od17, .func (PySem.W.fnOf "_law_is_setup" "_law_is_setup" (defArgs sLawSetup) (defBody sLawSetup) (defScope sLawSetup) .none kV17 dc17 pm17 an17 cd17 ct17), sl17⟩) (c17 : PySem.W.codeIn K cd17 "_law_is_setup" = true) (k17 : PySem.W.keepIn K (.ref f17) = true)
    (a18 : PySem.W.nsIn K mainGlobals "_law_same" = some (some (.ref f18))) (l18 : K.lookup f18 = some ⟨oc18, od18, .func (PySem.W.fnOf "_law_same" "_law_same" (defArgs sSame) (defBody sSame) (defScope sSame) .none kV18 dc18 pm18 an18 cd18 ct18), sl18⟩) (c18 : PySem.W.codeIn K cd18 "_law_same" = true) (k18 : PySem.W.keepIn K (.ref f18) = true)
    (a19 : PySem.W.nsIn K mainGlobals "_law_box" = some (some (.ref f19))) (l19 : K.lookup f19 = some ⟨oc19, od19, .func (PySem.W.fnOf "_law_box" "_law_box" (defArgs sBox) (defBody sBox) (defScope sBox) .none kV19 dc19 pm19 an19 cd19 ct19), sl19⟩) (c19 : PySem.W.codeIn K cd19 "_law_box" = true) (k19 : PySem.W.keepIn K (.ref f19) = true)
    (a20 : PySem.W.nsIn K mainGlobals "_law_right" = some (some (.ref f20))) (l20 : K.lookup f20 = some ⟨oc20, od20, .func (PySem.W.fnOf "_law_right" "_law_right" (defArgs sRight) (defBody sRight) (defScope sRight) .none kV20 dc20 pm20 an20 cd20 ct20), sl20⟩) (c20 : PySem.W.codeIn K cd20 "_law_right" = true) (k20 : PySem.W.keepIn K (.ref f20) = true)
    (a21 : PySem.W.nsIn K mainGlobals "law" = some (some (.ref f21))) (l21 : K.lookup f21 = some ⟨oc21, od21, .func (PySem.W.fnOf "law" "law" (defArgs sLaw) (defBody sLaw) (defScope sLaw) .none kV21 dc21 pm21 an21 cd21 ct21), sl21⟩) (c21 : PySem.W.codeIn K cd21 "law" = true) (k21 : PySem.W.keepIn K (.ref f21) = true)
    (aL : PySem.W.nsIn K mainGlobals "LETTERS" = some (some (.str "abcdefghijklmnopqrstuvwxyz" tk)))
    (z0 : PySem.W.nsIn K mainGlobals "int" = some none)
    (z1 : PySem.W.nsIn K mainGlobals "len" = some none)
    (z2 : PySem.W.nsIn K mainGlobals "tuple" = some none)
    (z3 : PySem.W.nsIn K mainGlobals "list" = some none)
    (z4 : PySem.W.nsIn K mainGlobals "range" = some none)
    (z5 : PySem.W.nsIn K mainGlobals "isinstance" = some none)
    (z6 : PySem.W.nsIn K mainGlobals "all" = some none)
    (z7 : PySem.W.nsIn K mainGlobals "zip" = some none)
    (z8 : PySem.W.nsIn K mainGlobals "bool" = some none)
    (z9 : PySem.W.nsIn K mainGlobals "str" = some none)
    (z10 : PySem.W.nsIn K mainGlobals "repr" = some none)
    (z11 : PySem.W.nsIn K mainGlobals "abs" = some none)
    (z12 : PySem.W.nsIn K mainGlobals "min" = some none)
    (z13 : PySem.W.nsIn K mainGlobals "sorted" = some none)
    (z14 : PySem.W.nsIn K mainGlobals "set" = some none) :
    ∃ fd : FuncData, (∀ (s : Shared) (v : Value), BindsTo s fd ⟨[v], []⟩ [("_law_script", v)]) ∧ ∀ base : Heap, K.In base → base.Ns mainGlobals mg → FnG l.prog w K mg base 10 fa fd ["_law_script"] (spLaw K) := by
  have e := hfa.symm.trans (PySem.W.mg_of X G a21)
  cases e
  have F0 := fun_mk (st := sNum) l0 c0 k0
  have b0 := F0.binds (ps := ["thing", "least"]) fun _ _ _ _ _ _ us hl => match us, hl with | [_, _], _ => rfl
  have m0 := PySem.W.mg_of X G a0
  have F1 := fun_mk (st := sLets) l1 c1 k1
  have b1 := F1.binds (ps := ["thing", "least"]) fun _ _ _ _ _ _ us hl => match us, hl with | [_, _], _ => rfl
  have m1 := PySem.W.mg_of X G a1
  have F2 := fun_mk (st := sIsName) l2 c2 k2
  have b2 := F2.binds (ps := ["thing"]) fun _ _ _ _ _ _ us hl => match us, hl with | [_], _ => rfl
  have m2 := PySem.W.mg_of X G a2
  have F3 := fun_mk (st := sRow) l3 c3 k3
  have b3 := F3.binds (ps := ["thing", "many"]) fun _ _ _ _ _ _ us hl => match us, hl with | [_, _], _ => rfl
  have m3 := PySem.W.mg_of X G a3
  have F4 := fun_mk (st := sAsc) l4 c4 k4
  have b4 := F4.binds (ps := ["names"]) fun _ _ _ _ _ _ us hl => match us, hl with | [_], _ => rfl
  have m4 := PySem.W.mg_of X G a4
  have F5 := fun_mk (st := sAreNames) l5 c5 k5
  have b5 := F5.binds (ps := ["thing"]) fun _ _ _ _ _ _ us hl => match us, hl with | [_], _ => rfl
  have m5 := PySem.W.mg_of X G a5
  have F6 := fun_mk (st := sIsSetup) l6 c6 k6
  have b6 := F6.binds (ps := ["thing"]) fun _ _ _ _ _ _ us hl => match us, hl with | [_], _ => rfl
  have m6 := PySem.W.mg_of X G a6
  have F7 := fun_mk (st := sTake) l7 c7 k7
  have b7 := F7.binds (ps := ["_law_box_here", "_law_below"]) fun _ _ _ _ _ _ us hl => match us, hl with | [_, _], _ => rfl
  have m7 := PySem.W.mg_of X G a7
  have F8 := fun_mk (st := sOf) l8 c8 k8
  have b8 := F8.binds (ps := ["_law_box_here", "_law_some"]) fun _ _ _ _ _ _ us hl => match us, hl with | [_, _], _ => rfl
  have m8 := PySem.W.mg_of X G a8
  have F9 := fun_mk (st := sName) l9 c9 k9
  have b9 := F9.binds (ps := ["_law_box_here"]) fun _ _ _ _ _ _ us hl => match us, hl with | [_], _ => rfl
  have m9 := PySem.W.mg_of X G a9
  have F10 := fun_mk (st := sNames) l10 c10 k10
  have b10 := F10.binds (ps := ["_law_box_here", "_law_many_so"]) fun _ _ _ _ _ _ us hl => match us, hl with | [_, _], _ => rfl
  have m10 := PySem.W.mg_of X G a10
  have F11 := fun_mk (st := sNamed) l11 c11 k11
  have b11 := F11.binds (ps := ["_law_box_here", "_law_least_so"]) fun _ _ _ _ _ _ us hl => match us, hl with | [_, _], _ => rfl
  have m11 := PySem.W.mg_of X G a11
  have F12 := fun_mk (st := sLists) l12 c12 k12
  have b12 := F12.binds (ps := ["_law_matter"]) fun _ _ _ _ _ _ us hl => match us, hl with | [_], _ => rfl
  have m12 := PySem.W.mg_of X G a12
  have F13 := fun_mk (st := sBent) l13 c13 k13
  have b13 := F13.binds (ps := ["_law_box_here", "_law_bit"]) fun _ _ _ _ _ _ us hl => match us, hl with | [_, _], _ => rfl
  have m13 := PySem.W.mg_of X G a13
  have F14 := fun_mk (st := sRowOf) l14 c14 k14
  have b14 := F14.binds (ps := ["_law_matter", "_law_size"]) fun _ _ _ _ _ _ us hl => match us, hl with | [_, _], _ => rfl
  have m14 := PySem.W.mg_of X G a14
  have F15 := fun_mk (st := sWhole) l15 c15 k15
  have b15 := F15.binds (ps := ["_law_matter", "_law_least_so"]) fun _ _ _ _ _ _ us hl => match us, hl with | [_, _], _ => rfl
  have m15 := PySem.W.mg_of X G a15
  have F16 := fun_mk (st := sIsWord) l16 c16 k16
  have b16 := F16.binds (ps := ["_law_matter", "_law_most_so"]) fun _ _ _ _ _ _ us hl => match us, hl with | [_, _], _ => rfl
  have m16 := PySem.W.mg_of X G a16
  have F17 := fun_mk (st := sLawSetup) l17 c17 k17
  have b17 := F17.binds (ps := ["_law_matter"]) fun _ _ _ _ _ _ us hl => match us, hl with | [_], _ => rfl
  have m17 := PySem.W.mg_of X G a17
  have F18 := fun_mk (st := sSame) l18 c18 k18
  have b18 := F18.binds (ps := ["_law_found", "_law_due"]) fun _ _ _ _ _ _ us hl => match us, hl with | [_, _], _ => rfl
  have m18 := PySem.W.mg_of X G a18
  have F19 := fun_mk (st := sBox) l19 c19 k19
  have b19 := F19.binds (ps := ["_law_script", "_law_k"]) fun _ _ _ _ _ _ us hl => match us, hl with | [_, _], _ => rfl
  have m19 := PySem.W.mg_of X G a19
  have F20 := fun_mk (st := sRight) l20 c20 k20
  have b20 := F20.binds (ps := ["_law_box_here"]) fun _ _ _ _ _ _ us hl => match us, hl with | [_], _ => rfl
  have m20 := PySem.W.mg_of X G a20
  have F21 := fun_mk (st := sLaw) l21 c21 k21
  have m21 := PySem.W.mg_of X G a21
  have kI := kb1 (a := "thing") F6 fun _ _ _ _ _ _ _ => ⟨rfl, rfl⟩
  have mL := PySem.W.mg_of X G aL
  have y0 := PySem.W.mg_none_of X G z0
  have y1 := PySem.W.mg_none_of X G z1
  have y2 := PySem.W.mg_none_of X G z2
  have y3 := PySem.W.mg_none_of X G z3
  have y4 := PySem.W.mg_none_of X G z4
  have y5 := PySem.W.mg_none_of X G z5
  have y6 := PySem.W.mg_none_of X G z6
  have y7 := PySem.W.mg_none_of X G z7
  have y8 := PySem.W.mg_none_of X G z8
  have y9 := PySem.W.mg_none_of X G z9
  have y10 := PySem.W.mg_none_of X G z10
  have y11 := PySem.W.mg_none_of X G z11
  have y12 := PySem.W.mg_none_of X G z12
  have y13 := PySem.W.mg_none_of X G z13
  have y14 := PySem.W.mg_none_of X G z14
  refine ⟨PySem.W.fnOf "law" "law" (defArgs sLaw) (defBody sLaw) (defScope sLaw) .none kV21 dc21 pm21 an21 cd21 ct21, fun s v => .of_eq rfl, fun base _ _ => ?_⟩
  have gT : FnOk l.prog w K mg base CX0 7 f7 _ ["_law_box_here", "_law_below"] spTake := ok_take (k := 6) F7 y0
  have gO : FnOk l.prog w K mg base CX0 7 f8 _ ["_law_box_here", "_law_some"] (spOf K) := ok_of (k := 5) F8 F7 b7 m7 y0 y1
  have gN : FnOk l.prog w K mg base CX0 6 f9 _ ["_law_box_here"] (spName K) := ok_name (k := 3) F9 F7 b7 m7 F8 b8 m8 y0 y1 y4
  have gM : FnOk l.prog w K mg base CX0 7 f10 _ ["_law_box_here", "_law_many_so"] (spNames K) := ok_names (k := 3) F10 F9 b9 m9 gN y4
  have gD : FnOk l.prog w K mg base CX0 8 f11 _ ["_law_box_here", "_law_least_so"] (spNamed K) := ok_named (k := 3) F11 F7 b7 m7 gT F8 b8 m8 gO F10 b10 m10 gM y4 y2 y13
  have gL : FnOk l.prog w K mg base CX0 8 f12 _ ["_law_matter"] (spLists K 7) := ok_lists F12 b12 m12 y5 y3 y2 7
  have gB : FnOk l.prog w K mg base CX0 6 f13 _ ["_law_box_here", "_law_bit"] (spBent K 4) := ok_bent F13 b13 m13 F7 b7 m7 F8 b8 m8 y0 y1 y5 y3 y2 y8 y9 4
  have gR : FnOk l.prog w K mg base CX0 7 f3 _ ["thing", "many"] (spRow K) := ok_row (k := 6) F3 y5 y1 y2
  have gU : FnOk l.prog w K mg base CX0 7 f0 _ ["thing", "least"] (spNum K) := ok_num (k := 6) F0 y5 y0 y8
  have gE : FnOk l.prog w K mg base CX0 5 f1 _ ["thing", "least"] (spLets K) := ok_lets (k := 4) F1 y5 y1 y9 y6 mL
  have gA : FnOk l.prog w K mg base CX0 6 f2 _ ["thing"] (spIsName K) := ok_isName (k := 4) F2 F1 b1 m1 gE y1
  have gC : FnOk l.prog w K mg base CX0 6 f4 _ ["names"] (spAsc K) := ok_asc (k := 5) F4 y6 y7
  have gF : FnOk l.prog w K mg base CX0 7 f5 _ ["thing"] (spAre K) := ok_are (k := 4) F5 F2 b2 m2 gA F4 b4 m4 gC y5 y2 y6
  have gI : FnOk l.prog w K mg base CX0 8 f6 _ ["thing"] (spIsSetup K) := ok_isSetup (k := 4) F6 F3 b3 m3 gR F0 b0 m0 gU F5 b5 m5 gF y5 y2 y6
  have gV : FnOk l.prog w K mg base CX0 7 f14 _ ["_law_matter", "_law_size"] (spRow K) := ok_rowOf (k := 6) F14 y5 y1 y2
  have gW : FnOk l.prog w K mg base CX0 7 f15 _ ["_law_matter", "_law_least_so"] (spNum K) := ok_whole (k := 6) F15 y5 y0 y8
  have gX : FnOk l.prog w K mg base CX0 7 f16 _ ["_law_matter", "_law_most_so"] (spIsWord K) := ok_isWord (k := 6) F16 y5 y1 y9
  have gQ : FnOk l.prog w K mg base CX0 8 f17 _ ["_law_matter"] (spIsSetup K) := ok_lawSetup (k := 4) F17 F14 b14 m14 gV F15 b15 m15 gW F16 b16 m16 gX y5 y2 y6 y3 y14 y13 y9
  have gS : FnOk l.prog w K mg base CX0 8 f18 _ ["_law_found", "_law_due"] (spSame K 8) := ok_same F18 b18 m18 y5 y3 y2 y1 y6 y7 y8 y9 y0 8
  have gZ : FnOk l.prog w K mg base CX0 1 f19 _ ["_law_script", "_law_k"] (spBox K) := ok_box (k := 0) F19 y0 y1 y11
  have gRight : FnG l.prog w K mg base 9 f20 _ ["_law_box_here"] spRight := ok_right F20 F11 b11 m11 gD F12 b12 m12 gL F13 b13 m13 gB F17 b17 m17 gQ F6 b6 kI m6 gI F18 b18 m18 gS y3 y4 y10
  exact ok_law F21 F20 b20 m20 gRight F19 b19 m19 y0 y1 y11 y12 y4 y6
end KV
open PySem PySem.W PyProof.Rows
set_option maxRecDepth 100000 in
set_option maxHeartbeats 0 in
theorem PySem.Challenge.cw_endonce_k00_setups_holds : PySem.Challenge.rw_endonce_k00_setups.Holds := by
  w_on; o_law; k_head; (case hw => w_witness2)
  k_fill
  refine KV.walkG (l := PySem.Challenge.rw_endonce_k00_setups) (n := 63) (k := 10) (x := "_law_script") (sp := fun w => KV.spLaw _) rfl (by decide) rfl ⟨rfl, by decide, by decide⟩ (fun w h Y => PySem.W.kIn_of Y) ?F (fun _ _ a ns hl _ hS => ⟨a, ns, rfl, hS, hl, fun _ => rfl⟩)
  case F =>
    intro w mg fa h KX G hmg
    refine' KV.all_mk KX G hmg ?a0 ?l0 ?c0 ?k0 ?a1 ?l1 ?c1 ?k1 ?a2 ?l2 ?c2 ?k2 ?a3 ?l3 ?c3 ?k3 ?a4 ?l4 ?c4 ?k4 ?a5 ?l5 ?c5 ?k5 ?a6 ?l6 ?c6 ?k6 ?a7 ?l7 ?c7 ?k7 ?a8 ?l8 ?c8 ?k8 ?a9 ?l9 ?c9 ?k9 ?a10 ?l10 ?c10 ?k10 ?a11 ?l11 ?c11 ?k11 ?a12 ?l12 ?c12 ?k12 ?a13 ?l13 ?c13 ?k13 ?a14 ?l14 ?c14 ?k14 ?a15 ?l15 ?c15 ?k15 ?a16 ?l16 ?c16 ?k16 ?a17 ?l17 ?c17 ?k17 ?a18 ?l18 ?c18 ?k18 ?a19 ?l19 ?c19 ?k19 ?a20 ?l20 ?c20 ?k20 ?a21 ?l21 ?c21 ?k21 ?aL ?z0 ?z1 ?z2 ?z3 ?z4 ?z5 ?z6 ?z7 ?z8 ?z9 ?z10 ?z11 ?z12 ?z13 ?z14
    (case a0 => k_is)
    (case l0 => k_is)
    (case c0 => k_is)
    (case k0 => k_is)
    (case a1 => k_is)
    (case l1 => k_is)
    (case c1 => k_is)
    (case k1 => k_is)
    (case a2 => k_is)
    (case l2 => k_is)
    (case c2 => k_is)
    (case k2 => k_is)
    (case a3 => k_is)
    (case l3 => k_is)
    (case c3 => k_is)
    (case k3 => k_is)
    (case a4 => k_is)
    (case l4 => k_is)
    (case c4 => k_is)
    (case k4 => k_is)
    (case a5 => k_is)
    (case l5 => k_is)
    (case c5 => k_is)
    (case k5 => k_is)
    (case a6 => k_is)
    (case l6 => k_is)
    (case c6 => k_is)
    (case k6 => k_is)
    (case a7 => k_is)
    (case l7 => k_is)
    (case c7 => k_is)
    (case k7 => k_is)
    (case a8 => k_is)
    (case l8 => k_is)
    (case c8 => k_is)
    (case k8 => k_is)
    (case a9 => k_is)
    (case l9 => k_is)
    (case c9 => k_is)
    (case k9 => k_is)
    (case a10 => k_is)
    (case l10 => k_is)
    (case c10 => k_is)
    (case k10 => k_is)
    (case a11 => k_is)
    (case l11 => k_is)
    (case c11 => k_is)
    (case k11 => k_is)
    (case a12 => k_is)
    (case l12 => k_is)
    (case c12 => k_is)
    (case k12 => k_is)
    (case a13 => k_is)
    (case l13 => k_is)
    (case c13 => k_is)
    (case k13 => k_is)
    (case a14 => k_is)
    (case l14 => k_is)
    (case c14 => k_is)
    (case k14 => k_is)
    (case a15 => k_is)
    (case l15 => k_is)
    (case c15 => k_is)
    (case k15 => k_is)
    (case a16 => k_is)
    (case l16 => k_is)
    (case c16 => k_is)
    (case k16 => k_is)
    (case a17 => k_is)
    (case l17 => k_is)
    (case c17 => k_is)
    (case k17 => k_is)
    (case a18 => k_is)
    (case l18 => k_is)
    (case c18 => k_is)
    (case k18 => k_is)
    (case a19 => k_is)
    (case l19 => k_is)
    (case c19 => k_is)
    (case k19 => k_is)
    (case a20 => k_is)
    (case l20 => k_is)
    (case c20 => k_is)
    (case k20 => k_is)
    (case a21 => k_is)
    (case l21 => k_is)
    (case c21 => k_is)
    (case k21 => k_is)
    (case aL => k_is)
    (case z0 => k_is)
    (case z1 => k_is)
    (case z2 => k_is)
    (case z3 => k_is)
    (case z4 => k_is)
    (case z5 => k_is)
    (case z6 => k_is)
    (case z7 => k_is)
    (case z8 => k_is)
    (case z9 => k_is)
    (case z10 => k_is)
    (case z11 => k_is)
    (case z12 => k_is)
    (case z13 => k_is)
    (case z14 => k_is)
