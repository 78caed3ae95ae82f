import PyProof.Rows.All
import Wide.All
import OpenK.AllK
import Wide.FinOn
import PyProof.ReprRoads
import HandS.ForMost
import HandS.IsInst
import HandS.NoneIn
import HandS.TupAny
import HandS.Style
import HandS.Defaults
import HandS.Zip
import HandS.Walk
import HandS.Deep
import OpenK.KMore
import HandS.SetFor
import HandS.SetTxt0
import HandS.Strs
import PyProof.Rows.SortShellAny
import HandS.Text
import HandS.Steps
import HandS.MapJoin
import HandS.RevTup
import PySem.Challenge.RW_endonce_k03_chains_and_tags
set_option Elab.async false
set_option linter.all false
set_option maxRecDepth 100000
set_option maxHeartbeats 4000000
namespace KV
open PySem PySem.Spec PyProof.Rows L2
/-! ### heaps -/
theorem same_upd {H : Hp} {p : Addr} {o : HO} (h : H p = none) : Same H (upd H p o) := fun b x e => by
  rw [upd_ne (ne_of_none e h)]
  exact e
theorem same_seqT {K : PySem.W.Frag} {H H' : Hp} {a : Addr} {xs : List V} (e : Same H H') (h : SqT K H a xs) : SqT K H' a xs := by
  rcases h with (h | ⟨o, h⟩) | h
  · exact .inl (.inl (e _ _ h))
  · exact .inl (.inr ⟨o, e _ _ h⟩)
  · exact .inr h
mutual
theorem dp_same {K : PySem.W.Frag} {H H' : Hp} (e : Same H H') : ∀ {v : V} {d : PyData}, Dp K H v d → Dp K H' v d
  | _, _, .non => .non
  | _, _, .bl b => .bl b
  | _, _, .int i => .int i
  | _, _, .str x => .str x
  | _, _, .lst h1 h2 => .lst (e.seq h1) (dps_same e h2)
  | _, _, .tup h1 h2 => .tup (same_seqT e h1) (dps_same e h2)
theorem dps_same {K : PySem.W.Frag} {H H' : Hp} (e : Same H H') : ∀ {vs : List V} {ds : List PyData}, DpAll K H vs ds → DpAll K H' vs ds
  | _, _, .nil => .nil
  | _, _, .cons h1 h2 => .cons (dp_same e h1) (dps_same e h2)
end
theorem dps_len {K : PySem.W.Frag} {H : Hp} : ∀ {vs : List V} {ds : List PyData}, DpAll K H vs ds → vs.length = ds.length
  | _, _, .nil => rfl
  | _, _, .cons _ h => congrArg (· + 1) (dps_len h)
theorem dps_get {K : PySem.W.Frag} {H : Hp} : ∀ {vs : List V} {ds : List PyData} {i : Nat} {v : V}, DpAll K H vs ds → vs[i]? = some v → ∃ d, ds[i]? = some d ∧ Dp K H v d
  | _, _, 0, _, .cons h1 _, e => ⟨_, rfl, by cases e; exact h1⟩
  | _, _, i + 1, _, .cons _ h2, e => dps_get (i := i) h2 e
theorem dps_get' {K : PySem.W.Frag} {H : Hp} : ∀ {vs : List V} {ds : List PyData} {i : Nat} {d : PyData}, DpAll K H vs ds → ds[i]? = some d → ∃ v, vs[i]? = some v ∧ Dp K H v d
  | _, _, 0, _, .cons h1 _, e => ⟨_, rfl, by cases e; exact h1⟩
  | _, _, i + 1, _, .cons _ h2, e => dps_get' (i := i) h2 e
theorem dps_app {K : PySem.W.Frag} {H : Hp} : ∀ {vs ws : List V} {ds es : List PyData}, DpAll K H vs ds → DpAll K H ws es → DpAll K H (vs ++ ws) (ds ++ es)
  | _, _, _, _, .nil, h => h
  | _, _, _, _, .cons h1 h2, h => .cons h1 (dps_app h2 h)
theorem dps_drop {K : PySem.W.Frag} {H : Hp} : ∀ {vs : List V} {ds : List PyData} (n : Nat), DpAll K H vs ds → DpAll K H (vs.drop n) (ds.drop n)
  | _, _, 0, h => h
  | _, _, n + 1, .nil => .nil
  | _, _, n + 1, .cons _ h => dps_drop n h
theorem dps_take {K : PySem.W.Frag} {H : Hp} : ∀ {vs : List V} {ds : List PyData} (n : Nat), DpAll K H vs ds → DpAll K H (vs.take n) (ds.take n)
  | _, _, 0, _ => .nil
  | _, _, n + 1, .nil => .nil
  | _, _, n + 1, .cons h1 h => .cons h1 (dps_take n h)
/-- the heap without some objects -/
def hide (B : List Addr) (H : Hp) : Hp := fun c => if c ∈ B then none else H c
theorem hide_out {B : List Addr} {H : Hp} {c : Addr} (h : c ∉ B) : hide B H c = H c := if_neg h
theorem hide_in {B : List Addr} {H : Hp} {c : Addr} (h : c ∈ B) : hide B H c = none := if_pos h
theorem hide_some {B : List Addr} {H : Hp} {c : Addr} {o : HO} (h : hide B H c = some o) : c ∉ B ∧ H c = some o := by
  by_cases e : c ∈ B
  · rw [hide_in e] at h; cases h
  · rw [hide_out e] at h; exact ⟨e, h⟩
theorem hide_same (B : List Addr) (H : Hp) : Same (hide B H) H := fun c o h => (hide_some h).2
theorem hide_nil (H : Hp) : hide [] H = H := funext fun c => hide_out List.not_mem_nil
/-- all but these is as it was -/
def SameX (B : List Addr) (H H' : Hp) : Prop := ∀ c o, c ∉ B → H c = some o → H' c = some o
theorem SameX.refl (B : List Addr) (H : Hp) : SameX B H H := fun _ _ _ h => h
theorem SameX.trans {B : List Addr} {H H1 H2 : Hp} (h1 : SameX B H H1) (h2 : SameX B H1 H2) : SameX B H H2 := fun c o n h => h2 c o n (h1 c o n h)
theorem SameX.of {B : List Addr} {H H' : Hp} (h : Same H H') : SameX B H H' := fun c o _ e => h c o e
theorem SameX.sub {B C : List Addr} {H H' : Hp} (h : SameX B H H') (s : ∀ b ∈ B, b ∈ C) : SameX C H H' := fun c o n e => h c o (fun z => n (s c z)) e
theorem SameX.same {H H' : Hp} (h : SameX [] H H') : Same H H' := fun c o e => h c o List.not_mem_nil e
theorem SameX.hide {B C : List Addr} {H H' : Hp} (h : SameX C H H') (s : ∀ b ∈ C, b ∈ B) : Same (hide B H) (hide B H') := fun c o e => by
  obtain ⟨n, e⟩ := hide_some e
  rw [hide_out n]
  exact h c o (fun z => n (s c z)) e
theorem sameX_upd {B : List Addr} {b : Addr} {H : Hp} {o : HO} (h : b ∈ B) : SameX B H (upd H b o) := fun c z n e => by
  have k : c ≠ b := fun q => n (by rw [q]; exact h)
  rw [upd_ne k]
  exact e
/-- a new object among the hidden ones -/
theorem SameX.enter {B C : List Addr} {H H' : Hp} {D : Addr} (h : SameX (D :: C) H H') (s : ∀ b ∈ C, b ∈ B) (n : H D = none) : Same (KV.hide B H) (KV.hide (D :: B) H') := fun c o e => by
  obtain ⟨k, e⟩ := hide_some e
  have cD : c ≠ D := ne_of_none e n
  have kD : c ∉ D :: B := fun z => (List.mem_cons.mp z).elim cD k
  rw [hide_out kD]
  exact h c o (fun z => (List.mem_cons.mp z).elim cD fun z => k (s c z)) e
/-- the new object goes: what was told without it stands with it -/
theorem hide_leave {B : List Addr} {H : Hp} {D : Addr} : Same (hide (D :: B) H) (hide B H) := fun c o e => by
  obtain ⟨k, e⟩ := hide_some e
  rw [hide_out (fun z => k (List.mem_cons_of_mem _ z))]
  exact e
theorem hide_upd {B : List Addr} {p : Addr} {H : Hp} {o : HO} (n : p ∉ B) : hide B (upd H p o) = upd (hide B H) p o := by
  funext c
  by_cases e : c ∈ B
  · have k : c ≠ p := fun z => n (by rw [← z]; exact e)
    rw [hide_in e, upd_ne k, hide_in e]
  · rw [hide_out e]
    by_cases q : c = p
    · subst q
      rw [upd_same, upd_same]
    · rw [upd_ne q, upd_ne q, hide_out e]
theorem hide_upd_in {B : List Addr} {p : Addr} {H : Hp} {o : HO} (n : p ∈ B) : hide B (upd H p o) = hide B H := by
  funext c
  by_cases e : c ∈ B
  · rw [hide_in e, hide_in e]
  · have k : c ≠ p := fun z => e (by rw [z]; exact n)
    rw [hide_out e, hide_out e, upd_ne k]
/-- these stand -/
def Live (B : List Addr) (H : Hp) : Prop := ∀ b ∈ B, H b ≠ none
theorem Live.nil (H : Hp) : Live [] H := fun _ h => absurd h List.not_mem_nil
theorem Live.new {B : List Addr} {H : Hp} {p : Addr} (h : Live B H) (e : H p = none) : p ∉ B := fun z => h p z e
theorem Live.same {B : List Addr} {H H' : Hp} (h : Live B H) (s : Same H H') : Live B H' := fun b hb e => by
  cases q : H b with
  | none => exact h b hb q
  | some o => rw [s b o q] at e; cases e
theorem Live.cons {B : List Addr} {H : Hp} {D : Addr} {o : HO} (h : Live B H) (e : H D = some o) : Live (D :: B) H := fun b hb => by
  rcases List.mem_cons.mp hb with rfl | hb
  · rw [e]; exact fun z => nomatch z
  · exact h b hb
theorem Live.tail {B : List Addr} {H : Hp} {D : Addr} (h : Live (D :: B) H) : Live B H := fun b hb => h b (List.mem_cons_of_mem _ hb)
theorem Live.upd {B : List Addr} {H : Hp} {p : Addr} {o : HO} (h : Live B H) : Live B (upd H p o) := fun b hb => by
  by_cases e : b = p
  · rw [e, upd_same]; exact fun z => nomatch z
  · rw [upd_ne e]; exact h b hb
/-- the box of draws: below n draws by its third number -/
def BoxAt (H : Hp) (b : Addr) (n : Nat) : Prop := ∃ x y c : Int, H b = some (.lst [.int x, .int y, .int c]) ∧ 0 ≤ y ∧ y < 2 ^ 62 ∧ 0 ≤ c ∧ c ≤ n
theorem BoxAt.le {H : Hp} {b : Addr} {n m : Nat} (h : BoxAt H b n) (k : n ≤ m) : BoxAt H b m := by
  obtain ⟨x, y, c, h1, h2, h3, h4, h5⟩ := h
  exact ⟨x, y, c, h1, h2, h3, h4, by omega⟩
theorem BoxAt.same {H H' : Hp} {b : Addr} {n : Nat} (h : BoxAt H b n) (e : Same H H') : BoxAt H' b n := by
  obtain ⟨x, y, c, h1, h2⟩ := h
  exact ⟨x, y, c, e _ _ h1, h2⟩
theorem BoxAt.new {H : Hp} {b p : Addr} {n : Nat} (h : BoxAt H b n) (e : H p = none) : p ≠ b := by
  obtain ⟨x, y, c, h1, _⟩ := h
  exact fun z => by rw [z, h1] at e; cases e
/-! ### data -/
mutual
def tupD : PyData → PyData
  | .list xs => .tuple (tupDs xs)
  | .tuple xs => .tuple (tupDs xs)
  | .none => .none
  | .bool b => .bool b
  | .int i => .int i
  | .str s => .str s
  | .dict k => .dict k
def tupDs : List PyData → List PyData
  | [] => []
  | d :: ds => tupD d :: tupDs ds
end
mutual
def lstD : PyData → PyData
  | .list xs => .list (lstDs xs)
  | .tuple xs => .list (lstDs xs)
  | .none => .none
  | .bool b => .bool b
  | .int i => .int i
  | .str s => .str s
  | .dict k => .dict k
def lstDs : List PyData → List PyData
  | [] => []
  | d :: ds => lstD d :: lstDs ds
end
mutual
/-- no dict, at most so deep, no sequence longer than 1000 -/
def okD : PyData → Nat → Bool
  | .list xs, n => decide (0 < n) && decide (xs.length ≤ 1000) && okDs xs (n - 1)
  | .tuple xs, n => decide (0 < n) && decide (xs.length ≤ 1000) && okDs xs (n - 1)
  | .none, _ => true
  | .bool _, _ => true
  | .int _, _ => true
  | .str _, _ => true
  | .dict _, _ => false
def okDs : List PyData → Nat → Bool
  | [], _ => true
  | d :: ds, n => okD d n && okDs ds n
end
theorem tupDs_map : ∀ ds, tupDs ds = ds.map tupD
  | [] => by simp [tupDs]
  | d :: ds => by simp [tupDs, tupDs_map ds]
theorem lstDs_map : ∀ ds, lstDs ds = ds.map lstD
  | [] => by simp [lstDs]
  | d :: ds => by simp [lstDs, lstDs_map ds]
theorem tupDs_len (ds : List PyData) : (tupDs ds).length = ds.length := by rw [tupDs_map, List.length_map]
theorem lstDs_len (ds : List PyData) : (lstDs ds).length = ds.length := by rw [lstDs_map, List.length_map]
theorem okDs_all : ∀ ds n, okDs ds n = ds.all fun d => okD d n
  | [], _ => by simp [okDs]
  | d :: ds, n => by simp [okDs, okDs_all ds n]
theorem okDs_get {ds : List PyData} {n i : Nat} {d : PyData} (h : okDs ds n = true) (e : ds[i]? = some d) : okD d n = true := by
  rw [okDs_all, List.all_eq_true] at h
  exact h d (List.mem_of_getElem? e)
mutual
theorem tup_lst : ∀ d, tupD (lstD d) = tupD d
  | .list xs => by simp only [lstD, tupD, tup_lsts xs]
  | .tuple xs => by simp only [lstD, tupD, tup_lsts xs]
  | .none => by simp only [lstD]
  | .bool b => by simp only [lstD]
  | .int i => by simp only [lstD]
  | .str s => by simp only [lstD]
  | .dict k => by simp only [lstD]
theorem tup_lsts : ∀ ds, tupDs (lstDs ds) = tupDs ds
  | [] => by simp only [lstDs]
  | d :: ds => by simp only [lstDs, tupDs, tup_lst d, tup_lsts ds]
end
mutual
theorem ok_lst : ∀ d n, okD (lstD d) n = okD d n
  | .list xs, n => by simp only [lstD, okD, ok_lsts xs, lstDs_len]
  | .tuple xs, n => by simp only [lstD, okD, ok_lsts xs, lstDs_len]
  | .none, n => by simp only [lstD]
  | .bool b, n => by simp only [lstD]
  | .int i, n => by simp only [lstD]
  | .str s, n => by simp only [lstD]
  | .dict k, n => by simp only [lstD]
theorem ok_lsts : ∀ ds n, okDs (lstDs ds) n = okDs ds n
  | [], n => by simp only [lstDs]
  | d :: ds, n => by simp only [lstDs, okDs, ok_lst d, ok_lsts ds]
end
mutual
theorem ok_tup : ∀ d n, okD (tupD d) n = okD d n
  | .list xs, n => by simp only [tupD, okD, ok_tups xs, tupDs_len]
  | .tuple xs, n => by simp only [tupD, okD, ok_tups xs, tupDs_len]
  | .none, n => by simp only [tupD]
  | .bool b, n => by simp only [tupD]
  | .int i, n => by simp only [tupD]
  | .str s, n => by simp only [tupD]
  | .dict k, n => by simp only [tupD]
theorem ok_tups : ∀ ds n, okDs (tupDs ds) n = okDs ds n
  | [], n => by simp only [tupDs]
  | d :: ds, n => by simp only [tupDs, okDs, ok_tup d, ok_tups ds]
end
mutual
/-- how many sequences -/
def nodesD : PyData → Nat
  | .list xs => nodesDs xs + 1
  | .tuple xs => nodesDs xs + 1
  | .none => 0
  | .bool _ => 0
  | .int _ => 0
  | .str _ => 0
  | .dict _ => 0
def nodesDs : List PyData → Nat
  | [] => 0
  | d :: ds => nodesD d + nodesDs ds
end
theorem ok_seq {xs : List PyData} {n : Nat} {d : PyData} (hd : d = .list xs ∨ d = .tuple xs) (h : okD d n = true) : ∃ m, n = m + 1 ∧ xs.length ≤ 1000 ∧ okDs xs m = true := by
  have h' : (decide (0 < n) && decide (xs.length ≤ 1000) && okDs xs (n - 1)) = true := by
    rcases hd with rfl | rfl <;> simpa only [okD] using h
  simp only [Bool.and_eq_true, decide_eq_true_eq] at h'
  obtain ⟨⟨h1, h2⟩, h3⟩ := h'
  exact ⟨n - 1, by omega, h2, h3⟩
/-- an atom -/
def isAtom : PyData → Bool
  | .none => true
  | .bool _ => true
  | .int _ => true
  | .str _ => true
  | _ => false
def isSeq : PyData → Bool
  | .list _ => true
  | .tuple _ => true
  | _ => false
/-! ### the class of a value -/
def tyD : PyData → String
  | .none => "NoneType"
  | .bool _ => "bool"
  | .int _ => "int"
  | .str _ => "str"
  | .list _ => "list"
  | .tuple _ => "tuple"
  | .dict _ => "dict"
theorem dp_ty {K : PySem.W.Frag} {H : Hp} {v : V} {d : PyData} (h : Dp K H v d) : TyX K H v (.type (tyD d)) := by
  cases h with
  | non => exact .base .non
  | bl b => exact .base (.bl b)
  | int i => exact .base (.int i)
  | str x => exact .base (.str x)
  | lst h1 _ =>
    rcases h1 with (h | ⟨o, h⟩) | ⟨o, its, n, h, hc, _⟩
    · exact .base (.lst h)
    · exact .base (.frz h)
    · exact .kList h hc
  | tup h1 _ =>
    rcases h1 with (h | ⟨o, h⟩) | ⟨o, its, n, h, hc, _⟩
    · exact .base (.tup h)
    · exact .fTuple h
    · exact .kTuple h hc
theorem kit_lt {K : PySem.W.Frag} {a : String} {r1 r2 : Bool} (h1 : kitB a "list" = some r1) (h2 : kitB a "tuple" = some r2) : PySem.W.kitAny K (.type a) [.type "list", .type "tuple"] = some (r1 || r2) := by
  cases r1 with
  | true => exact kitAny_cons (kit_ty h1) (fun z => nomatch z) fun _ => rfl
  | false =>
    cases r2 with
    | true => exact kitAny_cons (kit_ty h1) (fun _ => kitAny_cons (kit_ty h2) (fun z => nomatch z) fun _ => rfl) fun z => nomatch z
    | false => exact kitAny_cons (kit_ty h1) (fun _ => kitAny_cons (kit_ty h2) (fun _ => kitAny_nil) fun z => nomatch z) fun z => nomatch z
theorem kit_seq {K : PySem.W.Frag} : ∀ (d : PyData), PySem.W.kitAny K (.type (tyD d)) [.type "list", .type "tuple"] = some (isSeq d)
  | .none => kit_lt (a := "NoneType") (r1 := false) (r2 := false) (by decide +kernel) (by decide +kernel)
  | .bool _ => kit_lt (a := "bool") (r1 := false) (r2 := false) (by decide +kernel) (by decide +kernel)
  | .int _ => kit_lt (a := "int") (r1 := false) (r2 := false) (by decide +kernel) (by decide +kernel)
  | .str _ => kit_lt (a := "str") (r1 := false) (r2 := false) (by decide +kernel) (by decide +kernel)
  | .list _ => kit_lt (a := "list") (r1 := true) (r2 := false) (by decide +kernel) (by decide +kernel)
  | .tuple _ => kit_lt (a := "tuple") (r1 := false) (r2 := true) (by decide +kernel) (by decide +kernel)
  | .dict _ => kit_lt (a := "dict") (r1 := false) (r2 := false) (by decide +kernel) (by decide +kernel)
theorem cls_lt : Paired ClsV [.ty "list", .ty "tuple"] [.type "list", .type "tuple"] := .cons (.ty _) (.cons (.ty _) .nil)
theorem tup_atom : ∀ {d : PyData}, isSeq d = false → tupD d = d
  | .none, _ => by simp only [tupD]
  | .bool _, _ => by simp only [tupD]
  | .int _, _ => by simp only [tupD]
  | .str _, _ => by simp only [tupD]
  | .dict _, _ => by simp only [tupD]
theorem lst_atom : ∀ {d : PyData}, isSeq d = false → lstD d = d
  | .none, _ => by simp only [lstD]
  | .bool _, _ => by simp only [lstD]
  | .int _, _ => by simp only [lstD]
  | .str _, _ => by simp only [lstD]
  | .dict _, _ => by simp only [lstD]
/-- a sequence, of either kind -/
theorem dp_seq {K : PySem.W.Frag} {H : Hp} {v : V} {d : PyData} (h : Dp K H v d) (hs : isSeq d = true) : ∃ a xs ds, v = .ref a ∧ (SqL K H a xs ∧ d = .list ds ∨ SqT K H a xs ∧ d = .tuple ds) ∧ DpAll K H xs ds := by
  cases h with
  | lst h1 h2 => exact ⟨_, _, _, rfl, .inl ⟨h1, rfl⟩, h2⟩
  | tup h1 h2 => exact ⟨_, _, _, rfl, .inr ⟨h1, rfl⟩, h2⟩
  | non => exact nomatch hs
  | bl _ => exact nomatch hs
  | int _ => exact nomatch hs
  | str _ => exact nomatch hs
theorem dps_snoc {K : PySem.W.Frag} {H : Hp} {vs : List V} {ds : List PyData} {v : V} {d : PyData} (h : DpAll K H vs ds) (h1 : Dp K H v d) : DpAll K H (vs ++ [v]) (ds ++ [d]) := dps_app h (.cons h1 .nil)
theorem take_snoc {α : Type} {l : List α} {i : Nat} {x : α} (h : l[i]? = some x) : l.take (i + 1) = l.take i ++ [x] := by
  rw [List.take_add_one, h]
  rfl
/-! ### rules -/
section
variable {X : Cx} {pos : Pos}
/-- unpacking a list or a tuple -/
def gSeq (K : PySem.W.Frag) (n : Nat) (t : TGs) : TG := fun v σ H Q => ∃ a xs, v = .ref a ∧ (SqT K H a xs ∨ SqL K H a xs) ∧ xs.length = n ∧ t xs σ H Q
theorem pg_seq {es : List Expr} {k : Nat} {t : TGs} {n : Nat} (hc : X.calm = true) (h : PGs X es t)
    (hn : (assignEach es X.env).length = n := by rfl) (hst : (assignEach es X.env).findIdx? (·.1) = none := by rfl) : PG X (.Tuple es k pos) (gSeq X.K n t) := by
  refine ⟨fun pins s σ H v u Q I r hw => ?_⟩
  obtain ⟨a, xs, e1, hq | hq, hl, hw⟩ := hw
  · exact (pg_tup hc h hn hst).run pins s σ H v u Q I r ⟨a, xs, e1, hq, hl, hw⟩
  · exact (pg_unl hc h hn hst).run pins s σ H v u Q I r ⟨a, xs, e1, hq, hl, hw⟩
/-- walking a list or a tuple -/
def iSeq (K : PySem.W.Frag) (tl : TE) : TI := fun σ H R => iList K tl σ H R ∨ iTup K tl σ H R
theorem pi_seq {tg l : Expr} {tl : TE} (hl : PE X l tl) : PI X tg l (iSeq X.K tl) := by
  refine ⟨fun pins s σ H R I h => ?_⟩
  rcases h with h | h
  · exact (pi_list hl).run pins s σ H R I h
  · exact (pi_tup hl).run pins s σ H R I h
/-- isinstance(x, (list, tuple)) of data -/
def rIsSeq (K : PySem.W.Frag) : List V → Hp → VK → Prop := fun vs H Q => ∃ v tp d, vs = [v, .ref tp] ∧ H tp = some (.tup [.ty "list", .ty "tuple"]) ∧ Dp K H v d ∧ Q (.bl (isSeq d)) H
theorem cr_isSeq : CallR X (.builtin "isinstance") (rIsSeq X.K) := by
  intro pins s σ H vs us Q I r h
  obtain ⟨v, tp, d, rfl, ht, hd, q⟩ := h
  exact call_isiT pins s σ H _ us Q I r ⟨v, tp, _, _, _, _, rfl, ht, cls_lt, dp_ty hd, kit_seq d, q⟩
/-- repr of data -/
def rRepr (K : PySem.W.Frag) : List V → Hp → VK → Prop := fun vs H Q => ∃ v d, vs = [v] ∧ (∃ a, v = .ref a) ∧ Dp K H v d ∧ d.showable = true ∧ d.hasDict = false ∧ d.depth ≤ 60 ∧ d.shown.length ≤ sizeLine ∧ Q (.str d.shown) H
theorem cr_repr (hg : X.A.guards = some []) (hu : X.A.units + 64 < cLine) : CallR X (.builtin "repr") (rRepr X.K) := by
  intro pins s σ H vs us Q I r h
  obtain ⟨v, d, rfl, ⟨a, rfl⟩, hd, hs, hn, hdp, hz, q⟩ := h
  obtain ⟨u, rfl, ru⟩ := vals1 r
  cases (show u = Value.ref a from ru)
  obtain ⟨as, rd⟩ := Dp.reads I d (.ref a) (.ref a) hd rfl
  exact repr_of_reads' rd hs (fun z => by rw [hn] at z; cases z) hg (by omega) (fun _ _ e => e) (fun h' u tk hk => ⟨.str d.shown, H, I.kept hk, ⟨_, rfl⟩, q⟩) hz
end
end KV

namespace KV
open PySem PySem.Spec PyProof.Rows L2
/-! ### promises kept where no repr is under way -/
structure FnG (P : Program) (w : World) (K : PySem.W.Frag) (mg : Str → Option Value) (base : Heap) (k : Nat) (f : Addr) (fd : FuncData) (ps : List Str) (sp : Sp) : Prop where
  size : ∀ vs H Q E, sp vs H Q E → vs.length = ps.length
  goes : ∀ (A : Around) (outer : List Env) (s : Shared) (H : Hp) (args : Args) (us : List Value) (vs : List V) (Q : VK) (E : XK), A.guards = some [] → Room k A →
    Env0 P w K mg base A outer s H → BindsTo s fd args (ps.zip us) → Vals vs us → sp vs H Q E →
    codeAny (model P w) A (.call (.ref f) args) (CR CX0 outer P w H s Q E) s
theorem FnG.of {P : Program} {w : World} {K : PySem.W.Frag} {mg : Str → Option Value} {base : Heap} {k : Nat} {f : Addr} {fd : FuncData} {ps : List Str} {sp : Sp}
    (F : FnOk P w K mg base CX0 k f fd ps sp) : FnG P w K mg base k f fd ps sp :=
  ⟨F.len, fun A o s H args us vs Q E _ hr e0 hb r h => F.run A o s H args us vs Q E hr e0 hb r h⟩
/-- a def by its body, where no repr is under way -/
theorem okG {P : Program} {w : World} {K : PySem.W.Frag} {mg : Str → Option Value} {base : Heap} {x qual : Str} {st : Stmt} {f : Addr} {fd : FuncData} {N ps : List Str} {k : Nat} {sp : Sp}
    (F : Fun K x qual st f fd) (S : FnScope N ps (defScope st)) (size : ∀ vs H Q E, sp vs H Q E → vs.length = ps.length)
    (body : ∀ (cd : Value) (A : Around) (outer : List Env) (s : Shared) (H : Hp) (vs : List V) (Q : VK) (E : XK), A.guards = some [] →
      Room k (A.deeper (envOfC qual (defScope st) s.heap.objs.size f cd)) → sp vs H Q E →
      ∃ t, PSs (cxOf CX0 P w K mg base N qual (defScope st) f cd A outer s H E).nox (defBody st) t ∧ t { nx := fun _ H' => Q .non H', rt := Q } (start N vs) H) :
    FnG P w K mg base (k + 1) f fd ps sp := by
  obtain ⟨oc, od, kV, doc, pm, an, cd, ct, osl, rfl, lk, hcd⟩ := F.ex
  refine ⟨size, fun A outer s H args us vs Q E hgd room e0 binds rv hp => ?_⟩
  have inK : K.In s.heap := e0.mod.kin.keeps fun b o z => (e0.bs b o z).1
  have noLim : s.heap.NoLimit := e0.mod.nolimit.keeps fun b o z => (e0.bs b o z).1
  refine codeAny_call_function room.depth (inK _ _ lk) rfl S.co S.gen rfl (PySem.W.codeRec_of inK hcd) (binds _ _ _ _ ?_)
  refine wpAny_newFunctionEnv_cells S.kind (fun z hz => ?_) fun env he s1 x1 => ?_
  · obtain ⟨zn, zv⟩ := z
    exact (S.par zn (List.of_mem_zip hz).1).imp id fun q => ⟨q, PySem.W.cellsFrom_some _ _ _ (.inl q)⟩
  · subst he
    refine ⟨noLim.keeps x1.toInCall.keep, codeAny_func ?_⟩
    obtain ⟨t, ht, hq⟩ := body cd A outer s H vs Q E hgd (room.deeper _) hp
    have I := inv_start (CX := CX0) (P := P) (w := w) (K := K) (mg := mg) (base := base) (E := E) S room.hd e0 (size _ _ _ _ hp) rv x1
    refine wpAny_mono (ht.nox.run [] s1 (start N vs) H _ I hq) (fun fl s' hs => ?_) fun e s' hs => hs
    cases fl with
    | ret u =>
      obtain ⟨v, σ', H', J, q1, q2⟩ := hs
      exact ⟨v, H', J.os, J.bare, J.base, J.hok, q1, q2⟩
    | next =>
      obtain ⟨σ', H', J, q2⟩ := hs
      exact ⟨V.non, H', J.os, J.bare, J.base, J.hok, rfl, q2⟩
    | brk => obtain ⟨_, _, _, z⟩ := hs; exact z.elim
    | cont => obtain ⟨_, _, _, z⟩ := hs; exact z.elim
section
variable {X : Cx} {k : Nat} {f : Addr} {fd : FuncData} {ps ks : List Str} {sp : Sp} {E : XK} {x : Str} {p pos : Pos} {e : Expr} {es : List Expr} {t tk : TA} {kws : List Keyword}
/-- f(e, ..) of such a def -/
theorem pe_callG (F : FnG X.prog X.w X.K X.mg X.base k f fd ps sp) (hgd : X.A.guards = some []) (hr : Room k X.A) (hg : Gl X x) (hm : X.mg x = some (.ref f)) (hk : PySem.W.keepIn X.K (.ref f) = true) (hb : Binds X.K fd ps [])
    (ha : PA X (e :: es) t) (hdb : (x == ("__debug__" : Str)) = false := by decide) (he : starEach (e :: es) X.env = (false, eval e X.env) :: starEach es X.env := by rfl)
    (hpl : (backTo pos (starEach es X.env)).any (·.1) = false := by rfl) : PE X (.Call (.Name x p) (e :: es) [] pos) (tCall sp [] E0 t) := by
  refine ⟨fun pins s σ H Q I h => wpAny_Call_Name_kw (ld_glob I hg hm ?_ hdb)⟩
  refine PySem.W.callWith_K (h₀ := X.base) I.ok.mod.kin hk (thn (ha.run pos pins s σ H _ I h) fun us s1 hv => ?_) he hpl
  obtain ⟨vs, H1, I1, rv, q⟩ := hv
  have q0 : sp vs H1 Q E0 := by
    have q1 : sp (vs ++ []) H1 Q E0 := q
    rw [List.append_nil] at q1
    exact q1
  refine ⟨I1.kIn, wpAny_call (codeAny_mono (F.goes X.A X.stack s1 H1 ⟨us, []⟩ us vs Q E0 hgd hr I1.env0 ?_ rv q0) fun r s' hq => ?_)⟩
  · have hb1 := hb s1 us I1.kIn (by rw [List.append_nil, ← rv.length]; exact F.size _ _ _ _ q0)
    rw [List.append_nil] at hb1
    exact hb1
  · cases r with
    | error z => exact (show False from hq).elim
    | ok fl =>
      cases fl with
      | ret u => exact I1.after hq
      | next => exact (show False from hq).elim
      | brk => exact (show False from hq).elim
      | cont => exact (show False from hq).elim
variable {g : List Value → List Value → List Value} {gV : List V → List V → List V}
/-- f(k = v, ..) without positional values -/
theorem pe_callK0 (F : FnOk X.prog X.w X.K X.mg X.base CX0 k f fd ps sp) (hr : Room k X.A) (hg : Gl X x) (hm : X.mg x = some (.ref f)) (hk : PySem.W.keepIn X.K (.ref f) = true) (hb : KBinds X.K fd ps ks g gV)
    (hkw : PK X kws tk) (hall : (backToKw pos (keywordEach kws X.env)).all (·.1.isSome) = true := by rfl) (hks : (backToKw pos (keywordEach kws X.env)).filterMap (·.1) = ks := by rfl)
    (hdb : (x == ("__debug__" : Str)) = false := by decide)
    (hpl : ((backTo pos (starEach [] X.env)).any (·.1) || (backToKw pos (keywordEach kws X.env)).any (·.1.isNone)) = false := by rfl) :
    PE X (.Call (.Name x p) [] kws pos) (tCallK sp gV E0 tNil tk) := by
  refine ⟨fun pins s σ H Q I h => wpAny_Call_Name_kw (ld_glob I hg hm ?_ hdb)⟩
  refine PySem.W.callWith_KW0 (h₀ := X.base) I.ok.mod.kin hk hall (thn (hkw.run pos pins s σ H _ I h) fun ws s2 hv => ?_) hpl
  obtain ⟨zs, H2, I2, rz, q2⟩ := hv
  refine ⟨I2.kIn, ?_⟩
  rw [hks]
  exact run_fnk (us := []) (vs := []) F hr hb pass0 I2 .nil rz q2
end
/-- one parameter, given by its name -/
theorem kb1 {K : PySem.W.Frag} {x qual : Str} {st : Stmt} {f : Addr} {fd : FuncData} {a : Str} (F : Fun K x qual st f fd)
    (h : ∀ (kV doc pm : Value) (an : Option Addr) (cdv ct u : Value), bindArgs (PySem.W.fnOf x qual (defArgs st) (defBody st) (defScope st) .none kV doc pm an cdv ct) ⟨[], [(a, u)]⟩ = pure [(a, u)] ∧
      bindArgs (PySem.W.fnOf x qual (defArgs st) (defBody st) (defScope st) .none kV doc pm an cdv ct) ⟨[u], []⟩ = pure [(a, u)]) :
    KBinds K fd [a] [a] (fun us ws => us ++ ws) (fun vs zs => vs ++ zs) := by
  obtain ⟨oc, od, kV, doc, pm, an, cdv, ct, osl, rfl, lk, hcd⟩ := F.ex
  refine ⟨fun s us ws _ hl => ?_, fun r1 r2 => r1.append r2⟩
  match us, ws, hl with
  | [], [u], _ => exact .of_eq (h kV doc pm an cdv ct u).1
  | [u], [], _ => exact .of_eq (h kV doc pm an cdv ct u).2
/-! ### the head: the law's promise at the heap behind the top -/
theorem law_goes {P : Program} {w : World} {K : PySem.W.Frag} {mg mb : Str → Option Value} {k : Nat} {fa a : Addr} {fd : FuncData} {x : Str} {sp : Sp} {s₁ : Shared} {vs : List Value} {ns : List Int}
    (inK : K.In s₁.heap) (ng : s₁.heap.Ns mainGlobals mg) (nb : s₁.heap.Ns builtinsNs mb) (nbb : ∀ y : Str, y ≠ "__name__" → mb y = bootBuiltins y) (noLim : s₁.heap.NoLimit) (noGen : s₁.gens = #[])
    (cell : s₁.heap.get? a = some { cls := .type "list", data := .seq vs.toArray }) (nums : IntsAre vs ns) (short : ns.length ≤ sizeLine) (room : Room k callerA)
    (F : ∀ base : Heap, K.In base → base.Ns mainGlobals mg → FnG P w K mg base k fa fd [x] sp) (binds : ∀ (s : Shared) (u : Value), BindsTo s fd ⟨[u], []⟩ [(x, u)])
    (asks : ∀ H : Hp, Only H → SqL K H a (ns.map V.int) → sp [.ref a] H (fun v _ => v = .bl true) fun _ _ _ => False) :
    codeAny (model P w) callerA (.call (.ref fa) ⟨[.ref a], []⟩) (fun r s' => r = .ok (.ret (.bool true)) ∧ PySem.OldK s₁.heap s'.heap ∧ s'.os = s₁.os ∧ AllBare s'.gens) s₁ := by
  have rv := vals_ints nums
  have nLen := nums.length
  -- whatever is tracked is the script alone
  have main : ∀ H : Hp, Only H → SqL K H a (ns.map V.int) → HOk P w H s₁.heap → (∀ b, H b ≠ none → b = a ∧ K.lookup a = none) →
      codeAny (model P w) callerA (.call (.ref fa) ⟨[.ref a], []⟩) (fun r s' => r = .ok (.ret (.bool true)) ∧ PySem.OldK s₁.heap s'.heap ∧ s'.os = s₁.os ∧ AllBare s'.gens) s₁ := by
    intro H only seq ok alone
    have clear : ∀ {b : Addr} {o : Obj}, s₁.heap.get? b = some o → (∀ es ep, o.data = .dict es ep → True) → (∃ es ep, o.data = Data.dict es ep) → H b = none := fun {b o} eo _ hx => by
      obtain ⟨es, ep, hd⟩ := hx
      refine Classical.byContradiction fun z => ?_
      obtain ⟨rfl, _⟩ := alone b z
      rw [cell] at eo
      cases eo
      exact nomatch (show Data.seq vs.toArray _ = Data.dict es ep from hd)
    have nsB : ∀ {b : Addr} {m : Str → Option Value}, s₁.heap.Ns b m → (hidT s₁.heap H).Ns b m := fun {b m} ⟨o, es, ep, e, d, r⟩ => ⟨o, es, ep, hidT_get e (clear e (fun _ _ _ => trivial) ⟨es, ep, d⟩), d, r⟩
    have inB : K.In (hidT s₁.heap H) := fun b o e => hidT_get (inK b o e) (Classical.byContradiction fun z => by
      obtain ⟨rfl, hn⟩ := alone b z
      rw [hn] at e
      cases e)
    have md : Mod K mg (hidT s₁.heap H) := ⟨inB, nsB ng, ⟨mb, nsB nb, nbb⟩, let ⟨mc, h1, h2⟩ := noLim; ⟨mc, nsB h1, h2⟩⟩
    have e0 : Env0 P w K mg (hidT s₁.heap H) callerA [] s₁ H := ⟨rfl, md, fun b o e => of_hidT e, Nat.le_of_eq (hidT_size _ _), trivial, fun b hb => absurd hb List.not_mem_nil, ok, .of_eq noGen⟩
    refine codeAny_mono ((F _ inB (nsB ng)).goes callerA [] s₁ H ⟨[.ref a], []⟩ [.ref a] [.ref a] _ _ rfl room e0 (binds s₁ (.ref a)) (.cons rfl .nil) (asks H only seq)) fun r s' h => ?_
    cases r with
    | error e => exact (show False from h).elim
    | ok fl =>
      cases fl with
      | next => exact (show False from h).elim
      | brk => exact (show False from h).elim
      | cont => exact (show False from h).elim
      | ret u =>
        obtain ⟨v, H', os, bare, un, ok', rr, qv⟩ := h
        cases (show v = .bl true from qv)
        cases (show u = Value.bool true from rr)
        refine ⟨rfl, PySem.OldK.of_keep fun b o e => ?_, os, bare⟩
        cases hb : H b with
        | none => exact un.keep b o e hb (by intro z; exact absurd z List.not_mem_nil) (by simp)
        | some u =>
          rcases only b with z | ⟨ob, xs, z⟩
          · rw [hb] at z
            cases z
          · have e1 := (ok b _ z).1
            have e2 := (ok' b _ (un.frzs b ob _ z)).1
            rw [e] at e1
            cases e1
            exact e2
  cases hk : K.lookup a with
  | some o =>
    have e := inK a o hk
    rw [cell] at e
    cases e
    refine main (fun _ => none) (fun _ => .inl rfl) (.inr ⟨_, vs.toArray, _, hk, rfl, rfl, rfl, ?_, by simpa using rv⟩) (fun b u z => by cases z) (fun b z => absurd rfl z)
    rw [List.size_toArray, nLen]
    exact short
  | none =>
    have at_a : ∀ {b : Addr} {z : HO}, (if b = a then some (HO.frz { cls := .type "list", data := .seq vs.toArray } (.lst (ns.map V.int))) else none) = some z → b = a ∧ z = HO.frz { cls := .type "list", data := .seq vs.toArray } (.lst (ns.map V.int)) := fun {b z} e => by
      by_cases c : b = a
      · rw [if_pos c] at e
        exact ⟨c, (Option.some.inj e).symm⟩
      · rw [if_neg c] at e
        cases e
    refine main (fun b => if b = a then some (.frz { cls := .type "list", data := .seq vs.toArray } (.lst (ns.map V.int))) else none) (fun b => ?_) (.inl (.inr ⟨_, if_pos rfl⟩)) (fun b u z => ?_) (fun b z => ⟨?_, hk⟩)
    · by_cases c : b = a
      · exact .inr ⟨_, _, if_pos c⟩
      · exact .inl (if_neg c)
    · obtain ⟨rfl, rfl⟩ := at_a z
      exact ⟨cell, by rw [List.length_map]; exact short, vs, _, rv, cell⟩
    · by_cases c : b = a
      · exact c
      · exact absurd (if_neg c) z
theorem walkG {l : PySem.W.OpenLaw} {n k : Nat} {q : Program} {loose : List Str} {XP : (Str → Option Value) → Heap → Prop} {YP : World → Heap → Prop} {d : DefRec} {K : Params → PySem.W.Frag} {sp : World → Sp} {x : Str}
    (hn : l.most = some n) (hn2 : n ≤ sizeLine) (hdf : d.params.defaults = []) (room : Room k callerA)
    (hY : ∀ (w : World) (h : Heap), YP w h → (K w.params).In h)
    (F : ∀ (w : World) (mg : Str → Option Value) (fa : Addr) (h : Heap), (K w.params).In h → h.Ns mainGlobals mg → mg d.name = some (.ref fa) →
      ∃ fd : FuncData, (∀ (s : Shared) (u : Value), BindsTo s fd ⟨[u], []⟩ [(x, u)]) ∧
        ∀ base : Heap, (K w.params).In base → base.Ns mainGlobals mg → FnG l.prog w (K w.params) mg base k fa fd [x] (sp w))
    (asks : ∀ (w : World) (H : Hp) (a : Addr) (ns : List Int), ns.length ≤ n → Only H → SqL (K w.params) H a (ns.map V.int) → sp w [.ref a] H (fun v _ => v = .bl true) fun _ _ _ => False) :
    PySem.W.WalkO q loose XP YP l.row.toRowW d [] (fun f vs => PySem.call f vs) := by
  refine Att.attach_call hn hdf fun w _ s₁ mg mb fa _ _ _ _ a vs ns G Y _ _ _ hmg hobj hints hlen hgen => ?_
  have inK := hY w _ Y
  obtain ⟨fd, hb, hF⟩ := F w mg fa _ inK G.T.g hmg
  exact law_goes inK G.T.g G.T.b G.T.builtins G.T.nolimit hgen hobj hints (Nat.le_trans hlen hn2) room hF hb fun H h1 h2 => asks w H a ns hlen h1 h2
end KV

namespace KV
open PySem PySem.Spec PyProof.Rows L2
/-! ### the text -/
def topS (i : Nat) : Stmt := PySem.Challenge.pw_endonce_k03_chains_and_tags.main.body.getD i (.Pass ⟨0, 0, 0, 0⟩)
abbrev sTake : Stmt := topS 7
section
variable {P : Program} {w : World} {K : PySem.W.Frag} {mg : Str → Option Value} {base : Heap}
/-! ### _law_take -/
def spTake : Sp := fun vs H Q _ => ∃ (b : Addr) (n : Nat) (m : Int), vs = [.ref b, .int m] ∧ 0 < m ∧ m < 2 ^ 20 ∧ BoxAt H b n ∧ n ≤ 2 ^ 40 ∧
  ∀ (r : Int) (H' : Hp), 0 ≤ r → r < m → SameX [b] H H' → BoxAt H' b (n + 1) → Q (.int r) H'
theorem sameB_upd {b : Addr} {H : Hp} {o : HO} : SameX [b] H (upd H b o) := sameX_upd (List.mem_singleton.mpr rfl)
theorem scTake : FnScope ["_law_box_here", "_law_below", "_law_found", "_law_once", "_law_odd", "_law_twice"] ["_law_box_here", "_law_below"] (defScope sTake) :=
  ⟨rfl, rfl, rfl, by decide +kernel, rfl, by decide +kernel, by decide +kernel⟩
theorem ok_take {f : Addr} {fd : FuncData} {k : Nat} (F : Fun K "_law_take" "_law_take" sTake f fd) (mi : mg "int" = none) : FnOk P w K mg base CX0 (k + 1) f fd ["_law_box_here", "_law_below"] spTake := by
  refine F.ok scTake (fun vs H Q E h => ?_) (fun cdv A outer s H vs Q E hr h => ?_)
  · obtain ⟨b, n, m, rfl, _⟩ := h
    rfl
  · obtain ⟨b, n, m, rfl, hm0, hm1, hB, hn, q⟩ := h
    obtain ⟨x, y, c, hb, hy0, hy1, hc0, hc1⟩ := hB
    refine ⟨_, pss_cons (ps_if (pt_cmpR op_gt (pe_ix ix_seq (pv 0) pe_int (fun _ _ => rfl)) pe_int (nomark _))
        (pss_cons (ps_set (i := 2) scTake.nd rfl (.inl rfl) (pe_op op_mod (pe_callTy call_int1 (by rfl) mi PyProof.Rows.boot_int (pa_cons (pe_ix ix_seq (pv 0) pe_int (fun _ _ => rfl)) pa_nil)) (pv 1)))
        (pss_cons (ps_asg (pe_op op_fdiv (pe_ix ix_seq (pv 0) pe_int (fun _ _ => rfl)) (pv 1)) (pg_sub (pv 0) pe_int set_list))
        (pss_one (ps_ret (pv 2))))) pss_nil)
      (pss_cons (ps_asg (pe_op op_add (pe_ix ix_seq (pv 0) pe_int (fun _ _ => rfl)) pe_int) (pg_sub (pv 0) pe_int set_list))
      (pss_cons (ps_set (i := 3) scTake.nd rfl (.inl rfl) (pe_op op_mod (pe_callTy call_int1 (by rfl) mi PyProof.Rows.boot_int (pa_cons (pe_op op_mul
          (pe_op op_add (pe_ix ix_seq (pv 0) pe_int (fun _ _ => rfl)) (pe_op op_mul pe_int (pe_ix ix_seq (pv 0) pe_int (fun _ _ => rfl))))
          (pe_op op_add pe_int (pe_ix ix_seq (pv 0) pe_int (fun _ _ => rfl)))) pa_nil)) pe_int))
      (pss_cons (ps_set (i := 4) scTake.nd rfl (.inl rfl) (pe_op op_add (pe_op op_mod (pe_callTy call_int1 (by rfl) mi PyProof.Rows.boot_int (pa_cons (pv 3) pa_nil)) pe_int) pe_int))
      (pss_cons (ps_set (i := 5) scTake.nd rfl (.inl rfl) (pe_op op_mod (pe_callTy call_int1 (by rfl) mi PyProof.Rows.boot_int (pa_cons (pe_op op_mul
          (pe_op op_add (pe_op op_add (pv 3) (pe_ix ix_seq (pv 0) pe_int (fun _ _ => rfl))) (pe_op op_fdiv (pe_ix ix_seq (pv 0) pe_int (fun _ _ => rfl)) pe_int)) (pv 4)) pa_nil)) pe_int))
      (pss_one (ps_ret (pe_op op_mod (pe_callTy call_int1 (by rfl) mi PyProof.Rows.boot_int (pa_cons (pe_op op_fdiv (pe_op op_mod
          (pe_callTy call_int1 (by rfl) mi PyProof.Rows.boot_int (pa_cons (pe_op op_add (pe_op op_mul (pv 5) pe_int) (pv 3)) pa_nil)) pe_int) pe_int) pa_nil)) (pv 1)))))))), ?_⟩
    refine ⟨_, rfl, .inl ⟨_, _, _, _, rfl, rfl, SqL.of hb, atI_nat (j := 0) rfl, ?_⟩⟩
    refine ⟨_, _, rfl, rfl, _, rfl, ite2 (fun e => ?_) (fun e => ?_)⟩
    · refine ⟨_, rfl, .inl ⟨_, _, _, _, rfl, rfl, SqL.of hb, atI_nat (j := 0) rfl, ?_⟩⟩
      refine .inl ⟨_, rfl, _, rfl, _, _, rfl, rfl, hm0, ?_⟩
      refine ⟨_, rfl, .inl ⟨_, _, _, _, rfl, rfl, SqL.of hb, atI_nat (j := 0) rfl, _, rfl, _, _, rfl, rfl, ⟨hm0, by omega⟩, ?_⟩⟩
      refine ⟨_, rfl, _, _, _, 0, rfl, rfl, hb, rfl, ?_⟩
      refine ⟨_, rfl, ?_⟩
      exact q _ _ (Int.emod_nonneg _ (by omega)) (Int.emod_lt_of_pos _ hm0) sameB_upd ⟨_, y, c, upd_same, hy0, hy1, hc0, by omega⟩
    · -- box[2] = box[2] + 1
      refine ⟨_, rfl, .inl ⟨_, _, _, _, rfl, rfl, SqL.of hb, atI_nat (j := 2) rfl, _, _, rfl, rfl, ?_⟩⟩
      refine ⟨_, rfl, _, _, _, 2, rfl, rfl, hb, rfl, ?_⟩
      have h1 : ∀ (u v z : Int), (upd H b (.lst [.int u, .int v, .int z])) b = some (.lst [.int u, .int v, .int z]) := fun u v z => upd_same
      show tSeq _ _ _ _ (upd H b (.lst [.int x, .int y, .int (c + 1)]))
      -- once
      refine ⟨_, rfl, .inl ⟨_, _, _, _, rfl, rfl, SqL.of (h1 _ _ _), atI_nat (j := 1) rfl, _, rfl, .inl ⟨_, _, _, _, rfl, rfl, SqL.of (h1 _ _ _), atI_nat (j := 2) rfl, _, _, rfl, rfl, .inl ⟨by decide, by decide⟩, _, _, rfl, rfl,
        _, rfl, .inl ⟨_, _, _, _, rfl, rfl, SqL.of (h1 _ _ _), atI_nat (j := 2) rfl, _, _, rfl, rfl, _, _, rfl, rfl, .inr ⟨by omega, by omega⟩, .inl ⟨_, rfl, _, _, rfl, rfl, (by show (0 : Int) < _; decide), ?_⟩⟩⟩⟩⟩
      have o0 : 0 ≤ (y + 48271 * (c + 1)) * (39373 + (c + 1)) % 2147483647 := Int.emod_nonneg _ (by decide)
      have o1 : (y + 48271 * (c + 1)) * (39373 + (c + 1)) % 2147483647 < 2147483647 := Int.emod_lt_of_pos _ (by decide)
      generalize (y + 48271 * (c + 1)) * (39373 + (c + 1)) % 2147483647 = once at o0 o1
      -- odd
      refine ⟨_, rfl, .inl ⟨_, rfl, _, _, rfl, rfl, (by show (0 : Int) < _; decide), _, _, rfl, rfl, ?_⟩⟩
      have d0 : 0 ≤ once % 40009 := Int.emod_nonneg _ (by decide)
      have d1 : once % 40009 < 40009 := Int.emod_lt_of_pos _ (by decide)
      generalize once % 40009 = odd at d0 d1
      -- twice
      refine ⟨_, rfl, _, rfl, .inl ⟨_, _, _, _, rfl, rfl, SqL.of (h1 _ _ _), atI_nat (j := 2) rfl, _, _, rfl, rfl, _, rfl, .inl ⟨_, _, _, _, rfl, rfl, SqL.of (h1 _ _ _), atI_nat (j := 1) rfl, _, _, rfl, rfl, ⟨by decide, by decide⟩, _, _, rfl, rfl,
        _, rfl, _, _, rfl, rfl, .inr ⟨by omega, by omega⟩, .inl ⟨_, rfl, _, _, rfl, rfl, (by show (0 : Int) < _; decide), ?_⟩⟩⟩⟩
      have t0 : 0 ≤ (once + (c + 1) + y / 1000003) * (odd + 7) % 2147483629 := Int.emod_nonneg _ (by decide)
      have t1 : (once + (c + 1) + y / 1000003) * (odd + 7) % 2147483629 < 2147483629 := Int.emod_lt_of_pos _ (by decide)
      generalize (once + (c + 1) + y / 1000003) * (odd + 7) % 2147483629 = twice at t0 t1
      -- the draw
      refine ⟨_, rfl, _, _, rfl, rfl, .inr ⟨by decide, by decide⟩, _, rfl, _, _, rfl, rfl, .inl ⟨_, rfl, _, _, rfl, rfl, (by show (0 : Int) < _; decide), _, _, rfl, rfl, ⟨by decide, by decide⟩, .inl ⟨_, rfl, _, rfl, _, _, rfl, rfl, hm0, ?_⟩⟩⟩
      exact q _ _ (Int.emod_nonneg _ (by omega)) (Int.emod_lt_of_pos _ hm0) sameB_upd ⟨x, y, c + 1, upd_same, hy0, hy1, by omega, by omega⟩
end
end KV

namespace KV
open PySem PySem.Spec PyProof.Rows L2
/-- pairs of two lists of one length -/
inductive All2 {α β : Type} (R : α → β → Prop) : List α → List β → Prop
  | nil : All2 R [] []
  | cons {a : α} {b : β} {as : List α} {bs : List β} : R a b → All2 R as bs → All2 R (a :: as) (b :: bs)
theorem All2.snoc {α β : Type} {R : α → β → Prop} {as : List α} {bs : List β} {a : α} {b : β} (h : All2 R as bs) (k : R a b) : All2 R (as ++ [a]) (bs ++ [b]) := by
  induction h with
  | nil => exact .cons k .nil
  | cons h1 _ ih => exact .cons h1 ih
theorem All2.fn {α β : Type} {f : α → β} : ∀ {as : List α} {bs : List β}, All2 (fun a b => b = f a) as bs → bs = as.map f
  | _, _, .nil => rfl
  | _, _, .cons h1 h2 => by rw [h1, h2.fn]; rfl
theorem SameX.live {B C : List Addr} {H H' : Hp} (h : SameX C H H') (l : Live B H) (k : ∀ b ∈ C, H' b ≠ none) : Live B H' := fun b hb e => by
  by_cases c : b ∈ C
  · exact k b c e
  · cases q : H b with
    | none => exact l b hb q
    | some o => rw [h b o c q] at e; cases e
theorem tYes_ok {σ : L2.St} {H : Hp} {R1 R2 : Hp → Prop} (h : R1 H) : tYes σ H fun b H3 => if b = true then R1 H3 else R2 H3 := by
  show (if true = true then R1 H else R2 H)
  rw [if_pos rfl]
  exact h
/-- walking data -/
def iDat (K : PySem.W.Frag) (B : List Addr) (tl : TE) : TI := fun σ H R => tl σ H fun x H1 => ∃ a xs, x = .ref a ∧ (SqL K (hide B H1) a xs ∨ SqT K (hide B H1) a xs) ∧ ∀ J G, Walk J xs.length G (YAt xs) → (∀ H2, Same (hide B H1) H2 → G H2) → R J H1
theorem pi_dat {X : Cx} {tg l : Expr} {tl : TE} (B : List Addr) (hl : PE X l tl) : PI X tg l (iDat X.K B tl) := by
  refine ⟨fun pins s σ H R I h => ?_⟩
  refine thn (hl.run pins s σ H _ I h) fun v s1 hv => ?_
  obtain ⟨x, H1, I1, r1, a, xs, rfl, hk, q⟩ := hv
  cases r1
  rcases hk with hk | hk
  · have hk1 := (hide_same B H1).seq hk
    obtain ⟨its, rv, p, hz⟩ := I1.list hk1
    refine wpAny_pyIter_list p.isList ?_
    refine ⟨s1.heap.objs.size, [s1.heap.objs.size], _, _, H1, rfl, I1.kept (t' := s1.toks) fun b o e => Heap.get?_push_of_some _ e, turn_list a _, ⟨_, Heap.get?_push_size _ rfl, rfl, rfl⟩, fun b hb => ?_, q _ _ (walk_list (xs := xs)) fun H2 h2 => h2.seq hk⟩
    cases List.mem_singleton.mp hb
    exact I1.fpOk (Nat.le_refl _) (I1.hok.fresh (Nat.le_refl _))
  · have hk1 := same_seqT (hide_same B H1) hk
    obtain ⟨its, rv, p, hz⟩ := I1.tuple hk1
    refine wpAny_pyIter_tuple (show s1.heap.IsTuple a its.toArray from p) ?_
    refine ⟨s1.heap.objs.size, [s1.heap.objs.size], _, _, H1, rfl, I1.kept (t' := s1.toks) fun b o e => Heap.get?_push_of_some _ e, turn_tuple a _, ⟨_, Heap.get?_push_size _ rfl, rfl, rfl⟩, fun b hb => ?_, q _ _ (walk_tup (xs := xs)) fun H2 h2 => same_seqT h2 hk⟩
    cases List.mem_singleton.mp hb
    exact I1.fpOk (Nat.le_refl _) (I1.hok.fresh (Nat.le_refl _))
/-- a comprehension that makes of each part of a sequence a value -/
theorem lc_dp {K : PySem.W.Frag} {J : It} {G : Hp → Prop} {xs : List V} (w : Walk J xs.length G (YAt xs)) {ds : List PyData} {B C : List Addr} {σ : L2.St} {i : Nat} {te : TE} {H1 : Hp} {D : Addr} {Qd : Hp → Prop}
    (hx : DpAll K (hide B H1) xs ds) (hB : Live B H1) (hC : ∀ b ∈ C, b ∈ B) (nD : H1 D = none) (hz : xs.length ≤ 1000) (hG : ∀ H, Same (hide B H1) H → G H)
    (Pb : Nat → Hp → Prop) (s0 : Pb 0 H1) (hSt : ∀ j H o, H D = none ∨ (∃ l, H D = some (.lst l)) → Pb j H → Pb j (upd H D o)) (hLv : ∀ j H, Pb j H → ∀ b ∈ C, H b ≠ none) (R : PyData → PyData → Prop)
    (step : ∀ (j : Nat) (x : V) (d : PyData) (H : Hp) (Q : VK), xs[j]? = some x → ds[j]? = some d → Live (D :: B) H → Pb j H → Dp K (hide (D :: B) H) x d →
      (∀ y H' d', SameX C H H' → R d d' → Dp K (hide (D :: B) H') y d' → Pb (j + 1) H' → Q y H') → te ((wipe σ [i]).set i (some x)) H Q)
    (hd : ∀ H acc ds', SameX (D :: C) H1 H → Live (D :: B) H → Pb xs.length H → H D = some (.lst acc) → DpAll K (hide (D :: B) H) acc ds' → All2 R ds ds' → Qd H) :
    ∃ W : Nat → Nat → Hp → Prop, (∃ m, W 0 m (upd H1 D (.lst []))) ∧ ∀ i' m H, W i' m H →
      (J.stop i' H ∧ Qd H) ∨ (J.go i' H ∧ ∃ Nx : Hp → Prop, (∀ H', Nx H' → ∃ m', m' < m ∧ W (i' + 1) m' H') ∧ ∀ x H', J.yld i' H x H' → gName i x (wipe σ [i]) H' fun σ2 H2 => wipe σ2 [i] = wipe σ [i] ∧ tYes σ2 H2 fun b H3 =>
        if b = true then te σ2 H3 fun y H4 => ∃ acc, H4 D = some (.lst acc) ∧ acc.length < sizeLine ∧ Nx (upd H4 D (.lst (acc ++ [y]))) else Nx H3) := by
  have nB : D ∉ B := hB.new nD
  have nC : D ∉ C := fun z => nB (hC D z)
  have hl := dps_len hx
  refine lc_it w (fun j H => SameX (D :: C) H1 H ∧ Live (D :: B) H ∧ Pb j H ∧ ∃ acc ds', H D = some (.lst acc) ∧ acc.length = j ∧ DpAll K (hide (D :: B) H) acc ds' ∧ All2 R (ds.take j) ds') ?_ (fun j H _ h => hG H ((h.1.enter hC nD).trans (hide_same _ _))) ?_ ?_
  · refine ⟨fun c o n e => ?_, Live.cons hB.upd upd_same, hSt 0 H1 _ (.inl nD) s0, [], [], upd_same, rfl, .nil, .nil⟩
    rw [upd_ne (ne_of_none e nD)]
    exact e
  · rintro j x H H' hj ⟨hs, lv, st, acc, ds', hD, hacc, ha, h2⟩ ⟨rfl, hx1⟩
    obtain ⟨d, hd1, hdp⟩ := dps_get hx hx1
    refine ⟨?_, ?_⟩
    · show wipe ((wipe σ [i]).set i (some x)) [i] = wipe σ [i]
      show ((((σ.set i none)).set i (some x)).set i none) = σ.set i none
      rw [List.set_set, List.set_set]
    · refine tYes_ok ?_
      refine step j x d _ _ hx1 hd1 lv st (dp_same (hs.enter hC nD) hdp) fun y H4 d' s4 r4 dp4 st4 => ?_
      have hD4 : H4 D = some (.lst acc) := s4 D _ nC hD
      refine ⟨acc, hD4, by rw [hacc]; exact small1000 (by omega), ?_, ?_, hSt _ _ _ (.inr ⟨_, hD4⟩) st4, acc ++ [y], ds' ++ [d'], upd_same, by rw [List.length_append, hacc]; rfl, ?_, ?_⟩
      · exact hs.trans ((s4.sub fun b hb => List.mem_cons_of_mem _ hb).trans (sameX_upd List.mem_cons_self))
      · exact Live.upd (s4.live lv (hLv _ _ st4))
      · rw [hide_upd_in List.mem_cons_self]
        exact dps_snoc (dps_same (s4.hide fun b hb => List.mem_cons_of_mem _ (hC b hb)) ha) dp4
      · rw [take_snoc hd1]
        exact h2.snoc r4
  · rintro H ⟨hs, lv, st, acc, ds', hD, hacc, ha, h2⟩
    refine hd H acc ds' hs lv st hD ha ?_
    rw [hl, List.take_length] at h2
    exact h2
/-- the same, any target -/
theorem lc_dg {K : PySem.W.Frag} {J : It} {G : Hp → Prop} {xs : List V} (w : Walk J xs.length G (YAt xs)) {ds : List PyData} {B C : List Addr} {σ : L2.St} {vs : List Nat} {g : TG} {te : TE} {H1 : Hp} {D : Addr} {Qd : Hp → Prop}
    (hx : DpAll K (hide B H1) xs ds) (hB : Live B H1) (hC : ∀ b ∈ C, b ∈ B) (nD : H1 D = none) (hz : xs.length ≤ 1000) (hG : ∀ H, Same (hide B H1) H → G H)
    (Pb : Nat → Hp → Prop) (s0 : Pb 0 H1) (hSt : ∀ j H o, H D = none ∨ (∃ l, H D = some (.lst l)) → Pb j H → Pb j (upd H D o)) (hLv : ∀ j H, Pb j H → ∀ b ∈ C, H b ≠ none) (R : PyData → PyData → Prop)
    (step : ∀ (j : Nat) (x : V) (d : PyData) (H : Hp) (Q : VK), xs[j]? = some x → ds[j]? = some d → Live (D :: B) H → Pb j H → Dp K (hide (D :: B) H) x d →
      (∀ y H' d', SameX C H H' → R d d' → Dp K (hide (D :: B) H') y d' → Pb (j + 1) H' → Q y H') → g x (wipe σ vs) H fun σ2 H2 => wipe σ2 vs = wipe σ vs ∧ te σ2 H2 Q)
    (hd : ∀ H acc ds', SameX (D :: C) H1 H → Live (D :: B) H → Pb xs.length H → H D = some (.lst acc) → DpAll K (hide (D :: B) H) acc ds' → All2 R ds ds' → Qd H) :
    ∃ W : Nat → Nat → Hp → Prop, (∃ m, W 0 m (upd H1 D (.lst []))) ∧ ∀ i' m H, W i' m H →
      (J.stop i' H ∧ Qd H) ∨ (J.go i' H ∧ ∃ Nx : Hp → Prop, (∀ H', Nx H' → ∃ m', m' < m ∧ W (i' + 1) m' H') ∧ ∀ x H', J.yld i' H x H' → g x (wipe σ vs) H' fun σ2 H2 => wipe σ2 vs = wipe σ vs ∧ tYes σ2 H2 fun b H3 =>
        if b = true then te σ2 H3 fun y H4 => ∃ acc, H4 D = some (.lst acc) ∧ acc.length < sizeLine ∧ Nx (upd H4 D (.lst (acc ++ [y]))) else Nx H3) := by
  have nB : D ∉ B := hB.new nD
  have nC : D ∉ C := fun z => nB (hC D z)
  have hl := dps_len hx
  refine lc_it w (fun j H => SameX (D :: C) H1 H ∧ Live (D :: B) H ∧ Pb j H ∧ ∃ acc ds', H D = some (.lst acc) ∧ acc.length = j ∧ DpAll K (hide (D :: B) H) acc ds' ∧ All2 R (ds.take j) ds') ?_ (fun j H _ h => hG H ((h.1.enter hC nD).trans (hide_same _ _))) ?_ ?_
  · refine ⟨fun c o n e => ?_, Live.cons hB.upd upd_same, hSt 0 H1 _ (.inl nD) s0, [], [], upd_same, rfl, .nil, .nil⟩
    rw [upd_ne (ne_of_none e nD)]
    exact e
  · rintro j x H H' hj ⟨hs, lv, st, acc, ds', hD, hacc, ha, h2⟩ ⟨rfl, hx1⟩
    obtain ⟨d, hd1, hdp⟩ := dps_get hx hx1
    have key : ∀ {A : Prop} {R1 R2 : Hp → Prop} {s2 : L2.St} {H2 : Hp}, (A ∧ tYes s2 H2 fun b H3 => if b = true then R1 H3 else R2 H3) = (A ∧ R1 H2) := fun {A R1 R2 s2 H2} => by
      show (A ∧ if true = true then R1 H2 else R2 H2) = (A ∧ R1 H2)
      rw [if_pos rfl]
    simp only [key]
    · refine step j x d _ _ hx1 hd1 lv st (dp_same (hs.enter hC nD) hdp) fun y H4 d' s4 r4 dp4 st4 => ?_
      have hD4 : H4 D = some (.lst acc) := s4 D _ nC hD
      refine ⟨acc, hD4, by rw [hacc]; exact small1000 (by omega), ?_, ?_, hSt _ _ _ (.inr ⟨_, hD4⟩) st4, acc ++ [y], ds' ++ [d'], upd_same, by rw [List.length_append, hacc]; rfl, ?_, ?_⟩
      · exact hs.trans ((s4.sub fun b hb => List.mem_cons_of_mem _ hb).trans (sameX_upd List.mem_cons_self))
      · exact Live.upd (s4.live lv (hLv _ _ st4))
      · rw [hide_upd_in List.mem_cons_self]
        exact dps_snoc (dps_same (s4.hide fun b hb => List.mem_cons_of_mem _ (hC b hb)) ha) dp4
      · rw [take_snoc hd1]
        exact h2.snoc r4
  · rintro H ⟨hs, lv, st, acc, ds', hD, hacc, ha, h2⟩
    refine hd H acc ds' hs lv st hD ha ?_
    rw [hl, List.take_length] at h2
    exact h2
end KV

namespace KV
open PySem PySem.Spec PyProof.Rows L2
def tNone : TE := fun _ _ _ => False
theorem pe_never {X : Cx} {e : Expr} : PE X e tNone := ⟨fun _ _ _ _ _ _ h => h.elim⟩
theorem nodesDs_app : ∀ (as bs : List PyData), nodesDs (as ++ bs) = nodesDs as + nodesDs bs
  | [], bs => by simp only [List.nil_append, nodesDs, Nat.zero_add]
  | a :: as, bs => by simp only [List.cons_append, nodesDs, nodesDs_app as bs, Nat.add_assoc]
theorem nodes_take {ds : List PyData} {j : Nat} {e : PyData} (h : ds[j]? = some e) : nodesDs (ds.take (j + 1)) = nodesDs (ds.take j) + nodesD e := by
  rw [take_snoc h, nodesDs_app]
  simp only [nodesDs, Nat.add_zero]
theorem nodes_le : ∀ (ds : List PyData) (j : Nat), nodesDs (ds.take j) ≤ nodesDs ds
  | [], j => by rw [List.take_nil]; exact Nat.le_refl _
  | d :: ds, 0 => by simp only [List.take_zero, nodesDs]; exact Nat.zero_le _
  | d :: ds, j + 1 => by
    have h := nodes_le ds j
    simp only [List.take_succ_cons, nodesDs]
    omega
theorem all2_len {α β : Type} {R : α → β → Prop} {as : List α} {bs : List β} (h : All2 R as bs) : as.length = bs.length := by
  induction h with
  | nil => rfl
  | cons _ _ ih => rw [List.length_cons, List.length_cons, ih]
theorem all2_tup {m : Nat} {as bs : List PyData} (h : All2 (fun e e' => tupD e' = tupD e ∧ okD e' m = true) as bs) : bs.map tupD = as.map tupD ∧ okDs bs m = true := by
  induction h with
  | nil => exact ⟨rfl, by simp only [okDs]⟩
  | cons h1 _ ih => exact ⟨by rw [List.map_cons, List.map_cons, h1.1, ih.1], by simp only [okDs, h1.2, ih.2, Bool.and_self]⟩
theorem ok_mk {ds : List PyData} {m : Nat} (h1 : ds.length ≤ 1000) (h2 : okDs ds m = true) : okD (.list ds) (m + 1) = true ∧ okD (.tuple ds) (m + 1) = true := by
  have h : (decide (0 < m + 1) && decide (ds.length ≤ 1000) && okDs ds (m + 1 - 1)) = true := by
    rw [decide_eq_true (Nat.succ_pos m), decide_eq_true h1, Nat.add_sub_cancel, h2]
    rfl
  exact ⟨by simpa only [okD] using h, by simpa only [okD] using h⟩
theorem ok_atom {d : PyData} (h : okD d 0 = true) : isSeq d = false := by
  cases d with
  | list xs => exact nomatch (show (decide (0 < 0) && decide (xs.length ≤ 1000) && okDs xs (0 - 1)) = true by simpa only [okD] using h)
  | tuple xs => exact nomatch (show (decide (0 < 0) && decide (xs.length ≤ 1000) && okDs xs (0 - 1)) = true by simpa only [okD] using h)
  | _ => rfl
theorem hide_of_same {B : List Addr} {H H' : Hp} (h : Same H H') : Same (hide B H) (hide B H') := (SameX.of h).hide (C := []) fun b hb => absurd hb List.not_mem_nil
/-- a new object, told without the hidden ones -/
theorem hide_new {B : List Addr} {H : Hp} {p : Addr} {o : HO} (lv : Live B H) (n : H p = none) : hide B (upd H p o) p = some o := by
  rw [hide_out (lv.new n), upd_same]
theorem hide_grow {B : List Addr} {H : Hp} {p : Addr} {o : HO} (lv : Live B H) (n : H p = none) : Same (hide B H) (hide B (upd H p o)) := hide_of_same (same_upd n)
abbrev sLists : Stmt := topS 18
section
variable {P : Program} {w : World} {K : PySem.W.Frag} {mg : Str → Option Value} {base : Heap}
/-! ### _law_lists -/
def spLists (K : PySem.W.Frag) (n : Nat) : Sp := fun vs H Q _ => ∃ (B : List Addr) (v : V) (d : PyData), vs = [v] ∧ Live B H ∧ Dp K (hide B H) v d ∧ okD d n = true ∧
  ∀ (v' : V) (H' : Hp), Same H H' → Dp K (hide B H') v' (lstD d) → Q v' H'
theorem scLists : FnScope ["_law_matter", "_law_bit"] ["_law_matter"] (defScope sLists) :=
  ⟨rfl, rfl, rfl, by decide +kernel, rfl, by decide +kernel, by decide +kernel⟩
theorem ok_lists {f : Addr} {fd : FuncData} (F : Fun K "_law_lists" "_law_lists" sLists f fd) (bF : Binds K fd ["_law_matter"] []) (mF : mg "_law_lists" = some (.ref f)) (mi : mg "isinstance" = none) (ml : mg "list" = none) (mt : mg "tuple" = none) :
    ∀ n : Nat, FnOk P w K mg base CX0 (n + 1) f fd ["_law_matter"] (spLists K n) := by
  intro n
  induction n with
  | zero =>
    refine F.ok scLists (fun vs H Q E h => ?_) (fun cdv A outer s H vs Q E hr h => ?_)
    · obtain ⟨B, v, d, rfl, _⟩ := h
      rfl
    · obtain ⟨B, v, d, rfl, lv, hd, hok, q⟩ := h
      have ha := ok_atom hok
      refine ⟨_, pss_one (ps_ret (pe_ifExp (pt_val (pe_callB cr_isSeq (by rfl) mi boot_isinstance (pa_cons (pv 0) (pa_cons (pe_tup (pa_cons (pe_bltn (v := .ty "list") (by rfl) ml (by decide +kernel) rfl) (pa_cons (pe_bltn (v := .ty "tuple") (by rfl) mt (by decide +kernel) rfl) pa_nil))) pa_nil))))
        pe_never (pv 0))), ?_⟩
      refine ⟨_, rfl, by show 2 ≤ sizeLine; decide, fun t nt => ⟨_, _, d, rfl, upd_same, dp_same (same_upd nt) (dp_same (hide_same B H) hd), _, rfl, ?_⟩⟩
      rw [ha]
      refine iteF ⟨_, rfl, q _ _ (same_upd nt) ?_⟩
      rw [lst_atom ha]
      exact dp_same (hide_of_same (same_upd nt)) hd
  | succ n ih =>
    refine F.ok scLists (fun vs H Q E h => ?_) (fun cdv A outer s H vs Q E hr h => ?_)
    · obtain ⟨B, v, d, rfl, _⟩ := h
      rfl
    · obtain ⟨B, v, d, rfl, lv, hd, hok, q⟩ := h
      refine ⟨_, pss_one (ps_ret (pe_ifExp (pt_val (pe_callB cr_isSeq (by rfl) mi boot_isinstance (pa_cons (pv 0) (pa_cons (pe_tup (pa_cons (pe_bltn (v := .ty "list") (by rfl) ml (by decide +kernel) rfl) (pa_cons (pe_bltn (v := .ty "tuple") (by rfl) mt (by decide +kernel) rfl) pa_nil))) pa_nil))))
        (pe_lc (own := [("_law_bit", 1)]) (g := gName 1) (tt := tYes) rfl scLists.nd (pi_dat B (pv 0)) (blkOk_by (N := ["_law_matter", "_law_bit"]) (sc := defScope sLists) (by decide +kernel)) (fun _ _ _ _ _ => pg_name (i := 1) scLists.nd rfl (Or.inl rfl)) (fun _ _ _ _ _ => pts_nil)
            (fun _ _ _ _ _ => pe_call ih hr (by rfl) mF F.kp bF .nil pass0 (pa_cons (pv 1) pa_nil))) (pv 0))), ?_⟩
      refine ⟨_, rfl, by show 2 ≤ sizeLine; decide, fun t nt => ⟨_, _, d, rfl, upd_same, dp_same (same_upd nt) (dp_same (hide_same B H) hd), _, rfl, ?_⟩⟩
      have s1 : Same H (upd H t (.tup [.ty "list", .ty "tuple"])) := same_upd nt
      have hd1 : Dp K (hide B (upd H t (.tup [.ty "list", .ty "tuple"]))) v d := dp_same (hide_of_same s1) hd
      have lv1 := lv.same s1
      generalize upd H t (.tup [.ty "list", .ty "tuple"]) = H1 at s1 hd1 lv1
      cases ha : isSeq d with
      | false =>
        refine iteF ⟨_, rfl, q _ _ s1 ?_⟩
        rw [lst_atom ha]
        exact hd1
      | true =>
        refine iteT ?_
        obtain ⟨a, xs, ds, rfl, hk, hall⟩ := dp_seq hd1 ha
        have hkk : d = .list ds ∨ d = .tuple ds := hk.imp And.right And.right
        obtain ⟨m, hm, hlen, hok2⟩ := ok_seq hkk hok
        have em : m = n := by omega
        subst em
        have elst : lstD d = .list (ds.map lstD) := by
          rcases hkk with rfl | rfl <;> simp only [lstD, lstDs_map]
        have hl := dps_len hall
        have hkB : SqL K (hide B H1) a xs ∨ SqT K (hide B H1) a xs := hk.imp And.left And.left
        refine ⟨_, rfl, a, xs, rfl, hkB, fun J G wk hG D nD => lc_dp (K := K) wk (ds := ds) (B := B) (C := []) (i := 1) hall lv1 (fun b hb => absurd hb List.not_mem_nil) nD (by omega) hG
            (fun _ _ => True) trivial (fun _ _ _ _ _ => trivial) (fun _ _ _ b hb => absurd hb List.not_mem_nil) (fun e e' => e' = lstD e)
            (fun j x e H2 Q2 _ he lv2 _ hdp2 k2 => ⟨_, rfl, D :: B, x, e, rfl, lv2, hdp2, okDs_get hok2 he, fun y H3 s3 hd3 => k2 y H3 _ (SameX.of s3) rfl hd3 trivial⟩)
            (fun H2 acc ds' s2 lv2 _ hD2 hacc h2 => q _ _ (fun c o e => ?_) ?_)⟩
        · have e1 := s1 c o e
          have cD : c ≠ D := ne_of_none e1 nD
          exact s2 c o (fun z => (List.mem_cons.mp z).elim cD (fun z => absurd z List.not_mem_nil)) e1
        · rw [elst, ← h2.fn]
          exact .lst (SqL.of (by rw [hide_out (lv1.new nD)]; exact hD2)) (dps_same hide_leave hacc)
end
end KV

namespace KV
open PySem PySem.Spec PyProof.Rows L2 RZ
/-- isinstance(x, T), one built-in class, of data -/
def rIsOne (K : PySem.W.Frag) (n : String) : List V → Hp → VK → Prop := fun vs H Q => ∃ v d, vs = [v, .ty n] ∧ Dp K H v d ∧ ∃ b, kitB (tyD d) n = some b ∧ Q (.bl b) H
theorem cr_isOne {X : Cx} (n : String) : CallR X (.builtin "isinstance") (rIsOne X.K n) := by
  intro pins s σ H vs us Q I r h
  obtain ⟨v, d, rfl, hd, b, hb, q⟩ := h
  exact call_isi pins s σ H _ us Q I r ⟨v, .ty n, _, _, b, rfl, .ty n, dp_ty hd, kit_ty hb, q⟩
theorem kit_bs {K : PySem.W.Frag} {a : String} {r1 r2 : Bool} (h1 : kitB a "bool" = some r1) (h2 : kitB a "str" = some r2) : PySem.W.kitAny K (.type a) [.type "bool", .type "str"] = some (r1 || r2) := by
  cases r1 with
  | true => exact kitAny_cons (kit_ty h1) (fun z => nomatch z) fun _ => rfl
  | false =>
    cases r2 with
    | true => exact kitAny_cons (kit_ty h1) (fun _ => kitAny_cons (kit_ty h2) (fun z => nomatch z) fun _ => rfl) fun z => nomatch z
    | false => exact kitAny_cons (kit_ty h1) (fun _ => kitAny_cons (kit_ty h2) (fun _ => kitAny_nil) fun z => nomatch z) fun z => nomatch z
def isBS : PyData → Bool
  | .bool _ => true
  | .str _ => true
  | _ => false
theorem kit_isBS {K : PySem.W.Frag} : ∀ (d : PyData), PySem.W.kitAny K (.type (tyD d)) [.type "bool", .type "str"] = some (isBS d)
  | .none => kit_bs (a := "NoneType") (r1 := false) (r2 := false) (by decide +kernel) (by decide +kernel)
  | .bool _ => kit_bs (a := "bool") (r1 := true) (r2 := false) (by decide +kernel) (by decide +kernel)
  | .int _ => kit_bs (a := "int") (r1 := false) (r2 := false) (by decide +kernel) (by decide +kernel)
  | .str _ => kit_bs (a := "str") (r1 := false) (r2 := true) (by decide +kernel) (by decide +kernel)
  | .list _ => kit_bs (a := "list") (r1 := false) (r2 := false) (by decide +kernel) (by decide +kernel)
  | .tuple _ => kit_bs (a := "tuple") (r1 := false) (r2 := false) (by decide +kernel) (by decide +kernel)
  | .dict _ => kit_bs (a := "dict") (r1 := false) (r2 := false) (by decide +kernel) (by decide +kernel)
/-- isinstance(x, (bool, str)) of data -/
def rIsBS (K : PySem.W.Frag) : List V → Hp → VK → Prop := fun vs H Q => ∃ v tp d, vs = [v, .ref tp] ∧ H tp = some (.tup [.ty "bool", .ty "str"]) ∧ Dp K H v d ∧ Q (.bl (isBS d)) H
theorem cr_isBS {X : Cx} : CallR X (.builtin "isinstance") (rIsBS X.K) := by
  intro pins s σ H vs us Q I r h
  obtain ⟨v, tp, d, rfl, ht, hd, q⟩ := h
  exact call_isiT pins s σ H _ us Q I r ⟨v, tp, _, _, _, _, rfl, ht, .cons (.ty _) (.cons (.ty _) .nil), dp_ty hd, kit_isBS d, q⟩
theorem walk_zipT {K : PySem.W.Frag} {a b : Addr} {xs ys : List V} {n : Nat} (hn : n = min xs.length ys.length) : Walk (ItzT K a b) n (fun H => SqT K H a xs ∧ SqT K H b ys) (YPair (fun i => xs[i]?) (fun i => ys[i]?)) := by
  subst hn
  refine ⟨fun i _ hi q => ?_, fun _ q => ⟨xs, ys, q.1, q.2, by omega⟩, fun i H v H' _ q y => ?_⟩
  · have h1 : i < xs.length := by omega
    have h2 : i < ys.length := by omega
    exact ⟨xs, ys, xs[i], ys[i], q.1, q.2, by simp [h1], by simp [h2]⟩
  · obtain ⟨T, x, z, h1, h2, h3, h4, h5⟩ := y
    exact ⟨T, x, z, h1, h2, h3, h4 xs q.1, h5 ys q.2⟩
theorem rep_bls (n : Nat) : (List.replicate n true).map V.bl = List.replicate n (.bl true) := by rw [List.map_replicate]
theorem rep_all (n : Nat) : (List.replicate n true).all id = true := by
  rw [List.all_eq_true]
  intro x hx
  exact (List.mem_replicate.mp hx).2
theorem seq_len {K : PySem.W.Frag} {H : Hp} {a : Addr} {xs : List V} (h : SqL K H a xs ∨ SqT K H a xs) : True := trivial
theorem iteD {p A B : Prop} [Decidable p] (h : p) (a : A) : if decide p = true then A else B := by
  rw [decide_eq_true h]
  exact iteT a
theorem iteDN {p A B : Prop} [Decidable p] (h : ¬ p) (b : B) : if decide p = true then A else B := by
  rw [decide_eq_false h]
  exact iteF b
theorem q_true {p : Prop} [Decidable p] {Q : VK} {H : Hp} (h : p) (q : Q (.bl true) H) : Q (.bl (decide p)) H := by
  rw [decide_eq_true h]
  exact q
/-- a comprehension over two sequences of the same data, each pair found the same -/
theorem lc_same {K : PySem.W.Frag} {J : It} {G : Hp → Prop} {xs ys : List V} {n : Nat} (w : Walk J n G (YPair (fun i => xs[i]?) (fun i => ys[i]?))) {ds : List PyData} {σ : L2.St} {vs : List Nat} {te : TE} {H1 : Hp} {D : Addr} {Qd : Hp → Prop}
    (hx : DpAll K H1 xs ds) (hy : DpAll K H1 ys ds) (hn : n = xs.length) (nD : H1 D = none) (hz : n ≤ 1000) (hG : ∀ H, Same H1 H → G H) (hw : ∀ x y : V, wipe (((wipe σ vs).set 3 (some x)).set 4 (some y)) vs = wipe σ vs)
    (step : ∀ (j : Nat) (x y : V) (d : PyData) (H : Hp) (Q : VK), ds[j]? = some d → Dp K H x d → Dp K H y d → (∀ H', Same H H' → Q (.bl true) H') → te (((wipe σ vs).set 3 (some x)).set 4 (some y)) H Q)
    (hd : ∀ H, SameX [D] H1 H → H D = some (.lst ((List.replicate n true).map V.bl)) → Qd H) :
    ∃ W : Nat → Nat → Hp → Prop, (∃ m, W 0 m (upd H1 D (.lst []))) ∧ ∀ i' m H, W i' m H →
      (J.stop i' H ∧ Qd H) ∨ (J.go i' H ∧ ∃ Nx : Hp → Prop, (∀ H', Nx H' → ∃ m', m' < m ∧ W (i' + 1) m' H') ∧ ∀ x H', J.yld i' H x H' → gTup K 2 (gCons (gName 3) (gCons (gName 4) gNil)) x (wipe σ vs) H' fun σ2 H2 => wipe σ2 vs = wipe σ vs ∧ tYes σ2 H2 fun b H3 =>
        if b = true then te σ2 H3 fun y H4 => ∃ acc, H4 D = some (.lst acc) ∧ acc.length < sizeLine ∧ Nx (upd H4 D (.lst (acc ++ [y]))) else Nx H3) := by
  have base : ∀ {H : Hp}, SameX [D] H1 H → Same H1 H := fun {H} h c o e => h c o (fun z => ne_of_none e nD (List.mem_singleton.mp z)) e
  refine lc_it w (fun j H => SameX [D] H1 H ∧ H D = some (.lst ((List.replicate j true).map V.bl))) ⟨fun c o n e => ?_, upd_same⟩ (fun j H _ h => hG H (base h.1)) ?_ (fun H h => hd H h.1 h.2)
  · rw [upd_ne (ne_of_none e nD)]
    exact e
  · rintro j v H H' hj ⟨hs, hD⟩ ⟨T, x, y, rfl, nT, rfl, ex, ey⟩
    have ex : xs[j]? = some x := ex
    have ey : ys[j]? = some y := ey
    obtain ⟨d, ed, dx⟩ := dps_get hx ex
    obtain ⟨d2, ed2, dy⟩ := dps_get hy ey
    have e12 : d2 = d := Option.some.inj (ed2.symm.trans ed)
    subst e12
    have sT := same_upd (o := HO.tup [x, y]) nT
    have s2 := (base hs).trans sT
    refine ⟨T, [x, y], rfl, SqT.of upd_same, rfl, x, [y], rfl, y, [], rfl, rfl, hw x y, tYes_ok (step j x y d2 _ _ ed (dp_same s2 dx) (dp_same s2 dy) fun H4 s4 => ?_)⟩
    have hD4 : H4 D = some (.lst ((List.replicate j true).map V.bl)) := s4 _ _ (sT _ _ hD)
    refine ⟨_, hD4, by rw [List.length_map, List.length_replicate]; exact small1000 (by omega), fun c o nc e => ?_, ?_⟩
    · rw [upd_ne (fun z => nc (List.mem_singleton.mpr z))]
      exact s4 _ _ (sT _ _ (hs c o nc e))
    · rw [upd_same, List.replicate_succ', List.map_append]
      rfl
abbrev sSame : Stmt := topS 19
abbrev sBox : Stmt := topS 22
section
variable {P : Program} {w : World} {K : PySem.W.Frag} {mg : Str → Option Value} {base : Heap}
theorem none_ok {f : Addr} {fd : FuncData} {ps : List Str} {sp : Sp} (no : ∀ vs H Q E, ¬ sp vs H Q E) : FnOk P w K mg base CX0 0 f fd ps sp :=
  ⟨fun vs H Q E h => absurd h (no vs H Q E), fun A outer s H args us vs Q E _ _ _ _ h => absurd h (no vs H Q E)⟩
/-! ### _law_same, of what is the same -/
def spSame (K : PySem.W.Frag) (N : Nat) : Sp := fun vs H Q _ => ∃ (n : Nat) (v u : V) (d : PyData), N = n + 1 ∧ vs = [v, u] ∧ Dp K H v d ∧ Dp K H u d ∧ okD d n = true ∧ ∀ (H' : Hp), Same H H' → Q (.bl true) H'
theorem scSame : FnScope ["_law_found", "_law_due", "_law_alike", "_law_mine", "_law_its"] ["_law_found", "_law_due"] (defScope sSame) :=
  ⟨rfl, rfl, rfl, by decide +kernel, rfl, by decide +kernel, by decide +kernel⟩
theorem ok_same {f : Addr} {fd : FuncData} (F : Fun K "_law_same" "_law_same" sSame f fd) (bF : Binds K fd ["_law_found", "_law_due"] []) (mF : mg "_law_same" = some (.ref f)) (mi : mg "isinstance" = none) (ml : mg "list" = none) (mt : mg "tuple" = none)
    (me : mg "len" = none) (ma : mg "all" = none) (mz : mg "zip" = none) (mb : mg "bool" = none) (ms : mg "str" = none) (mn : mg "int" = none) :
    ∀ N : Nat, FnOk P w K mg base CX0 N f fd ["_law_found", "_law_due"] (spSame K N) := by
  intro N
  induction N with
  | zero =>
    refine none_ok fun vs H Q E h => ?_
    obtain ⟨n, _, _, _, h, _⟩ := h
    omega
  | succ N ih =>
    refine F.ok scSame (fun vs H Q E h => ?_) (fun cdv A outer s H vs Q E hr h => ?_)
    · obtain ⟨n, v, u, d, _, rfl, _⟩ := h
      rfl
    · obtain ⟨n, v, u, d, hN, rfl, hv, hu, hok, q⟩ := h
      have eN : N = n := by omega
      subst eN
      refine ⟨_, pss_cons (ps_if (pt_val (pe_callB cr_isSeq (by rfl) mi boot_isinstance (pa_cons (pv 1) (pa_cons (pe_tup (pa_cons (pe_bltn (v := .ty "list") (by rfl) ml (by decide +kernel) rfl) (pa_cons (pe_bltn (v := .ty "tuple") (by rfl) mt (by decide +kernel) rfl) pa_nil))) pa_nil))))
          (pss_cons (ps_if (PW.pt (pw_or (pt_cmpR op_ne (pe_callB (cr_isOne "list") (by rfl) mi boot_isinstance (pa_cons (pv 0) (pa_cons (pe_bltn (v := .ty "list") (by rfl) ml (by decide +kernel) rfl) pa_nil))) (pe_callB (cr_isOne "list") (by rfl) mi boot_isinstance (pa_cons (pv 1) (pa_cons (pe_bltn (v := .ty "list") (by rfl) ml (by decide +kernel) rfl) pa_nil))) (nomark _))
              (pw_or1 (pt_cmpR op_ne (pe_callB (cr_isOne "tuple") (by rfl) mi boot_isinstance (pa_cons (pv 0) (pa_cons (pe_bltn (v := .ty "tuple") (by rfl) mt (by decide +kernel) rfl) pa_nil))) (pe_callB (cr_isOne "tuple") (by rfl) mi boot_isinstance (pa_cons (pv 1) (pa_cons (pe_bltn (v := .ty "tuple") (by rfl) mt (by decide +kernel) rfl) pa_nil))) (nomark _)))))
            (pss_one (ps_ret pe_bl)) pss_nil)
          (pss_one (ps_ret (pe_and (pe_cmpR op_eq (pe_callB call_len_seq (by rfl) me PySem.boot_len (pa_cons (pv 0) pa_nil)) (pe_callB call_len_seq (by rfl) me PySem.boot_len (pa_cons (pv 1) pa_nil)) (nomark _))
            (pe_one (pe_callB (cr_all rfl) (by rfl) ma boot_all (pa_cons
              (pe_lc (own := [("_law_mine", 3), ("_law_its", 4)]) (g := gTup K 2 (gCons (gName 3) (gCons (gName 4) gNil))) (tt := tYes) rfl scSame.nd (pi_zipA (by rfl) mz (pa_cons (pv 0) (pa_cons (pv 1) pa_nil)))
                (blkOk_by (N := ["_law_found", "_law_due", "_law_alike", "_law_mine", "_law_its"]) (sc := defScope sSame) (by decide +kernel))
                (fun _ _ _ _ _ => pg_tup rfl (pgs_cons (pg_name (i := 3) scSame.nd rfl (.inl rfl)) (pgs_cons (pg_name (i := 4) scSame.nd rfl (.inl rfl)) pgs_nil))) (fun _ _ _ _ _ => pts_nil)
                (fun _ _ _ _ _ => pe_call ih hr (by rfl) mF F.kp bF .nil pass0 (pa_cons (pv 3) (pa_cons (pv 4) pa_nil)))) pa_nil))))))) pss_nil)
        (pss_cons (ps_if (PW.pt (pw_or (pt_cmpR op_isN (pv 1) pe_non (nomark _)) (pw_or1 (pt_val (pe_callB cr_isBS (by rfl) mi boot_isinstance (pa_cons (pv 1) (pa_cons (pe_tup (pa_cons (pe_bltn (v := .ty "bool") (by rfl) mb (by decide +kernel) rfl) (pa_cons (pe_bltn (v := .ty "str") (by rfl) ms (by decide +kernel) rfl) pa_nil))) pa_nil)))))))
          (pss_cons (ps_set (i := 2) scSame.nd rfl (.inl rfl) (pe_and
              (pe_cmpR op_eq (pe_callB (cr_isOne "bool") (by rfl) mi boot_isinstance (pa_cons (pv 0) (pa_cons (pe_bltn (v := .ty "bool") (by rfl) mb (by decide +kernel) rfl) pa_nil))) (pe_callB (cr_isOne "bool") (by rfl) mi boot_isinstance (pa_cons (pv 1) (pa_cons (pe_bltn (v := .ty "bool") (by rfl) mb (by decide +kernel) rfl) pa_nil))) (nomark _))
              (pe_one (pe_cmpR op_eq (pe_cmpR op_isN (pv 0) pe_non (nomark _)) (pe_cmpR op_isN (pv 1) pe_non (nomark _)) (nomark _)))))
            (pss_one (ps_ret (pe_and (pe_cmpR op_eq (pv 0) (pv 1) (nomark _)) (pe_one (pv 2))))))
          pss_nil)
        (pss_one (ps_ret (pe_and (pe_callB (cr_isOne "int") (by rfl) mi boot_isinstance (pa_cons (pv 0) (pa_cons (pe_bltn (v := .ty "int") (by rfl) mn (by decide +kernel) rfl) pa_nil)))
          (pe_and (pe_not (pe_callB (cr_isOne "bool") (by rfl) mi boot_isinstance (pa_cons (pv 0) (pa_cons (pe_bltn (v := .ty "bool") (by rfl) mb (by decide +kernel) rfl) pa_nil))))
          (pe_one (pe_cmpR op_eq (pv 0) (pv 1) (nomark _)))))))), ?_⟩
      refine ⟨_, rfl, by show 2 ≤ sizeLine; decide, fun t nt => ⟨_, _, d, rfl, upd_same, dp_same (same_upd nt) hu, _, rfl, ?_⟩⟩
      have s1 : Same H (upd H t (.tup [.ty "list", .ty "tuple"])) := same_upd nt
      replace hv := dp_same s1 hv
      replace hu := dp_same s1 hu
      generalize upd H t (.tup [.ty "list", .ty "tuple"]) = H1 at s1 hv hu
      cases hv with
      | non =>
        cases hu
        have hv : ∀ {H2 : Hp}, Dp K H2 .non .none := .non
        refine iteF ⟨_, rfl, rfl, _, rfl, iteD rfl (iteT ?_)⟩
        refine ⟨_, rfl, ⟨_, _, rfl, hv, false, (show kitB "NoneType" "bool" = some false by decide +kernel), _, rfl, ⟨_, _, rfl, hv, false, (show kitB "NoneType" "bool" = some false by decide +kernel), rfl, _, rfl, iteD rfl ?_⟩⟩⟩
        refine ⟨_, rfl, rfl, _, rfl, rfl, rfl, ?_⟩
        exact ⟨_, rfl, _, rfl, rfl, _, rfl, iteD rfl ⟨_, rfl, q_true rfl (q _ s1)⟩⟩
      | bl c =>
        cases hu
        have hv : ∀ {H2 : Hp}, Dp K H2 (.bl c) (.bool c) := .bl c
        refine iteF ⟨_, rfl, rfl, _, rfl, iteDN (fun z => nomatch z) ?_⟩
        refine ⟨_, rfl, by show 2 ≤ sizeLine; decide, fun t2 nt2 => ⟨_, _, _, rfl, upd_same, hv, _, rfl, iteT ?_⟩⟩
        refine ⟨_, rfl, ⟨_, _, rfl, hv, true, (show kitB "bool" "bool" = some true by decide +kernel), _, rfl, ⟨_, _, rfl, hv, true, (show kitB "bool" "bool" = some true by decide +kernel), rfl, _, rfl, iteD rfl ?_⟩⟩⟩
        refine ⟨_, rfl, rfl, _, rfl, rfl, rfl, ?_⟩
        exact ⟨_, rfl, _, rfl, rfl, _, rfl, iteD rfl ⟨_, rfl, q_true rfl (q _ (s1.trans (same_upd nt2)))⟩⟩
      | int c =>
        cases hu
        have hv : ∀ {H2 : Hp}, Dp K H2 (.int c) (.int c) := .int c
        refine iteF ⟨_, rfl, rfl, _, rfl, iteDN (fun z => nomatch z) ?_⟩
        refine ⟨_, rfl, by show 2 ≤ sizeLine; decide, fun t2 nt2 => ⟨_, _, _, rfl, upd_same, hv, _, rfl, iteF ?_⟩⟩
        refine ⟨_, rfl, ⟨_, _, rfl, hv, true, (show kitB "int" "int" = some true by decide +kernel), _, rfl, iteT ⟨_, rfl, ⟨_, _, rfl, hv, false, (show kitB "int" "bool" = some false by decide +kernel), _, rfl, _, rfl, iteT ⟨_, rfl, _, rfl, rfl, q_true rfl (q _ (s1.trans (same_upd nt2)))⟩⟩⟩⟩⟩
      | str c =>
        cases hu
        have hv : ∀ {H2 : Hp}, Dp K H2 (.str c) (.str c) := .str c
        refine iteF ⟨_, rfl, rfl, _, rfl, iteDN (fun z => nomatch z) ?_⟩
        refine ⟨_, rfl, by show 2 ≤ sizeLine; decide, fun t2 nt2 => ⟨_, _, _, rfl, upd_same, hv, _, rfl, iteT ?_⟩⟩
        refine ⟨_, rfl, ⟨_, _, rfl, hv, false, (show kitB "str" "bool" = some false by decide +kernel), _, rfl, ⟨_, _, rfl, hv, false, (show kitB "str" "bool" = some false by decide +kernel), rfl, _, rfl, iteD rfl ?_⟩⟩⟩
        refine ⟨_, rfl, rfl, _, rfl, rfl, rfl, ?_⟩
        exact ⟨_, rfl, _, rfl, rfl, _, rfl, iteD rfl ⟨_, rfl, q_true rfl (q _ (s1.trans (same_upd nt2)))⟩⟩
      | lst h1 h2 =>
        rename_i a xs ds
        cases hu with
        | lst g1 g2 =>
        rename_i a' ys
        obtain ⟨m, hm, hlen, hok2⟩ := ok_seq (xs := ds) (.inl rfl) hok
        have l1 := dps_len h2
        have l2 := dps_len g2
        have hv : Dp K H1 (.ref a) _ := .lst h1 h2
        have hu : Dp K H1 (.ref a') _ := .lst g1 g2
        refine iteT ⟨_, rfl, ⟨_, _, rfl, hv, true, (show kitB "list" "list" = some true by decide +kernel), _, rfl, ⟨_, _, rfl, hu, true, (show kitB "list" "list" = some true by decide +kernel), rfl, _, rfl, iteNS rfl ?_⟩⟩⟩
        refine ⟨_, rfl, ⟨_, _, rfl, hv, false, (show kitB "list" "tuple" = some false by decide +kernel), _, rfl, ⟨_, _, rfl, hu, false, (show kitB "list" "tuple" = some false by decide +kernel), rfl, _, rfl, iteNS rfl ?_⟩⟩⟩
        refine ⟨_, rfl, _, xs, rfl, .inl h1, _, rfl, _, ys, rfl, .inl g1, rfl, _, rfl, iteD (by rw [l1, l2]) ?_⟩
        refine ⟨_, rfl, _, rfl, a, a', xs, ys, rfl, .inl ⟨h1, g1, fun D nD => lc_same (walk_zip (n := xs.length) (by omega)) h2 g2 rfl nD (by omega) (fun H2 s2 => ⟨Same.seq s2 h1, Same.seq s2 g1⟩) (fun _ _ => rfl)
          (fun j x y e H2 Q2 he dx dy k2 => ⟨_, rfl, _, rfl, m, x, y, e, by omega, rfl, dx, dy, okDs_get hok2 he, k2⟩) fun H2 s2 hD2 => ⟨D, List.replicate xs.length true, rfl, SqL.of hD2, ?_⟩⟩⟩
        rw [rep_all]
        exact q _ (s1.trans fun c o e => s2 c o (fun z => ne_of_none e nD (List.mem_singleton.mp z)) e)
      | tup h1 h2 =>
        rename_i a xs ds
        cases hu with
        | tup g1 g2 =>
        rename_i a' ys
        obtain ⟨m, hm, hlen, hok2⟩ := ok_seq (xs := ds) (.inr rfl) hok
        have l1 := dps_len h2
        have l2 := dps_len g2
        have hv : Dp K H1 (.ref a) _ := .tup h1 h2
        have hu : Dp K H1 (.ref a') _ := .tup g1 g2
        refine iteT ⟨_, rfl, ⟨_, _, rfl, hv, false, (show kitB "tuple" "list" = some false by decide +kernel), _, rfl, ⟨_, _, rfl, hu, false, (show kitB "tuple" "list" = some false by decide +kernel), rfl, _, rfl, iteNS rfl ?_⟩⟩⟩
        refine ⟨_, rfl, ⟨_, _, rfl, hv, true, (show kitB "tuple" "tuple" = some true by decide +kernel), _, rfl, ⟨_, _, rfl, hu, true, (show kitB "tuple" "tuple" = some true by decide +kernel), rfl, _, rfl, iteNS rfl ?_⟩⟩⟩
        refine ⟨_, rfl, _, xs, rfl, .inr h1, _, rfl, _, ys, rfl, .inr g1, rfl, _, rfl, iteD (by rw [l1, l2]) ?_⟩
        refine ⟨_, rfl, _, rfl, a, a', xs, ys, rfl, .inr ⟨h1, g1, fun D nD => lc_same (walk_zipT (n := xs.length) (by omega)) h2 g2 rfl nD (by omega) (fun H2 s2 => ⟨same_seqT s2 h1, same_seqT s2 g1⟩) (fun _ _ => rfl)
          (fun j x y e H2 Q2 he dx dy k2 => ⟨_, rfl, _, rfl, m, x, y, e, by omega, rfl, dx, dy, okDs_get hok2 he, k2⟩) fun H2 s2 hD2 => ⟨D, List.replicate xs.length true, rfl, SqL.of hD2, ?_⟩⟩⟩
        rw [rep_all]
        exact q _ (s1.trans fun c o e => s2 c o (fun z => ne_of_none e nD (List.mem_singleton.mp z)) e)
end
end KV

namespace KV
open PySem PySem.Spec PyProof.Rows L2 RZ
section
variable {P : Program} {w : World} {K : PySem.W.Frag} {mg : Str → Option Value} {base : Heap}
/-! ### _law_box -/
def spBox (K : PySem.W.Frag) : Sp := fun vs H Q _ => ∃ (a : Addr) (ns : List Int) (k : Nat), vs = [.ref a, .int k] ∧ SqL K H a (ns.map V.int) ∧ k < 10 ∧ ns.length ≤ 63 ∧
  ∀ (p : Addr) (H' : Hp), Same H H' → H p = none → BoxAt H' p 0 → Q (.ref p) H'
theorem scBox : FnScope ["_law_script", "_law_k", "_law_cell"] ["_law_script", "_law_k"] (defScope sBox) :=
  ⟨rfl, rfl, rfl, by decide +kernel, rfl, by decide +kernel, by decide +kernel⟩
theorem ok_box {f : Addr} {fd : FuncData} {k : Nat} (F : Fun K "_law_box" "_law_box" sBox f fd) (mi : mg "int" = none) (me : mg "len" = none) (mb : mg "abs" = none) : FnOk P w K mg base CX0 (k + 1) f fd ["_law_script", "_law_k"] (spBox K) := by
  refine F.ok scBox (fun vs H Q E h => ?_) (fun cdv A outer s H vs Q E hr h => ?_)
  · obtain ⟨a, ns, k, rfl, _⟩ := h
    rfl
  · obtain ⟨a, ns, k, rfl, hS, hk, hl, q⟩ := h
    refine ⟨_, pss_cons (ps_set (i := 2) scBox.nd rfl (.inl rfl) (pe_ifExp (pt_cmpR op_lt (pv 1) (pe_callB call_len_seq (by rfl) me PySem.boot_len (pa_cons (pv 0) pa_nil)) (nomark _)) (pe_ix ix_seq (pv 0) (pv 1) (fun _ _ => rfl)) pe_int))
      (pss_one (ps_ret (pe_lst (pa_cons (pe_op op_mul (pe_callB call_abs (by rfl) mb boot_abs (pa_cons (pv 2) pa_nil)) (pe_callTy call_int1 (by rfl) mi PyProof.Rows.boot_int (pa_cons (pe_cmpR op_ge (pe_callB call_abs (by rfl) mb boot_abs (pa_cons (pv 2) pa_nil)) (pe_op op_pow pe_int pe_int) (nomark _)) pa_nil)))
        (pa_cons (pe_op op_add (pe_op op_add (pe_op op_mod (pe_callTy call_int1 (by rfl) mi PyProof.Rows.boot_int (pa_cons (pv 2) pa_nil)) pe_int) (pe_op op_mul pe_int (pv 1))) pe_int) (pa_cons pe_int pa_nil)))))), ?_⟩
    -- the cell
    refine ⟨_, rfl, _, rfl, a, _, rfl, .inl hS, _, _, rfl, rfl, _, rfl, ite2 (fun e => ?_) (fun e => ?_)⟩
    · have e1 : k < ns.length := by
        have e2 := of_decide_eq_true e
        rw [List.length_map] at e2
        omega
      refine ⟨_, rfl, _, rfl, .inl ⟨a, _, k, .int ns[k], rfl, rfl, hS, atI_nat (by rw [List.getElem?_map, List.getElem?_eq_getElem e1]; rfl), ?_⟩⟩
      generalize ns[k] = c
      refine ⟨_, rfl, _, rfl, _, rfl, _, rfl, _, _, rfl, rfl, ⟨by decide, by decide, by decide⟩, _, _, rfl, rfl, .inr ⟨_, rfl, _, _, rfl, rfl, .inr ?_, _, rfl, .inl ⟨_, rfl, _, _, rfl, rfl, (by show (0 : Int) < _; decide), _, rfl, _, _, rfl, rfl, .inl ⟨by decide, by decide⟩, _, _, rfl, rfl, _, _, rfl, rfl, by show 3 ≤ sizeLine; decide, fun p np => q p _ (same_upd np) np ⟨_, _, _, upd_same, ?_, ?_, by decide, by decide⟩⟩⟩⟩
      · cases decide ((10 : Int) ^ (18 : Int).toNat ≤ if c < 0 then -c else c) <;> exact ⟨by decide, by decide⟩
      · have h1 : 0 ≤ c % 2305843009213693951 := Int.emod_nonneg _ (by decide)
        omega
      · have h2 : c % 2305843009213693951 < 2305843009213693951 := Int.emod_lt_of_pos _ (by decide)
        omega
    · refine ?_
      have c : Int := 0
      refine ⟨_, rfl, _, rfl, _, rfl, _, rfl, _, _, rfl, rfl, ⟨by decide, by decide, by decide⟩, _, _, rfl, rfl, .inr ⟨_, rfl, _, _, rfl, rfl, .inr ?_, _, rfl, .inl ⟨_, rfl, _, _, rfl, rfl, (by show (0 : Int) < _; decide), _, rfl, _, _, rfl, rfl, .inl ⟨by decide, by decide⟩, _, _, rfl, rfl, _, _, rfl, rfl, by show 3 ≤ sizeLine; decide, fun p np => q p _ (same_upd np) np ⟨_, _, _, upd_same, ?_, ?_, by decide, by decide⟩⟩⟩⟩
      · cases decide ((10 : Int) ^ (18 : Int).toNat ≤ if c < 0 then -c else c) <;> exact ⟨by decide, by decide⟩
      · have h1 : 0 ≤ c % 2305843009213693951 := Int.emod_nonneg _ (by decide)
        omega
      · have h2 : c % 2305843009213693951 < 2305843009213693951 := Int.emod_lt_of_pos _ (by decide)
        omega
end
end KV

namespace KV
open PySem PySem.Spec PyProof.Rows L2 PySem.Froz
/-! ### a set of texts -/
def TxSet (P : Program) (w : World) (h : Heap) (a : Addr) (l : List Str) : Prop :=
  ∃ D : SD, h.get? a = some (sObj "set" D) ∧ TxOk P w D l ∧ l.Nodup ∧ l.length < scanBound ∧ Ris D.2.2.place.toList ∧ (w.params.followText "set-order" = true ∨ D.2.2.led = true)
section
variable {P : Program} {w : World} {A : Around} {E : Value → Shared → Prop} {s : Shared} {a : Addr} {l : List Str}
theorem TxSet.keep {h h' : Heap} (R : TxSet P w h a l) (k : ∀ o, h.get? a = some o → h'.get? a = some o) : TxSet P w h' a l := by
  obtain ⟨D, e, z⟩ := R
  exact ⟨D, k _ e, z⟩
theorem TxSet.live {h : Heap} (R : TxSet P w h a l) : a < h.objs.size := by
  obtain ⟨D, e, _⟩ := R
  exact Heap.lt_size e
theorem tail_ris {ep : Nat} {es : Array (Int × Value)} {t : SetTable} {b : Bool} (r : Ris t.place.toList) : Ris (tailTx ep es t b).2.2.place.toList := by
  unfold tailTx
  split
  · exact relayAll_ris _ _ _
  · exact r
theorem tail_led {ep : Nat} {es : Array (Int × Value)} {t : SetTable} {b : Bool} : (tailTx ep es t b).2.2.led = t.led := by
  unfold tailTx
  split
  · exact relayAll_led _ _ _
  · rfl
theorem addTx_ris {h : Int} {v : Value} {D : SD} (r : Ris D.2.2.place.toList) : Ris (addTx h v D).2.2.place.toList := by
  have q := layNew_ris D.2.2 D.1 h v r
  exact tail_ris (by split <;> exact q)
theorem addTx_led {h : Int} {v : Value} {D : SD} : (addTx h v D).2.2.led = D.2.2.led := by
  have q := layNew_led D.2.2 D.1 h v
  refine Eq.trans tail_led ?_
  split <;> exact q
theorem tx_add {k : Str} {u : Tok} {Q : Bool → Shared → Prop} (R : TxSet P w s.heap a l) (room : l.length + 1 < scanBound)
    (hQ : ∀ (b : Bool) (h' : Heap) (l' : List Str), Heap.SameBut a s.heap h' → TxSet P w h' a l' → (∀ x, x ∈ l' ↔ x = k ∨ x ∈ l) → l'.length ≤ l.length + 1 → Q b { s with heap := h' }) :
    wpAny (model P w) A (setAddHashed a (.str k u) (hashStr w k)) Q E s := by
  obtain ⟨D, ho, F, nd, hb, hr, hl⟩ := R
  by_cases hk : k ∈ l
  · obtain ⟨es, ep, t⟩ := D
    have hkey : (strKind P w).is k (.str k u) = true := is_str k u
    have hsm : es.size < scanBound := by
      have e : es.size = l.length := F.sz
      omega
    unfold setAddHashed setAddHashedIn
    refine wpAny_holding (wpAny_bind (wpAny_setState_of (o := sObj "set" (es, ep, t)) ho rfl F.fit ?_))
    dsimp only
    rw [byScan_of (x := Value.str k u) rfl hsm F.el]
    simp only [↓reduceIte]
    unfold setAddByScan
    refine wpAny_bind (wpAny_bind (wpAny_rule (wpAny_bind (wpAny_setScan_of (knd := strKind P w) (k := k) (o := sObj "set" (es, ep, t)) hkey ho rfl F.fit F.el ?_))))
    cases hf : List.findIdx? (fun e => (strKind P w).is k e.2) es.toList with
    | some j => exact wpAny_pure (wpAny_pure (hQ _ s.heap l (Heap.SameBut.refl a s.heap) ⟨_, ho, F, nd, hb, hr, hl⟩ (fun x => ⟨.inr, fun z => z.elim (fun e => e ▸ hk) id⟩) (Nat.le_succ _)))
    | none =>
      obtain ⟨e, he, q⟩ := (F.mem k).mp hk
      have c := List.findIdx?_eq_none_iff.mp hf e he
      rw [q] at c
      cases c
  · refine add_x ho F hk room (hQ true _ (k :: l) (Heap.SameBut.update s.heap a _) ⟨_, get_upd _ ho rfl, add_ok u F, List.nodup_cons.mpr ⟨hk, nd⟩, room, addTx_ris hr, ?_⟩ (fun x => List.mem_cons) (Nat.le_refl _))
    exact hl.imp id fun z => addTx_led.trans z
theorem tx_fresh {h : Heap} (ho : h.get? a = some { cls := .type "set", dict := none, data := .set #[] 0 (.fresh 0 0 (!w.params.followText "set-order")) }) : TxSet P w h a [] := by
  refine ⟨(#[], 0, .fresh 0 0 (!w.params.followText "set-order")), ho, TxOk.nil rfl, List.nodup_nil, by decide, List.Pairwise.nil, ?_⟩
  cases e : w.params.followText "set-order" with
  | true => exact .inl rfl
  | false => exact .inr rfl
/-- set.update of a walk over texts -/
theorem tx_loop {I : Addr} {fp wr : List Addr} {G : Array GenState → Array GenState → Prop} {n : Nat} {Pv : Nat → Value → Prop} {St : Nat → Shared → Prop} {R : Result → Shared → Prop}
    (W : WalksS P w A.in1 I fp wr G n Pv St) (hf : a ∉ fp) (xs : List Str) (hn : n = xs.length) (hb : xs.length + 1 < scanBound) (hval : ∀ i v, Pv i v → ∃ k t, xs[i]? = some k ∧ v = .str k t) :
    ∀ (m i : Nat) (s : Shared), n = i + m → St i s → (∃ l, l.length ≤ i ∧ (∀ x, x ∈ l ↔ x ∈ xs.take i) ∧ TxSet P w s.heap a l) →
      (∀ s' l, Moved (a :: wr) G s s' → l.length ≤ n → (∀ x, x ∈ l ↔ x ∈ xs) → TxSet P w s'.heap a l → R (.ok (.ret .none)) s') →
      codeAny (model P w) A (.builtin "set.update.loop" ⟨[.ref a, .ref I], []⟩) R s := by
  have ha : a ∉ wr := fun z => hf (W.sub _ z)
  intro m
  induction m with
  | zero =>
    rintro i s en st ⟨l, hl, hm, hS⟩ fin
    have ei : i = n := by omega
    subst ei
    have all : xs.take i = xs := List.take_of_length_le (Nat.le_of_eq hn.symm)
    rw [all] at hm
    refine codeAny_builtin F.entry_set_update_loop (Around.under_plainId F.plain_set_update_loop _ ▸ wpAny_bind (W.done s _ _ st fun s' mv => wpAny_pure (fin s' l (mv.mono fun b z => List.mem_cons_of_mem _ z) hl hm (hS.keep fun o e => mv.heap a o ha e))))
  | succ m ih =>
    rintro i s en st ⟨l, hl, hm, hS⟩ fin
    have hi : i < n := by omega
    refine codeAny_builtin F.entry_set_update_loop (Around.under_plainId F.plain_set_update_loop _ ▸ wpAny_bind (W.item i s _ _ hi st fun v s1 pv st1 mv => ?_))
    obtain ⟨k, t, hk, rfl⟩ := hval i v pv
    have R1 : TxSet P w s1.heap a l := hS.keep fun o e => mv.heap a o ha e
    show wpAny _ A.in1 (holding [Value.str k t] (setAdd a (.str k t)) >>= _) _ _ s1
    refine wpAny_bind (wpAny_holding ?_)
    unfold setAdd
    refine wpAny_holding (wpAny_bind ((strKind P w).pyHash (k := k) (is_str _ _) ?_))
    refine tx_add (s := { s1 with toks := s1.toks + 1 }) R1 (by omega) fun b h' l' sb R2 hm2 hl2 => ?_
    refine wpAny_pure ⟨plainId_quiet F.plain_set_update_loop _, ih (i + 1) _ (by omega) (W.frame _ s1 _ _ st1 (Nat.le_succ _) fun b hb o e => (sb.2 b (fun z : b = a => hf (z ▸ hb))).trans e) ⟨l', by omega, fun x => ?_, R2⟩ fun s2 l2 mv2 h2 h3 h4 => ?_⟩
    · rw [hm2 x, hm x, List.take_add_one, hk, List.mem_append]
      show _ ↔ _ ∨ x ∈ [k]
      rw [List.mem_singleton]
      exact Or.comm
    · exact fin s2 l2 (Moved.trans W.gtrans ((mv.mono fun b z => List.mem_cons_of_mem _ z).then_heap (Nat.le_succ _) fun b o hb e => (sb.2 b (fun z : b = a => hb (z ▸ List.mem_cons_self))).trans e) mv2) h2 h3 h4
end
end KV

namespace KV
open PySem PySem.Spec PyProof.Rows L2 PySem.Froz
abbrev nob (w : World) : Obj := { cls := .type "set", dict := none, data := .set #[] 0 (.fresh 0 0 (!w.params.followText "set-order")) }
section
variable {P : Program} {w : World} {A : Around} {E : Value → Shared → Prop} {s : Shared} {a : Addr} {l : List Str}
/-- set(xs) of a tuple of texts -/
theorem tx_of_tuple {p : Addr} {its : Array Value} {xs : List Str} {Q : Value → Shared → Prop} (hh : A.handled = none) (hp : s.heap.IsTuple p its) (hx : StrsAre its.toList xs) (hb : xs.length + 1 < scanBound)
    (q : ∀ (h' : Heap) (tk : Nat) (l : List Str), TxSet P w h' s.heap.objs.size l → l.length ≤ xs.length → (∀ x, x ∈ l ↔ x ∈ xs) → (∀ b o, s.heap.get? b = some o → h'.get? b = some o) → Q (.ref s.heap.objs.size) { s with heap := h', toks := tk }) :
    wpAny (model P w) A (call (.type "set") [.ref p]) Q E s := by
  have hsz : its.size = xs.length := by
    rw [← StrsAre.len_eq hx, Array.length_toList]
  have ⟨c, tl, hmro⟩ := F.called_set.mro
  have hmade := F.called_set.made
  have hsub := F.called_set.sub
  have h1 := F.called_set.notType
  have h2 := F.called_set.canCreate
  have hct := F.typeCall_set_1 (.ref p)
  refine wpAny_call (codeAny_of_tree ?_)
  show wpAny _ _ (callAny (.type "set") _) _ _ _
  refine wpAny_pure ⟨Code.quiet_builtin _ (by decide +kernel), codeAny_builtin F.entry_type_call (Around.under_plain (weight_type_call_type "set" [.ref p] []) rfl ▸ ?_)⟩
  repeat (any_goals (first | assumption | wp_step))
  refine codeAny_mono (code_set_led1 (.ref p) (E := E) (Q₁ := fun v s1 => v = .ref s.heap.objs.size ∧ s1 = { s with heap := s.heap.push (nob w) }) ⟨rfl, rfl⟩) fun r s1 hr => ?_
  rcases r with e | fl
  · exact hr
  · cases fl with
    | ret v =>
      obtain ⟨rfl, rfl⟩ := hr
      have hS : (s.heap.push (nob w)).get? s.heap.objs.size = some (nob w) := Heap.get?_push_size _ rfl
      have hT : Shared.TypeIs { s with heap := s.heap.push (nob w) } (.ref s.heap.objs.size) "set" := ⟨_, hS, rfl⟩
      have hli := F.called_set.init.lookup
      have hbi := F.called_set.init.bind (.ref s.heap.objs.size)
      repeat (any_goals (first | assumption | wp_step))
      refine codeAny_mono (codeAny_call_builtin (R := wants (fun r s2 => r = .none ∧ ∃ h' tk l, s2 = { s with heap := h', toks := tk } ∧ TxSet P w h' s.heap.objs.size l ∧ l.length ≤ xs.length ∧ (∀ x, x ∈ l ↔ x ∈ xs) ∧
          ∀ b o, s.heap.get? b = some o → h'.get? b = some o) E) F.called_set.init.plain F.entry_set_init (check_set_init_1 hT ?_)) fun r2 s2 hr2 => ?_
      · obtain ⟨⟨oc, od, odt, osl⟩, hol, hcl, nl, hdl⟩ := hp
        simp only at hcl hdl
        subst hcl; subst hdl
        have hol1 : (s.heap.push (nob w)).get? p = some { cls := .type "tuple", dict := od, data := .seq its nl, slots := osl } := Heap.get?_push_of_some _ hol
        have n1 := F.sub_tuple_set
        have n2 := F.sub_tuple_frozenset
        have n3 : (Value.type "tuple" == Value.type "dict") = false := by decide
        have hp1 : (s.heap.push (nob w)).IsTuple p its := ⟨_, hol1, rfl, nl, rfl⟩
        unfold Builtin.«set.__init__» noKeywords Builtin.Frozenset.updateFrom
        generalize hPI : pyIter = PI
        wp_walk
        subst hPI
        refine wpAny_pyIter_tuple hp1 (wpAny_bind (wpAny_runValue ?_))
        have pS : p < s.heap.objs.size := Heap.lt_size hol
        have hz : (s.heap.push (nob w)).objs.size = s.heap.objs.size + 1 := Heap.size_push ..
        have hI : p ≠ (s.heap.push (nob w)).objs.size := fun z => Nat.ne_of_lt (Nat.lt_succ_of_lt pS) (z.trans hz)
        have hh3 : A.in1.in1.in1.handled = none := by simp [hh]
        have hSf : s.heap.objs.size ∉ [(s.heap.push (nob w)).objs.size, p] := fun z => by
          rcases List.mem_cons.mp z with z | z
          · exact absurd (z.trans hz) (Nat.ne_of_lt (Nat.lt_succ_self _))
          · exact Nat.ne_of_gt pS (List.mem_singleton.mp z)
        have hval : ∀ (i : Nat) (v : Value), its[i]? = some v → ∃ k t, xs[i]? = some k ∧ v = .str k t := fun i v hv => by
          have hi : i < xs.length := hsz ▸ (Array.getElem?_eq_some_iff.mp hv).1
          obtain ⟨t, e⟩ := SS.strs_at hx i v (by rw [Array.getElem?_toList]; exact hv)
          exact ⟨xs[i], t, List.getElem?_eq_getElem hi, by rw [e, List.getD_eq_getElem?_getD, List.getElem?_eq_getElem hi] <;> rfl⟩
        refine tx_loop (a := s.heap.objs.size) ((Walks.tuple hh3 _ p hI its).toS) hSf xs hsz hb hval its.size 0 _ (by omega) ⟨⟨_, Heap.get?_push_size _ rfl, rfl, rfl⟩, hp1.push _⟩ ⟨[], Nat.le_refl 0, fun x => by simp, tx_fresh (Heap.get?_push_of_some _ hS)⟩ ?_
        rintro ⟨h', g', d', tk', os'⟩ l mv hl hm hS2
        have eg : g' = s.gens := mv.gens
        have ed : d' = s.drawn := mv.drawn
        have eo : os' = s.os := mv.os
        subst eg; subst ed; subst eo
        show wpAny _ _ _ _ _ _
        refine wpAny_pure ?_
        show wpAny _ _ (ret Value.none) _ _ _
        refine wpAny_pure ⟨rfl, h', tk', l, rfl, hS2, hsz ▸ hl, hm, fun b o e => ?_⟩
        have b0 : b < s.heap.objs.size := Heap.lt_size e
        refine mv.heap b o (fun z => ?_) (Heap.get?_push_of_some _ (Heap.get?_push_of_some _ e))
        rcases List.mem_cons.mp z with z | z
        · exact Nat.ne_of_lt b0 z
        · exact Nat.ne_of_lt (Nat.lt_succ_of_lt b0) ((List.mem_singleton.mp z).trans hz)
      · rcases r2 with e | fl2
        · exact hr2
        · cases fl2 with
          | ret v2 =>
            obtain ⟨rfl, h', tk, l, rfl, hS2, hl, hm, hk⟩ := hr2
            repeat (any_goals (first | assumption | wp_step))
            exact q _ _ l hS2 hl hm hk
          | _ => exact hr2.elim
    | _ => exact hr.elim
end
end KV

namespace KV
open PySem PySem.Spec PyProof.Rows L2 PySem.Froz
theorem perm_of_sub {α : Type} [BEq α] [LawfulBEq α] : ∀ (l m : List α), l.Nodup → (∀ x ∈ l, x ∈ m) → m.length = l.length → m.Perm l
  | [], m, _, _, h => by
    rw [List.eq_nil_of_length_eq_zero h]
  | x :: l, m, nd, sub, h => by
    obtain ⟨n1, n2⟩ := List.nodup_cons.mp nd
    have hx : x ∈ m := sub x List.mem_cons_self
    have pm := List.perm_cons_erase hx
    have q := perm_of_sub l (m.erase x) n2 (fun y hy => (List.mem_erase_of_ne (fun z => n1 (by rw [← z]; exact hy))).mpr (sub y (List.mem_cons_of_mem _ hy))) (by
      have e := pm.length_eq
      rw [List.length_cons] at e h
      omega)
    exact pm.trans (q.cons x)
section
variable {P : Program} {w : World} {A : Around} {E : Value → Shared → Prop} {s : Shared} {a : Addr} {l : List Str}
theorem tx_sort {p : Addr} {vs : List Value} {ss : List Str} {n : Nat} {R : Fin → Shared → Prop} (ho : s.heap.get? p = some (seqObj "list" vs.toArray n)) (hS : StrsAre vs ss) (hz : vs.length ≤ sizeLine)
    (q : ∀ (out : Array Value) (ts : List Str), StrsAre out.toList ts → ts.Perm ss → sortedS ts = true → R (.done (.ret .none)) { s with heap := sortedHeap s.heap p vs out }) :
    wpAny (model P w) A (Builtin.«list.sort» ⟨[.ref p], []⟩) R E s := by
  refine list_sort_treeKAny strKind_oneLt ho hS.keysOf (fun v1 v2 r e => keyKind_strs (by rw [← e]; exact hS)) hz fun st' p1 p2 => ?_
  obtain ⟨ts, q1, q2, q3⟩ := sorted_out_str hS p1 p2
  exact q _ ts q1 q2 q3
/-- sorted(a set of texts) -/
theorem tx_sorted {Q : Value → Shared → Prop} (R : TxSet P w s.heap a l) (hh : A.handled = none)
    (q : ∀ s' p (out : Array Value) (c : Nat) (ss : List Str), (∀ b o, s.heap.get? b = some o → s'.heap.get? b = some o) → s'.gens = s.gens → s'.os = s.os → s.heap.objs.size ≤ p →
      s'.heap.get? p = some (seqObj "list" out c) → StrsAre out.toList ss → sortedS ss = true → ss.Perm l → Q (.ref p) s') :
    wpAny (model P w) A (call (.builtin "sorted") [.ref a]) Q E s := by
  obtain ⟨⟨es, ep, t⟩, ho, F, nd, hb, hr, hl⟩ := R
  have hsz : es.size = l.length := F.sz
  refine Calls.call_function_entry kind_sorted plain_sorted entry_sorted (args_sorted1 _) ?_
  unfold Builtin.«sorted»
  refine wpAny_bind (m := checkCount "sorted" 1 1 _) (wpAny_pure ?_)
  have hat : SetAt s.heap a es ep t := ⟨_, ho, rfl, rfl⟩
  have hfit : t.fits es.size = true := F.fit
  have hsm : es.size < scanBound := by
    rw [hsz]
    exact hb
  refine wpAny_bind (collect_set (A := A.in1) hh hat hfit hsm hr hl fun s1 vs k1 hz g1 o1 pm => ?_)
  have len : vs.length = l.length := by rw [pm.length_eq, List.length_map, Array.length_toList, hsz]
  have allS : ∀ v ∈ vs, ∃ x tk, v = Value.str x tk := fun v hv => by
    obtain ⟨e, he, z⟩ := List.mem_map.mp (pm.mem_iff.mp hv)
    obtain ⟨⟨k, hk, _⟩, _⟩ := F.el e he
    obtain ⟨tk, e2⟩ := Value.isStrOf_shape hk
    exact ⟨k, tk, by rw [← z]; exact e2⟩
  have hS := strsAre_map vs allS
  have pl : (vs.map strOf).Perm l := perm_of_sub l _ nd (fun x hx => by
    obtain ⟨e, he, z⟩ := (F.mem x).mp hx
    obtain ⟨tk, e2⟩ := Value.isStrOf_shape z
    exact List.mem_map.mpr ⟨e.2, pm.mem_iff.mpr (List.mem_map.mpr ⟨e, he, rfl⟩), by rw [e2] <;> rfl⟩) (by rw [List.length_map]; exact len)
  have hz64 : vs.length ≤ sizeLine := by
    rw [len]
    exact fits_of_scanBound hb
  refine wpAny_bind (wpAny_newList ?_ hz64)
  have hL : (s1.heap.push (seqObj "list" vs.toArray 0)).get? s1.heap.objs.size = some (seqObj "list" vs.toArray 0) := Heap.get?_push_size _ rfl
  refine wpAny_bind (wpAny_holding (wpAny_call_entry slot_list_sort ⟨_, hL, rfl⟩ entry_list_sort (tx_sort hL hS hz64 fun out ss q1 q2 q3 => ⟨_, rfl, ?_⟩) (args_list_sort _)))
  obtain ⟨c, hc⟩ := sortedHeap_at (vs := vs) (out := out) hL
  refine wpAny_pure ⟨_, rfl, q _ s1.heap.objs.size out c ss (fun b u e => ?_) g1 o1 hz hc q1 q3 (q2.trans pl)⟩
  have e1 := k1 b u e
  have lt := Heap.lt_size e1
  show (sortedHeap (s1.heap.push (seqObj "list" vs.toArray 0)) s1.heap.objs.size vs out).get? b = some u
  refine (sortedHeap_old (Nat.ne_of_lt lt) (by rw [size_push']; exact Nat.lt_succ_of_lt lt)).trans ?_
  exact Heap.get?_push_of_some _ e1
end
/-! ### as objects of the hand layer -/
def TxO (P : Program) (w : World) (a : Addr) (l : List Str) : HO := .ext fun h => TxSet P w h a l
section
variable {X : Cx}
theorem txO_new {P : Program} {w : World} {H : Hp} {h : Heap} {a : Addr} {l : List Str} (R : TxSet P w h a l) : ObjOk P w H h a (TxO P w a l) :=
  ⟨R, R.elim fun D z => ⟨_, z.1⟩, fun h1 h2 p k => TxSet.keep p k⟩
theorem txO_get {pins : List (Addr × Obj)} {σ : L2.St} {H : Hp} {s : Shared} {a : Addr} {l : List Str} (I : Inv X pins σ H s) (ha : H a = some (TxO X.prog X.w a l)) : TxSet X.prog X.w s.heap a l := (I.hok a _ ha).1
/-- set(a tuple of texts) -/
def rSetT (P : Program) (w : World) (K : PySem.W.Frag) : List V → Hp → VK → Prop := fun vs H Q => ∃ (p : Addr) (xs : List Str), vs = [.ref p] ∧ SqT K H p (xs.map V.str) ∧ xs.length ≤ 1000 ∧
  ∀ (a : Addr) (l : List Str), H a = none → (∀ x, x ∈ l ↔ x ∈ xs) → l.length ≤ xs.length → Q (.ref a) (upd H a (TxO P w a l))
theorem cr_setT (hc : X.calm = true) : CallR X (.type "set") (rSetT X.prog X.w X.K) := by
  intro pins s σ H vs us Q I r h
  obtain ⟨p, xs, rfl, hq, hz, q⟩ := h
  rw [Vals.ref1 r]
  obtain ⟨its, rv, pt, _⟩ := I.tuple hq
  have hx : StrsAre its.toArray.toList xs := by simpa using rv.strs
  refine tx_of_tuple (I.ok.hd hc) (show s.heap.IsTuple p its.toArray from pt) hx (by unfold scanBound; omega) fun h' tk l R hl hm k => ?_
  exact ⟨.ref _, upd H s.heap.objs.size (TxO X.prog X.w s.heap.objs.size l), I.laid k (Nat.le_refl _) (txO_new R), rfl, q _ l (I.hok.fresh (Nat.le_refl _)) hm hl⟩
/-- sorted(a set of texts) -/
def rSortedT (P : Program) (w : World) : List V → Hp → VK → Prop := fun vs H Q => ∃ (a : Addr) (l : List Str), vs = [.ref a] ∧ H a = some (TxO P w a l) ∧ l.length ≤ 1000 ∧
  ∀ (ss : List Str) (p : Addr), sortedS ss = true → ss.Perm l → l.Nodup → H p = none → Q (.ref p) (upd H p (.lst (ss.map V.str)))
theorem cr_sortedT (hc : X.calm = true) : CallR X (.builtin "sorted") (rSortedT X.prog X.w) := by
  intro pins s σ H vs us Q I r h
  obtain ⟨a, l, rfl, ha, hz, q⟩ := h
  rw [Vals.ref1 r]
  have R := txO_get I ha
  have nd : l.Nodup := R.elim fun D z => z.2.2.1
  refine tx_sorted R (I.ok.hd hc) fun s' p out c ss k g o hp hob hi hs pm => ?_
  have fits : (ss.map V.str).length ≤ sizeLine := by
    rw [List.length_map, pm.length_eq, sizeLine_eq]
    omega
  have none : H p = none := I.hok.fresh hp
  have J : Inv X pins σ (upd H p (.lst (ss.map V.str))) { s with heap := s'.heap, gens := s'.gens, drawn := s'.drawn, toks := s'.toks } :=
    I.call (ch := []) (Un.laid k hp none) (I.hok.laid k hp ⟨fits, out.toList, c, vals_of_strs hi, hob⟩) (by rw [g]; exact I.bare) (fun _ z => nomatch z)
  have e : s' = { s with heap := s'.heap, gens := s'.gens, drawn := s'.drawn, toks := s'.toks } := by
    obtain ⟨a1, a2, a3, a4, a5⟩ := s'
    obtain ⟨b1, b2, b3, b4, b5⟩ := s
    cases o
    rfl
  rw [e]
  exact ⟨.ref p, _, J, rfl, q ss p hs pm nd none⟩
end
end KV

namespace KV
open PySem PySem.Spec PyProof.Rows L2 PySem.Froz
/-! ### texts in order -/
def ltS (a b : Str) : Prop := a.cps.toList < b.cps.toList
instance (a b : Str) : Decidable (ltS a b) := by unfold ltS; infer_instance
theorem str_ext {a b : Str} (h : a.cps.toList = b.cps.toList) : a = b := by
  obtain ⟨x⟩ := a
  obtain ⟨y⟩ := b
  have e : x = y := Array.toList_inj.mp h
  rw [e]
theorem ltS_irr (a : Str) : ¬ ltS a a := List.lt_irrefl _
theorem ltS_trans {a b c : Str} (h : ltS a b) (k : ltS b c) : ltS a c := List.lt_trans h k
theorem ltS_tri {a b : Str} (h : ¬ ltS a b) (k : ¬ ltS b a) : a = b := str_ext (List.le_antisymm (List.not_lt.mp k) (List.not_lt.mp h))
theorem ltS_of {a b c : Str} (h : ¬ ltS b a) (k : ¬ ltS c b) : ¬ ltS c a := List.not_lt.mpr (List.le_trans (List.not_lt.mp h) (List.not_lt.mp k))
theorem ltS_cps (a b : Str) : ltCps a.cps.toList b.cps.toList = decide (ltS a b) := ltCps_eq _ _
/-- each is below the next -/
def ascS : List Str → Bool
  | [] => true
  | [_] => true
  | a :: b :: r => decide (ltS a b) && ascS (b :: r)
theorem ascS_pw : ∀ (l : List Str), ascS l = true → l.Pairwise ltS
  | [], _ => .nil
  | [a], _ => List.pairwise_singleton _ _
  | a :: b :: r, h => by
    have h1 : (decide (ltS a b) && ascS (b :: r)) = true := h
    rw [Bool.and_eq_true, decide_eq_true_eq] at h1
    have ih := ascS_pw (b :: r) h1.2
    refine List.pairwise_cons.mpr ⟨fun x hx => ?_, ih⟩
    rcases List.mem_cons.mp hx with rfl | hx
    · exact h1.1
    · exact ltS_trans h1.1 ((List.pairwise_cons.mp ih).1 x hx)
theorem pw_ascS : ∀ (l : List Str), l.Pairwise ltS → ascS l = true
  | [], _ => rfl
  | [a], _ => rfl
  | a :: b :: r, h => by
    show (decide (ltS a b) && ascS (b :: r)) = true
    rw [Bool.and_eq_true, decide_eq_true_eq]
    exact ⟨(List.pairwise_cons.mp h).1 b List.mem_cons_self, pw_ascS (b :: r) (List.pairwise_cons.mp h).2⟩
theorem rising_pw : ∀ (l : List Str) (p : Str), risingS p l = true → (p :: l).Pairwise fun a b => ¬ ltS b a
  | [], p, _ => List.pairwise_singleton _ _
  | x :: r, p, h => by
    have h1 : (!ltCps x.cps.toList p.cps.toList && risingS x r) = true := h
    rw [Bool.and_eq_true, ltS_cps, Bool.not_eq_true', decide_eq_false_iff_not] at h1
    have ih := rising_pw r x h1.2
    refine List.pairwise_cons.mpr ⟨fun y hy => ?_, ih⟩
    rcases List.mem_cons.mp hy with rfl | hy
    · exact h1.1
    · exact ltS_of h1.1 ((List.pairwise_cons.mp ih).1 y hy)
theorem sorted_pw {l : List Str} (h : sortedS l = true) : l.Pairwise fun a b => ¬ ltS b a := by
  cases l with
  | nil => exact .nil
  | cons x r => exact rising_pw r x h
theorem strict_of {l : List Str} (h : l.Pairwise fun a b => ¬ ltS b a) (nd : l.Nodup) : l.Pairwise ltS := by
  induction l with
  | nil => exact .nil
  | cons x r ih =>
    obtain ⟨h1, h2⟩ := List.pairwise_cons.mp h
    obtain ⟨n1, n2⟩ := List.nodup_cons.mp nd
    refine List.pairwise_cons.mpr ⟨fun y hy => Classical.byContradiction fun z => n1 ?_, ih h2 n2⟩
    rw [ltS_tri z (h1 y hy)]
    exact hy
theorem strict_eq : ∀ (l m : List Str), l.Pairwise ltS → m.Pairwise ltS → (∀ x, x ∈ l ↔ x ∈ m) → l = m
  | [], [], _, _, _ => rfl
  | [], y :: m, _, _, h => absurd ((h y).mpr List.mem_cons_self) List.not_mem_nil
  | x :: l, [], _, _, h => absurd ((h x).mp List.mem_cons_self) List.not_mem_nil
  | x :: l, y :: m, h1, h2, h => by
    obtain ⟨a1, a2⟩ := List.pairwise_cons.mp h1
    obtain ⟨b1, b2⟩ := List.pairwise_cons.mp h2
    have e : x = y := by
      refine Classical.byContradiction fun ne => ?_
      have q1 : x ∈ m := (List.mem_cons.mp ((h x).mp List.mem_cons_self)).resolve_left ne
      have q2 : y ∈ l := (List.mem_cons.mp ((h y).mpr List.mem_cons_self)).resolve_left (fun z => ne z.symm)
      exact ltS_irr _ (ltS_trans (b1 x q1) (a1 y q2))
    subst e
    have ih := strict_eq l m a2 b2 fun z => ⟨fun hz => ?_, fun hz => ?_⟩
    · rw [ih]
    · exact (List.mem_cons.mp ((h z).mp (List.mem_cons_of_mem _ hz))).resolve_left fun q => ltS_irr x (by have := a1 z hz; rw [q] at this; exact this)
    · exact (List.mem_cons.mp ((h z).mpr (List.mem_cons_of_mem _ hz))).resolve_left fun q => ltS_irr x (by have := b1 z hz; rw [q] at this; exact this)
/-- a list of texts is its set, sorted: each is below the next -/
theorem sorted_set_iff {xs l ss : List Str} (hm : ∀ x, x ∈ l ↔ x ∈ xs) (nd : l.Nodup) (hs : sortedS ss = true) (pm : ss.Perm l) : xs = ss ↔ ascS xs = true := by
  have hss := strict_of (sorted_pw hs) (pm.nodup_iff.mpr nd)
  constructor
  · rintro rfl
    exact pw_ascS _ hss
  · intro h
    exact strict_eq xs ss (ascS_pw xs h) hss fun x => ((hm x).symm.trans pm.mem_iff.symm)
end KV

namespace KV
open PySem PySem.Spec PyProof.Rows L2 RZ
abbrev sOf : Stmt := topS 8
abbrev sName : Stmt := topS 9
abbrev sNames : Stmt := topS 10
abbrev sNamed : Stmt := topS 11
section
variable {P : Program} {w : World} {K : PySem.W.Frag} {mg : Str → Option Value} {base : Heap}
theorem sgn_len (x : Str) : x.cps.toList.length = x.length := by simp [Str.length]
/-! ### _law_of -/
def spOf (K : PySem.W.Frag) : Sp := fun vs H Q _ => ∃ (b : Addr) (n : Nat) (v : V), vs = [.ref b, v] ∧ BoxAt H b n ∧ n + 1 ≤ 2 ^ 40 ∧
  ((∃ x : Str, v = .str x ∧ 0 < x.length ∧ x.length ≤ 1000 ∧ ∀ (c : Nat) (H' : Hp), c ∈ x.cps.toList → SameX [b] H H' → BoxAt H' b (n + 1) → Q (.str ⟨#[c]⟩) H') ∨
   (∃ (B : List Addr) (a : Addr) (xs : List V), v = .ref a ∧ b ∈ B ∧ (SqL K (hide B H) a xs ∨ SqT K (hide B H) a xs) ∧ 0 < xs.length ∧ xs.length ≤ 1000 ∧
     ∀ (i : Nat) (x : V) (H' : Hp), xs[i]? = some x → SameX [b] H H' → BoxAt H' b (n + 1) → Q x H'))
theorem scOf : FnScope ["_law_box_here", "_law_some"] ["_law_box_here", "_law_some"] (defScope sOf) :=
  ⟨rfl, rfl, rfl, by decide +kernel, rfl, by decide +kernel, by decide +kernel⟩
theorem ok_of {f fT : Addr} {fd fdT : FuncData} {k : Nat} (F : Fun K "_law_of" "_law_of" sOf f fd) (FT : Fun K "_law_take" "_law_take" sTake fT fdT) (bT : Binds K fdT ["_law_box_here", "_law_below"] []) (mT : mg "_law_take" = some (.ref fT))
    (mn : mg "int" = none) (ml : mg "len" = none) : FnOk P w K mg base CX0 (k + 2) f fd ["_law_box_here", "_law_some"] (spOf K) := by
  have GT : FnOk P w K mg base CX0 (k + 1) fT fdT ["_law_box_here", "_law_below"] spTake := ok_take FT mn
  refine F.ok scOf (fun vs H Q E h => ?_) (fun cdv A outer s H vs Q E hr h => ?_)
  · obtain ⟨b, n, v, rfl, _⟩ := h
    rfl
  · obtain ⟨b, n, v, rfl, hB, hn, h⟩ := h
    refine ⟨_, pss_one (ps_ret (pe_ix ix_seq (pv 1) (pe_call GT hr (by rfl) mT FT.kp bT .nil pass0 (pa_cons (pv 0) (pa_cons (pe_callB (call_len_seq.or call_len_str) (by rfl) ml PySem.boot_len (pa_cons (pv 1) pa_nil)) pa_nil))) (fun _ _ => rfl))), ?_⟩
    rcases h with ⟨x, rfl, h0, h1, q⟩ | ⟨B, a, xs, rfl, hb, hx, h0, h1, q⟩
    · refine ⟨_, rfl, _, rfl, _, rfl, .inr ⟨x, rfl, Nat.le_of_lt (small1000 h1), b, n, x.length, rfl, by omega, by omega, hB, by omega, fun r H' r0 r1 s2 b2 => ?_⟩⟩
      obtain ⟨j, rfl⟩ : ∃ j : Nat, r = j := ⟨r.toNat, by omega⟩
      have hj : j < x.cps.toList.length := by rw [sgn_len]; omega
      exact .inr (.inr ⟨x, j, x.cps.toList[j], rfl, rfl, Nat.le_of_lt (small1000 h1), atI_nat (List.getElem?_eq_getElem hj), q _ _ (List.getElem_mem hj) s2 b2⟩)
    · have hx1 : SqL K H a xs ∨ SqT K H a xs := hx.imp (hide_same B H).seq (same_seqT (hide_same B H))
      refine ⟨_, rfl, _, rfl, _, rfl, .inl ⟨a, xs, rfl, hx1, b, n, xs.length, rfl, by omega, by omega, hB, by omega, fun r H' r0 r1 s2 b2 => ?_⟩⟩
      obtain ⟨j, rfl⟩ : ∃ j : Nat, r = j := ⟨r.toNat, by omega⟩
      have hj : j < xs.length := by omega
      have e : xs[j]? = some xs[j] := List.getElem?_eq_getElem hj
      have s3 : Same (hide B H) (hide B H') := s2.hide fun c hc => by rw [List.mem_singleton.mp hc]; exact hb
      have hx2 : SqL K H' a xs ∨ SqT K H' a xs := hx.imp (fun z => (hide_same B H').seq (s3.seq z)) (fun z => same_seqT (hide_same B H') (same_seqT s3 z))
      rcases hx2 with z | z
      · exact .inl ⟨a, xs, j, _, rfl, rfl, z, atI_nat e, q j _ _ e s2 b2⟩
      · exact .inr (.inl ⟨a, xs, j, _, rfl, rfl, z, atI_nat e, q j _ _ e s2 b2⟩)
end
end KV

namespace KV
open PySem PySem.Spec PyProof.Rows L2 RZ
/-- a name: one to eight small letters -/
def wordS (x : Str) : Bool := decide (0 < x.length) && decide (x.length ≤ 8) && x.cps.toList.all fun c => decide (97 ≤ c) && decide (c ≤ 122)
theorem word_few : ((Txt.split (Str.ofString "link late kept yes no slots pipes ring nop put text all turn reap slot good") (Str.ofString " ")).all wordS && decide (0 < (Txt.split (Str.ofString "link late kept yes no slots pipes ring nop put text all turn reap slot good") (Str.ofString " ")).length) &&
    decide ((Txt.split (Str.ofString "link late kept yes no slots pipes ring nop put text all turn reap slot good") (Str.ofString " ")).length ≤ 1000)) = true := by decide +kernel
theorem letters_ok : ((Str.ofString "abcdefghijklmnopqrstuvwxyz").cps.toList.all fun c => decide (97 ≤ c) && decide (c ≤ 122)) = true := by decide +kernel
theorem glue_sing : ∀ cs : List Nat, (Str.join (Str.ofString "") (cs.map fun c => (⟨#[c]⟩ : Str))).cps.toList = cs
  | [] => rfl
  | [c] => rfl
  | c :: d :: r => by
    have ih := glue_sing (d :: r)
    show (#[c] ++ (Str.ofString "").cps ++ (Str.join (Str.ofString "") ((d :: r).map fun c => (⟨#[c]⟩ : Str))).cps : Array Nat).toList = _
    rw [Array.toList_append, Array.toList_append, ih]
    rfl
theorem sing_len (cs : List Nat) : ((cs.map fun c => (⟨#[c]⟩ : Str)).map (·.length)).sum = cs.length := by
  induction cs with
  | nil => rfl
  | cons c r ih =>
    show 1 + ((r.map fun c => (⟨#[c]⟩ : Str)).map (·.length)).sum = r.length + 1
    rw [ih, Nat.add_comm]
theorem glued_word {cs : List Nat} (h0 : 0 < cs.length) (h8 : cs.length ≤ 8) (ha : (cs.all fun c => decide (97 ≤ c) && decide (c ≤ 122)) = true) : wordS (Txt.join (Str.ofString "") (cs.map fun c => (⟨#[c]⟩ : Str))) = true := by
  have e : (Txt.join (Str.ofString "") (cs.map fun c => (⟨#[c]⟩ : Str))).cps.toList = cs := by
    show (Builtin.Str.glued (Str.ofString "") (cs.map fun c => (⟨#[c]⟩ : Str))).cps.toList = cs
    rw [StrLaws.glued_eq_join]
    exact glue_sing cs
  have el : (Txt.join (Str.ofString "") (cs.map fun c => (⟨#[c]⟩ : Str))).length = cs.length := by rw [← sgn_len, e]
  unfold wordS
  rw [e, el, ha, decide_eq_true h0, decide_eq_true h8]
  rfl
section
variable {P : Program} {w : World} {K : PySem.W.Frag} {mg : Str → Option Value} {base : Heap}
/-! ### _law_name -/
def spName (K : PySem.W.Frag) : Sp := fun vs H Q _ => ∃ (b : Addr) (n : Nat), vs = [.ref b] ∧ BoxAt H b n ∧ n + 20 ≤ 2 ^ 40 ∧
  ∀ (x : Str) (H' : Hp), wordS x = true → SameX [b] H H' → BoxAt H' b (n + 12) → Q (.str x) H'
theorem scName : FnScope ["_law_box_here", "_law_some", "_law_k"] ["_law_box_here"] (defScope sName) :=
  ⟨rfl, rfl, rfl, by decide +kernel, rfl, by decide +kernel, by decide +kernel⟩
theorem ok_name {f fT fO : Addr} {fd fdT fdO : FuncData} {k : Nat} (F : Fun K "_law_name" "_law_name" sName f fd) (FT : Fun K "_law_take" "_law_take" sTake fT fdT) (bT : Binds K fdT ["_law_box_here", "_law_below"] []) (mT : mg "_law_take" = some (.ref fT))
    (FO : Fun K "_law_of" "_law_of" sOf fO fdO) (bO : Binds K fdO ["_law_box_here", "_law_some"] []) (mO : mg "_law_of" = some (.ref fO))
    (mn : mg "int" = none) (ml : mg "len" = none) (mr : mg "range" = none) : FnOk P w K mg base CX0 (k + 3) f fd ["_law_box_here"] (spName K) := by
  have GT : FnOk P w K mg base CX0 (k + 2) fT fdT ["_law_box_here", "_law_below"] spTake := ok_take FT mn
  have GO : FnOk P w K mg base CX0 (k + 2) fO fdO ["_law_box_here", "_law_some"] (spOf K) := ok_of FO FT bT mT mn ml
  refine F.ok scName (fun vs H Q E h => ?_) (fun cdv A outer s H vs Q E hr h => ?_)
  · obtain ⟨b, n, rfl, _⟩ := h
    rfl
  · obtain ⟨b, n, rfl, hB, hn, q⟩ := h
    refine ⟨_, pss_cons (ps_if (pt_cmpR op_eq (pe_call GT hr (by rfl) mT FT.kp bT .nil pass0 (pa_cons (pv 0) (pa_cons pe_int pa_nil))) pe_int (nomark _))
        (pss_cons (ps_set (i := 1) scName.nd rfl (.inl rfl) pe_str) (pss_one (ps_ret (pe_call GO hr (by rfl) mO FO.kp bO .nil pass0 (pa_cons (pv 0) (pa_cons (pe_split (pv 1) pe_str) pa_nil)))))) pss_nil)
      (pss_one (ps_ret (pe_join pe_str (pe_lc (own := [("_law_k", 2)]) (g := gName 2) (tt := tYes) rfl scName.nd
        (pi_range1 (by rfl) mr (pa_cons (pe_op op_add pe_int (pe_call GT hr (by rfl) mT FT.kp bT .nil pass0 (pa_cons (pv 0) (pa_cons pe_int pa_nil)))) pa_nil))
        (blkOk_by (N := ["_law_box_here", "_law_some", "_law_k"]) (sc := defScope sName) (by decide +kernel))
        (fun _ _ _ _ _ => pg_name (i := 2) scName.nd rfl (Or.inl rfl)) (fun _ _ _ _ _ => pts_nil) (fun _ _ _ _ _ => pe_call GO hr (by rfl) mO FO.kp bO .nil pass0 (pa_cons (pv 0) (pa_cons pe_str pa_nil))))))), ?_⟩
    refine ⟨_, rfl, b, n, 3, rfl, by decide, by decide, hB, by omega, fun r H1 r0 r1 s1 b1 => ?_⟩
    refine ⟨rfl, _, rfl, ite2 (fun e => ?_) (fun e => ?_)⟩
    · have wf := word_few
      simp only [Bool.and_eq_true, decide_eq_true_eq] at wf
      obtain ⟨⟨w1, w2⟩, w3⟩ := wf
      refine ⟨_, rfl, _, rfl, ⟨_, rfl⟩, ⟨_, _, rfl, rfl, by decide +kernel, by decide +kernel, fun p np => ?_⟩⟩
      have pb : p ≠ b := b1.new np
      refine ⟨b, n + 1, .ref p, rfl, b1.same (same_upd np), by omega, .inr ⟨[b], p, _, rfl, List.mem_singleton.mpr rfl, .inl (SqL.of (by rw [hide_out (fun z => pb (List.mem_singleton.mp z)), upd_same])), by rw [List.length_map]; exact w2, by rw [List.length_map]; exact w3, fun i x H2 hx s2 b2 => ?_⟩⟩
      rw [List.getElem?_map] at hx
      obtain ⟨y, hy, rfl⟩ := Option.map_eq_some_iff.mp hx
      exact q y H2 (List.all_eq_true.mp w1 y (List.mem_of_getElem? hy)) (s1.trans ((SameX.of (same_upd np)).trans s2)) (b2.le (by omega))
    · refine ⟨⟨_, rfl⟩, ?_⟩
      refine ⟨_, rfl, b, n + 1, 8, rfl, by decide, by decide, b1, by omega, fun r2 H2 r20 r21 s2 b2 => ?_⟩
      obtain ⟨j, rfl⟩ : ∃ j : Nat, r2 = j := ⟨r2.toNat, by omega⟩
      refine ⟨_, _, rfl, rfl, _, rfl, by omega, by omega, fun D nD => lc_it (walk_range (lo := 0) (n := ((1 : Int) + j).toNat)) (fun i H3 => SameX [D, b] H2 H3 ∧ BoxAt H3 b (n + 2 + i) ∧ ∃ cs : List Nat, H3 D = some (.lst ((cs.map fun c => (⟨#[c]⟩ : Str)).map V.str)) ∧ cs.length = i ∧ (cs.all fun c => decide (97 ≤ c) && decide (c ≤ 122)) = true)
        ⟨sameX_upd List.mem_cons_self, ?_, [], upd_same, rfl, rfl⟩ (fun _ _ _ _ => trivial) ?_ ?_⟩
      · have pD : b ≠ D := (b2.new nD).symm
        obtain ⟨x, y, c, z, z2⟩ := b2
        exact ⟨x, y, c, by rw [upd_ne pD]; exact z, z2⟩
      · rintro i x H3 H3' hi ⟨s3, b3, cs, hD, hl, ha⟩ ⟨rfl, rfl⟩
        have pD : D ≠ b := b2.new nD
        refine ⟨rfl, tYes_ok ⟨_, rfl, b, _, _, rfl, b3, by omega, .inl ⟨_, rfl, by decide +kernel, by decide +kernel, fun c H4 hc s4 b4 => ?_⟩⟩⟩
        have hD4 : H4 D = some (.lst ((cs.map fun c => (⟨#[c]⟩ : Str)).map V.str)) := s4 D _ (fun z => pD (List.mem_singleton.mp z)) hD
        refine ⟨_, hD4, small1000 (by rw [List.length_map, List.length_map]; omega), s3.trans ((s4.sub fun z hz => List.mem_cons_of_mem _ hz).trans (sameX_upd List.mem_cons_self)), ?_, cs ++ [c], ?_, ?_, ?_⟩
        · obtain ⟨u1, u2, u3, z, z2⟩ := b4
          exact ⟨u1, u2, u3, by rw [upd_ne pD.symm]; exact z, by omega⟩
        · rw [upd_same, List.map_append, List.map_append]
          rfl
        · rw [List.length_append, hl]
          rfl
        · rw [List.all_append, ha, Bool.true_and]
          have hc2 := List.all_eq_true.mp letters_ok c hc
          simpa using hc2
      · rintro H3 ⟨s3, b3, cs, hD, hl, ha⟩
        refine ⟨_, D, _, rfl, rfl, .inl (SqL.of hD), ?_, q _ _ (glued_word (by omega) (by omega) ha) ?_ (b3.le (by omega))⟩
        · rw [sing_len, List.length_map]
          show cs.length + cs.length * 0 ≤ _
          omega
        · refine s1.trans (s2.trans fun c o z e => s3 c o (fun y => ?_) e)
          rcases List.mem_cons.mp y with y | y
          · exact ne_of_none e nD y
          · exact z y
end
end KV

namespace KV
open PySem PySem.Spec PyProof.Rows L2 RZ
/-- a letter, eight times -/
def eight (c : Nat) : Str := ⟨#[c, c, c, c, c, c, c, c]⟩
def rMul8 : R2 := fun x y H Q => ∃ c : Nat, x = .str ⟨#[c]⟩ ∧ y = .int 8 ∧ Q (.str (eight c)) H
theorem op_mul8 {X : Cx} : OpR X (binaryOp .Mult) rMul8 := by
  intro pins s σ H x y v u Q I rx ry h
  obtain ⟨c, rfl, rfl, q⟩ := h
  obtain ⟨t, rfl⟩ := rx
  obtain ⟨t2, rfl⟩ := ry
  refine PySem.P.mul_str (by decide) (fun _ _ => by show ¬ (((1 : Nat) : Int) > (2 ^ 63 - 1) / 8); decide) (fun _ _ => by show Builtin.Str.tooLong (1 * (8 : Int).toNat) = false; decide +kernel) ?_
  rw [if_neg (by decide), if_neg (by show ¬ ((8 : Int) == 1 || (1 : Nat) == 0) = true; decide)]
  have e : (⟨List.foldl (fun x1 x2 => x1 ++ x2) #[] (List.replicate (Int.toNat 8) (⟨#[c]⟩ : Str).cps)⟩ : Str) = eight c := rfl
  rw [e]
  exact ⟨by show 8 ≤ sizeLine; decide, ⟨.str (eight c), H, I.tok _, ⟨_, rfl⟩, q⟩⟩
theorem in_strs (x : Str) (xs : List Str) : inV (.str x) (xs.map V.str) = decide (x ∈ xs) := by
  unfold inV
  rw [List.any_map, Bool.eq_iff_iff, List.any_eq_true, decide_eq_true_eq]
  constructor
  · rintro ⟨y, hy, e⟩
    have e2 : (y == x) = true := e
    rw [← eq_of_beq e2]
    exact hy
  · intro h
    exact ⟨x, h, beq_self_eq_true x⟩
theorem flat_strs (xs : List Str) : (xs.map V.str).all flatV = true := by
  rw [List.all_map, List.all_eq_true]
  intro x _
  rfl
theorem eight_inj {c d : Nat} (h : eight c = eight d) : c = d := by
  have e : [c, c, c, c, c, c, c, c] = [d, d, d, d, d, d, d, d] := congrArg (fun x : Str => x.cps.toList) h
  exact (List.cons.inj e).1
theorem eight_word {c : Nat} (h : (decide (97 ≤ c) && decide (c ≤ 122)) = true) : wordS (eight c) = true := by
  show (decide (0 < 8) && decide (8 ≤ 8) && [c, c, c, c, c, c, c, c].all fun c => decide (97 ≤ c) && decide (c ≤ 122)) = true
  simp only [List.all_cons, h, List.all_nil]
  rfl
def abcs : List Nat := (Str.ofString "abcdefghijklmnopqrstuvwxyz").cps.toList
theorem abcs_nd : abcs.Nodup ∧ abcs.length = 26 := by decide +kernel
theorem fresh_word {xs : List Str} (h : xs.length < 26) : ∃ c ∈ abcs, eight c ∉ xs := by
  refine Classical.byContradiction fun no => ?_
  have all : ∀ c ∈ abcs, eight c ∈ xs := fun c hc => Classical.byContradiction fun z => no ⟨c, hc, z⟩
  have nd : (abcs.map eight).Nodup := by
    rw [List.nodup_iff_pairwise_ne, List.pairwise_map]
    exact (List.nodup_iff_pairwise_ne.mp abcs_nd.1).imp fun h e => h (eight_inj e)
  have le : (abcs.map eight).length ≤ xs.length := by
    have key : ∀ (l m : List Str), l.Nodup → (∀ x ∈ l, x ∈ m) → l.length ≤ m.length := by
      intro l
      induction l with
      | nil => intro m _ _; exact Nat.zero_le _
      | cons x l ih =>
        intro m nd sub
        obtain ⟨n1, n2⟩ := List.nodup_cons.mp nd
        have hx : x ∈ m := sub x List.mem_cons_self
        have q := ih (m.erase x) n2 fun y hy => (List.mem_erase_of_ne (fun z => n1 (by rw [← z]; exact hy))).mpr (sub y (List.mem_cons_of_mem _ hy))
        have e := (List.perm_cons_erase hx).length_eq
        rw [List.length_cons] at e ⊢
        omega
    refine key _ _ nd fun x hx => ?_
    obtain ⟨c, hc, rfl⟩ := List.mem_map.mp hx
    exact all c hc
  rw [List.length_map, abcs_nd.2] at le
  omega
end KV

namespace KV
open PySem PySem.Spec PyProof.Rows L2 RZ
theorem sameX_old {B : List Addr} {H H' : Hp} {D : Addr} (h : SameX (D :: B) H H') (n : H D = none) : SameX B H H' := fun c o z e => h c o (fun y => (List.mem_cons.mp y).elim (ne_of_none e n) z) e
theorem op_notInK {X : Cx} {K : PySem.W.Frag} (h : X.K = K) : OpR X (compareOp .NotIn) (rIn K true) := by
  subst h
  exact op_notIn_seq
section
variable {P : Program} {w : World} {K : PySem.W.Frag} {mg : Str → Option Value} {base : Heap}
/-! ### _law_names -/
def spNames (K : PySem.W.Frag) : Sp := fun vs H Q _ => ∃ (b : Addr) (n m : Nat), vs = [.ref b, .int m] ∧ m ≤ 24 ∧ BoxAt H b n ∧ n + 1000 ≤ 2 ^ 40 ∧
  ∀ (p : Addr) (xs : List Str) (H' : Hp), SameX [b] H H' → H p = none → H' p = some (.lst (xs.map V.str)) → xs.Nodup → (∀ x ∈ xs, wordS x = true) → xs.length = m → BoxAt H' b (n + 24 * m) → Q (.ref p) H'
abbrev nNames : List Str := ["_law_box_here", "_law_many_so", "_law_found", "_law_k", "_law_some", "_law_turn", "_law_letter", "_law_word"]
theorem scNames : FnScope nNames ["_law_box_here", "_law_many_so"] (defScope sNames) :=
  ⟨rfl, rfl, rfl, by decide +kernel, rfl, by decide +kernel, by decide +kernel⟩
theorem ok_names {f fN : Addr} {fd fdN : FuncData} {k : Nat} (F : Fun K "_law_names" "_law_names" sNames f fd) (FN : Fun K "_law_name" "_law_name" sName fN fdN) (bN : Binds K fdN ["_law_box_here"] []) (mN : mg "_law_name" = some (.ref fN))
    (GN : FnOk P w K mg base CX0 (k + 3) fN fdN ["_law_box_here"] (spName K)) (mr : mg "range" = none) : FnOk P w K mg base CX0 (k + 4) f fd ["_law_box_here", "_law_many_so"] (spNames K) := by
  refine F.ok scNames (fun vs H Q E h => ?_) (fun cdv A outer s H vs Q E hr h => ?_)
  · obtain ⟨b, n, m, rfl, _⟩ := h
    rfl
  · obtain ⟨b, n, m, rfl, hm, hB, hn, q⟩ := h
    refine ⟨_, pss_cons (ps_set (i := 2) scNames.nd rfl (.inr rfl) (pe_lst pa_nil))
      (pss_cons (ps_for PassesOwn.never rfl (pi_range1 (by rfl) mr (pa_cons (pv 1) pa_nil)) (pg_name (i := 3) scNames.nd rfl (.inl rfl))
        (pss_cons (ps_set (i := 4) scNames.nd rfl (.inl rfl) (pe_op op_cat
            (pe_lc (own := [("_law_turn", 5)]) (g := gName 5) (tt := tYes) rfl scNames.nd (pi_range1 (by rfl) mr (pa_cons pe_int pa_nil)) (blkOk_by (N := nNames) (sc := defScope sNames) (by decide +kernel))
              (fun _ _ _ _ _ => pg_name (i := 5) scNames.nd rfl (Or.inl rfl)) (fun _ _ _ _ _ => pts_nil) (fun _ _ _ _ _ => pe_call GN hr (by rfl) mN FN.kp bN .nil pass0 (pa_cons (pv 0) pa_nil)))
            (pe_lc (own := [("_law_letter", 6)]) (g := gName 6) (tt := tYes) rfl scNames.nd (pi_str pe_str) (blkOk_by (N := nNames) (sc := defScope sNames) (by decide +kernel))
              (fun _ _ _ _ _ => pg_name (i := 6) scNames.nd rfl (Or.inl rfl)) (fun _ _ _ _ _ => pts_nil) (fun _ _ _ _ _ => pe_op op_mul8 (pv 6) pe_int))))
        (pss_one (ps_expr (pe_bm PySem.F.plainAttrs_list PySem.F.slot_list_append PySem.F.type_list_append mt_append (pv 2) (pa_cons (pe_ix ix_seq
            (pe_lc (own := [("_law_word", 7)]) (g := gName 7) rfl scNames.nd (pi_list (pv 4)) (blkOk_by (N := nNames) (sc := defScope sNames) (by decide +kernel))
              (fun _ _ _ _ _ => pg_name (i := 7) scNames.nd rfl (Or.inl rfl)) (fun _ _ _ _ _ => pts_one (pt_cmpR (op_notInK (K := K) rfl) (pv 7) (pv 2) (by rfl))) (fun _ _ _ _ _ => pv 7)) pe_int (fun _ _ => rfl)) pa_nil))))))
      (pss_one (ps_ret (pv 2)))), ?_⟩
    refine ⟨by decide, fun p np => ?_⟩
    refine ⟨_, rfl, m, rfl, by omega, by omega, for_range (lo := 0) (n := (m : Int).toNat) (fun i σ H' => ∃ x3 x4 xs, σ = [some (.ref b), some (.int m), some (.ref p), x3, x4, none, none, none] ∧ SameX [p, b] H H' ∧ BoxAt H' b (n + 24 * i) ∧ H' p = some (.lst (xs.map V.str)) ∧ xs.Nodup ∧ (∀ x ∈ xs, wordS x = true) ∧ xs.length = i)
      ⟨none, none, [], rfl, sameX_upd List.mem_cons_self, ?_, upd_same, List.nodup_nil, fun x hx => absurd hx List.not_mem_nil, rfl⟩ ?_ ?_⟩
    · have pb : b ≠ p := (hB.new np).symm
      obtain ⟨x, y, c, z, z2⟩ := hB
      exact ⟨x, y, c, by rw [upd_ne pb]; exact z, z2⟩
    · rintro i σ H1 hi ⟨x3, x4, xs, rfl, s1, b1, hp, nd, wf, hl⟩
      have pb : p ≠ b := hB.new np
      -- two names
      refine ⟨2, rfl, by decide, by decide, fun D nD => lc_it (walk_range (lo := 0) (n := 2)) (fun j H3 => SameX [D, b] H1 H3 ∧ BoxAt H3 b (n + 24 * i + 12 * j) ∧ ∃ ys : List Str, H3 D = some (.lst (ys.map V.str)) ∧ ys.length = j ∧ ∀ y ∈ ys, wordS y = true)
        ⟨sameX_upd List.mem_cons_self, ?_, [], upd_same, rfl, fun y hy => absurd hy List.not_mem_nil⟩ (fun _ _ _ _ => trivial) ?_ ?_⟩
      · have bD : b ≠ D := (b1.new nD).symm
        obtain ⟨x, y, c, z, z2⟩ := b1
        exact ⟨x, y, c, by rw [upd_ne bD]; exact z, z2⟩
      · rintro j x H3 H3' hj ⟨s3, b3, ys, hD, ly, wy⟩ ⟨rfl, rfl⟩
        have Db : D ≠ b := b1.new nD
        refine ⟨rfl, tYes_ok ⟨_, rfl, b, _, rfl, b3, by omega, fun y H4 hw s4 b4 => ?_⟩⟩
        have hD4 : H4 D = some (.lst (ys.map V.str)) := s4 D _ (fun z => Db (List.mem_singleton.mp z)) hD
        refine ⟨_, hD4, small1000 (by rw [List.length_map]; omega), s3.trans ((s4.sub fun z hz => List.mem_cons_of_mem _ hz).trans (sameX_upd List.mem_cons_self)), ?_, ys ++ [y], ?_, ?_, ?_⟩
        · obtain ⟨u1, u2, u3, z, z2⟩ := b4
          exact ⟨u1, u2, u3, by rw [upd_ne Db.symm]; exact z, by omega⟩
        · rw [upd_same, List.map_append]
          rfl
        · rw [List.length_append, ly]
          rfl
        · intro z hz
          rcases List.mem_append.mp hz with hz | hz
          · exact wy z hz
          · rw [List.mem_singleton.mp hz]
            exact hw
      rintro H2 ⟨s2, b2, ys, hD, ly, wy⟩
      have Db : D ≠ b := b1.new nD
      have pD : p ≠ D := fun e => by rw [e, nD] at hp; cases hp
      have hp2 : H2 p = some (.lst (xs.map V.str)) := s2 p _ (fun z => (List.mem_cons.mp z).elim pD fun z => pb (List.mem_singleton.mp z)) hp
      -- letters, eight times
      refine ⟨_, rfl, fun D2 nD2 => lc_it (walk_str (z := Str.ofString "abcdefghijklmnopqrstuvwxyz")) (fun j H3 => SameX [D2] H2 H3 ∧ H3 D2 = some (.lst (((abcs.take j).map eight).map V.str))) ⟨sameX_upd List.mem_cons_self, upd_same⟩ (fun _ _ _ _ => trivial) ?_ ?_⟩
      · rintro j x H3 H3' hj ⟨s3, hD2⟩ ⟨rfl, c, hc, rfl⟩
        have hc2 : abcs[j]? = some c := by
          rw [← hc]
          exact Array.getElem?_toList
        refine ⟨rfl, tYes_ok ⟨_, rfl, c, rfl, rfl, _, hD2, small1000 ?_, s3.trans (sameX_upd List.mem_cons_self), ?_⟩⟩
        · rw [List.length_map, List.length_map, List.length_take]
          have := abcs_nd.2
          omega
        · rw [upd_same, take_snoc hc2, List.map_append, List.map_append]
          rfl
      rintro H3 ⟨s3, hD2⟩
      have e26 : abcs.take (Str.ofString "abcdefghijklmnopqrstuvwxyz").cps.size = abcs := List.take_of_length_le (by rw [Array.length_toList.symm.trans rfl]; exact Nat.le_refl _)
      rw [e26] at hD2
      have DD2 : D ≠ D2 := fun e => by rw [e, nD2] at hD; cases hD
      have pD2 : p ≠ D2 := fun e => by rw [e, nD2] at hp2; cases hp2
      have hD3 : H3 D = some (.lst (ys.map V.str)) := s3 D _ (fun z => DD2 (List.mem_singleton.mp z)) hD
      have hp3 : H3 p = some (.lst (xs.map V.str)) := s3 p _ (fun z => pD2 (List.mem_singleton.mp z)) hp2
      refine ⟨D, D2, _, _, rfl, rfl, hD3, hD2, ?_, fun r nr => ?_⟩
      · rw [List.length_map, List.length_map, List.length_map, abcs_nd.2, ly]
        decide
      have pr : p ≠ r := fun e => by rw [e, nr] at hp3; cases hp3
      have br : BoxAt H3 b (n + 24 * i + 24) := by
        obtain ⟨u1, u2, u3, z, z2⟩ := b2
        exact ⟨u1, u2, u3, s3 b _ (fun y => by rw [List.mem_singleton.mp y, nD2] at z; cases z) z, z2⟩
      have ews : ys.map V.str ++ (abcs.map eight).map V.str = (ys ++ abcs.map eight).map V.str := by rw [List.map_append]
      rw [ews]
      have hr4 : (upd H3 r (.lst ((ys ++ abcs.map eight).map V.str))) r = some (.lst ((ys ++ abcs.map eight).map V.str)) := upd_same
      have hp4 : (upd H3 r (.lst ((ys ++ abcs.map eight).map V.str))) p = some (.lst (xs.map V.str)) := by rw [upd_ne pr]; exact hp3
      have s4 : Same H3 (upd H3 r (.lst ((ys ++ abcs.map eight).map V.str))) := same_upd nr
      have b4 := br.same s4
      have wall : ∀ x ∈ ys ++ abcs.map eight, wordS x = true := fun x hx => by
        rcases List.mem_append.mp hx with hx | hx
        · exact wy x hx
        · obtain ⟨c, hc, rfl⟩ := List.mem_map.mp hx
          exact eight_word (List.all_eq_true.mp letters_ok c hc)
      have wlen : (ys ++ abcs.map eight).length = 28 := by rw [List.length_append, List.length_map, abcs_nd.2, ly]
      obtain ⟨c0, hc0, hn0⟩ := fresh_word (xs := xs) (by omega)
      have hin : eight c0 ∈ ys ++ abcs.map eight := List.mem_append_right _ (List.mem_map.mpr ⟨c0, hc0, rfl⟩)
      generalize upd H3 r (.lst ((ys ++ abcs.map eight).map V.str)) = H4 at hr4 hp4 s4 b4
      generalize ys ++ abcs.map eight = ws at hr4 wall wlen hin
      refine ⟨_, rfl, .inl ⟨rfl, _, .inl (.inl hp4)⟩, _, rfl, r, rfl, ⟨_, SqL.of hr4⟩, fun D3 nD3 => lc_it (walk_list (xs := ws.map V.str)) (fun j H5 => SameX [D3] H4 H5 ∧ H5 D3 = some (.lst (((ws.take j).filter fun x => !decide (x ∈ xs)).map V.str)))
        ⟨sameX_upd List.mem_cons_self, upd_same⟩ (fun j H5 _ z => ?_) ?_ ?_⟩
      · exact SqL.of (z.1 r _ (fun y => by rw [List.mem_singleton.mp y, nD3] at hr4; cases hr4) hr4)
      · rintro j x H5 H5' hj ⟨s5, hD5⟩ ⟨rfl, hx⟩
        rw [List.getElem?_map] at hx
        obtain ⟨y, hy, rfl⟩ := Option.map_eq_some_iff.mp hx
        have hp5 : H5' p = some (.lst (xs.map V.str)) := s5 p _ (fun y => by rw [List.mem_singleton.mp y, nD3] at hp4; cases hp4) hp4
        refine ⟨rfl, _, rfl, _, rfl, p, _, rfl, .inl (SqL.of hp5), rfl, flat_strs xs, _, rfl, ?_⟩
        rw [in_strs]
        have ef : (ws.take (j + 1)).filter (fun x => !decide (x ∈ xs)) = (ws.take j).filter (fun x => !decide (x ∈ xs)) ++ (if (!decide (y ∈ xs)) = true then [y] else []) := by
          rw [take_snoc hy, List.filter_append, List.filter_cons, List.filter_nil]
        cases hk : (!decide (y ∈ xs)) with
        | true =>
          rw [hk] at ef
          refine iteT ⟨_, rfl, _, hD5, small1000 ?_, s5.trans (sameX_upd List.mem_cons_self), ?_⟩
          · rw [List.length_map]
            have h1 := List.length_filter_le (fun x => !decide (x ∈ xs)) (ws.take j)
            rw [List.length_take] at h1
            omega
          · rw [upd_same, ef, List.map_append]
            rfl
        | false =>
          rw [hk] at ef
          refine iteF ⟨s5, ?_⟩
          rw [hD5, ef]
          exact congrArg _ (congrArg _ (by simp))
      · rintro H5 ⟨s5, hD5⟩
        rw [List.length_map, List.take_length] at hD5
        have hne : eight c0 ∈ ws.filter (fun x => !decide (x ∈ xs)) := List.mem_filter.mpr ⟨hin, by rw [decide_eq_false hn0]; rfl⟩
        obtain ⟨w0, rest, hw⟩ : ∃ w0 rest, ws.filter (fun x => !decide (x ∈ xs)) = w0 :: rest := by
          cases hq : ws.filter (fun x => !decide (x ∈ xs)) with
          | nil => rw [hq] at hne; exact absurd hne List.not_mem_nil
          | cons w0 rest => exact ⟨w0, rest, rfl⟩
        have hw0 : w0 ∈ ws ∧ w0 ∉ xs := by
          have z : w0 ∈ ws.filter (fun x => !decide (x ∈ xs)) := by rw [hw]; exact List.mem_cons_self
          have z2 := List.mem_filter.mp z
          exact ⟨z2.1, fun y => by rw [decide_eq_true y] at z2; exact nomatch z2.2⟩
        rw [hw] at hD5
        have p3 : p ≠ D3 := fun e => by rw [e, nD3] at hp4; cases hp4
        have hp5 : H5 p = some (.lst (xs.map V.str)) := s5 p _ (fun y => p3 (List.mem_singleton.mp y)) hp4
        have b5 : BoxAt H5 b (n + 24 * i + 24) := by
          obtain ⟨u1, u2, u3, z, z2⟩ := b4
          exact ⟨u1, u2, u3, s5 b _ (fun y => by rw [List.mem_singleton.mp y, nD3] at z; cases z) z, z2⟩
        refine .inl ⟨D3, _, 0, .str w0, rfl, rfl, SqL.of hD5, atI_nat (j := 0) rfl, p, _, _, rfl, rfl, hp5, small1000 (by rw [List.length_map]; omega), _, _, xs ++ [w0], rfl, ?_, ?_, ?_, ?_, ?_, ?_⟩
        · refine s1.trans (SameX.trans (fun c o z e => ?_) (sameX_upd List.mem_cons_self))
          have cD : c ≠ D := ne_of_none e nD
          have e2 := s2 c o (fun y => (List.mem_cons.mp y).elim cD fun y => z (List.mem_cons_of_mem _ y)) e
          have e3 := s3 c o (fun y => ne_of_none e2 nD2 (List.mem_singleton.mp y)) e2
          have e4 := s4 c o e3
          exact s5 c o (fun y => ne_of_none e4 nD3 (List.mem_singleton.mp y)) e4
        · obtain ⟨u1, u2, u3, z, z2⟩ := b5
          exact ⟨u1, u2, u3, by rw [upd_ne pb.symm]; exact z, by omega⟩
        · rw [upd_same, List.map_append]
          rfl
        · refine List.nodup_append.mpr ⟨nd, List.nodup_cons.mpr ⟨List.not_mem_nil, List.nodup_nil⟩, fun x hx y hy e => ?_⟩
          rw [List.mem_singleton.mp hy] at e
          exact hw0.2 (by rw [← e]; exact hx)
        · intro x hx
          rcases List.mem_append.mp hx with hx | hx
          · exact wf x hx
          · rw [List.mem_singleton.mp hx]
            exact wall _ hw0.1
        · rw [List.length_append, hl]
          rfl
    · rintro σ H1 ⟨x3, x4, xs, rfl, s1, b1, hp, nd, wf, hl⟩
      exact ⟨_, rfl, q p xs H1 (sameX_old s1 np) np hp nd wf (by omega) (b1.le (by omega))⟩
end
end KV

namespace KV
open PySem PySem.Spec PyProof.Rows L2 RZ
theorem dp_new {K : PySem.W.Frag} {B : List Addr} {H : Hp} {p : Addr} {xs : List V} {ds : List PyData} (lv : Live B H) (n : H p = none) (h : DpAll K (hide B H) xs ds) : Dp K (hide B (upd H p (.tup xs))) (.ref p) (.tuple ds) :=
  .tup (SqT.of (hide_new lv n)) (dps_same (hide_grow lv n) h)
theorem dps_strs {K : PySem.W.Frag} {H : Hp} : ∀ xs : List Str, DpAll K H (xs.map V.str) (xs.map PyData.str)
  | [] => .nil
  | x :: xs => .cons (.str x) (dps_strs xs)
/-- a drawn SETUP -/
def SetupD (l : Nat) (d : PyData) : Prop := ∃ (sp rm : Int) (ps : List Str) (ss : List PyData), d = .tuple [.int sp, .int rm, .tuple (ps.map PyData.str), .tuple ss] ∧ 1 ≤ sp ∧ sp ≤ 6 ∧ 1 ≤ rm ∧ rm ≤ 8 ∧ (∀ p ∈ ps, wordS p = true) ∧ ascS ps = true ∧
  l ≤ ps.length ∧ ps.length ≤ 4 ∧ ss.length ≤ 5 ∧ ∀ e ∈ ss, e = .none ∨ ∃ p ∈ ps, e = .str p
theorem op_catK {X : Cx} {K : PySem.W.Frag} (h : X.K = K) : OpR X (binaryOp .Add) (rCatA K) := by
  subst h
  exact op_catA
def oV : Option Str → V
  | none => .non
  | some x => .str x
def oD : Option Str → PyData
  | none => .none
  | some x => .str x
theorem dps_opts {K : PySem.W.Frag} {H : Hp} : ∀ es : List (Option Str), DpAll K H (es.map oV) (es.map oD)
  | [] => .nil
  | none :: xs => .cons .non (dps_opts xs)
  | some x :: xs => .cons (.str x) (dps_opts xs)
theorem opt_at {ys : List Str} {i : Nat} {x : V} (h : (ys.map V.str ++ [V.non])[i]? = some x) : ∃ e : Option Str, x = oV e ∧ (e = none ∨ ∃ p ∈ ys, e = some p) := by
  have m := List.mem_of_getElem? h
  rcases List.mem_append.mp m with m | m
  · obtain ⟨y, hy, rfl⟩ := List.mem_map.mp m
    exact ⟨some y, rfl, .inr ⟨y, hy, rfl⟩⟩
  · exact ⟨none, List.mem_singleton.mp m, .inl rfl⟩
section
variable {P : Program} {w : World} {K : PySem.W.Frag} {mg : Str → Option Value} {base : Heap}
theorem BoxAt.up {H H' : Hp} {b : Addr} {n : Nat} (h : BoxAt H b n) {B : List Addr} (s : SameX B H H') (nb : b ∉ B) : BoxAt H' b n := by
  obtain ⟨x, y, c, z, z2⟩ := h
  exact ⟨x, y, c, s b _ nb z, z2⟩
theorem BoxAt.live {H : Hp} {b : Addr} {n : Nat} (h : BoxAt H b n) : H b ≠ none := by
  obtain ⟨x, y, c, z, z2⟩ := h
  rw [z]
  exact fun e => nomatch e
/-! ### _law_named_setup -/
def spNamed (K : PySem.W.Frag) : Sp := fun vs H Q _ => ∃ (B : List Addr) (b : Addr) (n l : Nat), vs = [.ref b, .int l] ∧ l ≤ 4 ∧ b ∈ B ∧ Live B H ∧ BoxAt H b n ∧ n + 2000 ≤ 2 ^ 40 ∧
  ∀ (v : V) (d : PyData) (H' : Hp), SetupD l d → SameX [b] H H' → BoxAt H' b (n + 400) → Dp K (hide B H') v d → Q v H'
abbrev nNamed : List Str := ["_law_box_here", "_law_least_so", "_law_pipes_so", "_law_slots_so", "_law_turn"]
theorem scNamed : FnScope nNamed ["_law_box_here", "_law_least_so"] (defScope sNamed) :=
  ⟨rfl, rfl, rfl, by decide +kernel, rfl, by decide +kernel, by decide +kernel⟩
theorem ok_named {f fT fO fN : Addr} {fd fdT fdO fdN : FuncData} {k : Nat} (F : Fun K "_law_named_setup" "_law_named_setup" sNamed f fd)
    (FT : Fun K "_law_take" "_law_take" sTake fT fdT) (bT : Binds K fdT ["_law_box_here", "_law_below"] []) (mT : mg "_law_take" = some (.ref fT)) (GT : FnOk P w K mg base CX0 (k + 4) fT fdT ["_law_box_here", "_law_below"] spTake)
    (FO : Fun K "_law_of" "_law_of" sOf fO fdO) (bO : Binds K fdO ["_law_box_here", "_law_some"] []) (mO : mg "_law_of" = some (.ref fO)) (GO : FnOk P w K mg base CX0 (k + 4) fO fdO ["_law_box_here", "_law_some"] (spOf K))
    (FN : Fun K "_law_names" "_law_names" sNames fN fdN) (bN : Binds K fdN ["_law_box_here", "_law_many_so"] []) (mN : mg "_law_names" = some (.ref fN)) (GN : FnOk P w K mg base CX0 (k + 4) fN fdN ["_law_box_here", "_law_many_so"] (spNames K))
    (mr : mg "range" = none) (mt : mg "tuple" = none) (ms : mg "sorted" = none) : FnOk P w K mg base CX0 (k + 5) f fd ["_law_box_here", "_law_least_so"] (spNamed K) := by
  refine F.ok scNamed (fun vs H Q E h => ?_) (fun cdv A outer s H vs Q E hr h => ?_)
  · obtain ⟨B, b, n, l, rfl, _⟩ := h
    rfl
  · obtain ⟨B, b, n, l, rfl, hl, hb, lv, hB, hn, q⟩ := h
    refine ⟨_, pss_cons (ps_set (i := 2) scNamed.nd rfl (.inr rfl) (pe_callTy call_tuple_of (by rfl) mt PyProof.Rows.boot_tuple (pa_cons (pe_callB cr_sortedS (by rfl) ms boot_sorted (pa_cons
          (pe_call GN hr (by rfl) mN FN.kp bN .nil pass0 (pa_cons (pv 0) (pa_cons (pe_op op_add (pv 1) (pe_call GT hr (by rfl) mT FT.kp bT .nil pass0 (pa_cons (pv 0) (pa_cons (pe_op op_sub pe_int (pv 1)) pa_nil)))) pa_nil))) pa_nil)) pa_nil)))
      (pss_cons (ps_setLc (i := 3) (own := [("_law_turn", 4)]) (g := gName 4) (tt := tYes) rfl scNamed.nd rfl rfl (sw_true rfl rfl rfl (by decide +kernel))
          (pi_range1 (by rfl) mr (pa_cons (pe_call GT hr (by rfl) mT FT.kp bT .nil pass0 (pa_cons (pv 0) (pa_cons pe_int pa_nil))) pa_nil)) (blkOk_by (N := nNamed) (sc := defScope sNamed) (by decide +kernel))
          (fun _ _ _ _ _ => pg_name (i := 4) scNamed.nd rfl (Or.inl rfl)) (fun _ _ _ _ _ => pts_nil) (fun _ _ _ _ _ => pe_call GO hr (by rfl) mO FO.kp bO .nil pass0 (pa_cons (pv 0) (pa_cons (pe_op (op_catK (K := K) rfl) (pv 2) (pe_tup (pa_cons pe_non pa_nil))) pa_nil))))
      (pss_one (ps_ret (pe_tup (pa_cons (pe_op op_add pe_int (pe_call GT hr (by rfl) mT FT.kp bT .nil pass0 (pa_cons (pv 0) (pa_cons pe_int pa_nil)))) (pa_cons (pe_op op_add pe_int (pe_call GT hr (by rfl) mT FT.kp bT .nil pass0 (pa_cons (pv 0) (pa_cons pe_int pa_nil))))
        (pa_cons (pv 2) (pa_cons (pe_callTy call_tuple_of (by rfl) mt PyProof.Rows.boot_tuple (pa_cons (pv 3) pa_nil)) pa_nil)))))))), ?_⟩
    refine ⟨_, rfl, _, rfl, _, rfl, _, rfl, _, _, rfl, rfl, b, n, 5 - l, rfl, by omega, by omega, hB, by omega, fun r H1 r0 r1 s1 b1 => ?_⟩
    obtain ⟨j, rfl⟩ : ∃ j : Nat, r = j := ⟨r.toNat, by omega⟩
    refine ⟨_, _, rfl, rfl, b, n + 1, l + j, congrArg (fun z => [V.ref b, V.int z]) (Int.natCast_add l j).symm, by omega, b1, by omega, fun p xs H2 s2 np hp nd wf hlen b2 => ?_⟩
    refine ⟨p, xs, rfl, SqL.of hp, by omega, fun ys p2 pm hs np2 => ⟨p2, _, rfl, .inl ⟨SqL.of upd_same, fun p3 np3 => ?_⟩⟩⟩
    have lys : ys.length = l + j := by rw [pm.length_eq, hlen]
    have asc : ascS ys = true := pw_ascS _ (strict_of (sorted_pw hs) (pm.nodup_iff.mpr nd))
    have wys : ∀ y ∈ ys, wordS y = true := fun y hy => wf y (pm.mem_iff.mp hy)
    have s3 : SameX [b] H (upd (upd H2 p2 (.lst (ys.map V.str))) p3 (.tup (ys.map V.str))) := s1.trans (s2.trans (SameX.of ((same_upd np2).trans (same_upd np3))))
    have b3 := b2.same ((same_upd (o := .lst (ys.map V.str)) np2).trans (same_upd (o := .tup (ys.map V.str)) np3))
    have hp3 : (upd (upd H2 p2 (.lst (ys.map V.str))) p3 (.tup (ys.map V.str))) p3 = some (.tup (ys.map V.str)) := upd_same
    have lv2 : Live B H2 := (s1.trans s2).live lv fun c hc => by rw [List.mem_singleton.mp hc]; exact b2.live
    have p3B : p3 ∉ B := (lv2.upd (p := p2)).new np3
    generalize upd (upd H2 p2 (.lst (ys.map V.str))) p3 (.tup (ys.map V.str)) = H3 at s3 b3 hp3
    refine ⟨_, rfl, b, _, 6, rfl, by decide, by decide, b3, by omega, fun r2 H4 r20 r21 s4 b4 => ?_⟩
    have p3b : p3 ≠ b := fun e => by
      obtain ⟨_, _, _, z, _⟩ := b3
      rw [e, z] at hp3
      cases hp3
    have hp4 : H4 p3 = some (.tup (ys.map V.str)) := s4 p3 _ (fun z => p3b (List.mem_singleton.mp z)) hp3
    refine ⟨r2, rfl, by omega, by omega, fun D nD => lc_it (walk_range (lo := 0) (n := r2.toNat)) (fun i H5 => SameX [D, b] H4 H5 ∧ BoxAt H5 b (n + 200 + i) ∧ ∃ es : List (Option Str), H5 D = some (.lst (es.map oV)) ∧ es.length = i ∧ ∀ e ∈ es, e = none ∨ ∃ p ∈ ys, e = some p)
      ⟨sameX_upd List.mem_cons_self, ?_, [], upd_same, rfl, fun y hy => absurd hy List.not_mem_nil⟩ (fun _ _ _ _ => trivial) ?_ ?_⟩
    · have bD : b ≠ D := (b4.new nD).symm
      obtain ⟨x, y, c, z, z2⟩ := b4
      exact ⟨x, y, c, by rw [upd_ne bD]; exact z, by omega⟩
    · rintro i x H5 H5' hi ⟨s5, b5, es, hD, le, we⟩ ⟨rfl, rfl⟩
      have Db : D ≠ b := b4.new nD
      have pD : p3 ≠ D := fun e => by rw [e, nD] at hp4; cases hp4
      have hp5 : H5' p3 = some (.tup (ys.map V.str)) := s5 p3 _ (fun z => (List.mem_cons.mp z).elim pD fun z => p3b (List.mem_singleton.mp z)) hp4
      refine ⟨rfl, tYes_ok ⟨_, rfl, _, rfl, by show 1 ≤ sizeLine; decide, fun t nt => ?_⟩⟩
      have hp6 : (upd H5' t (.tup [V.non])) p3 = some (.tup (ys.map V.str)) := same_upd nt _ _ hp5
      have ht6 : (upd H5' t (.tup [V.non])) t = some (.tup [V.non]) := upd_same
      have s6 : Same H5' (upd H5' t (.tup [V.non])) := same_upd nt
      generalize upd H5' t (.tup [V.non]) = H6 at hp6 ht6 s6
      have b6 := b5.same s6
      have fin : ∀ (u : Addr) (H7 : Hp), Same H6 H7 → H7 u = some (.tup (ys.map V.str ++ [V.non])) → spOf K [.ref b, .ref u] H7 (fun y H4_1 => ∃ acc, H4_1 D = some (.lst acc) ∧ acc.length < sizeLine ∧ SameX [D, b] H4 (upd H4_1 D (.lst (acc ++ [y]))) ∧
          BoxAt (upd H4_1 D (.lst (acc ++ [y]))) b (n + 200 + (i + 1)) ∧ ∃ es : List (Option Str), (upd H4_1 D (.lst (acc ++ [y]))) D = some (.lst (es.map oV)) ∧ es.length = i + 1 ∧ ∀ e ∈ es, e = none ∨ ∃ p ∈ ys, e = some p) E0 := by
        intro u H7 s7 hu
        have b7 := b6.same s7
        have ub : u ≠ b := fun e => by
          obtain ⟨_, _, _, z, _⟩ := b7
          rw [e, z] at hu
          cases hu
        refine ⟨b, _, .ref u, rfl, b7, by omega, .inr ⟨[b], u, _, rfl, List.mem_singleton.mpr rfl, .inr (SqT.of (by rw [hide_out (fun z => ub (List.mem_singleton.mp z))]; exact hu)), by rw [List.length_append]; exact Nat.succ_pos _, ?_, fun k x H8 hx s8 b8 => ?_⟩⟩
        · rw [List.length_append, List.length_map, lys]
          show l + j + 1 ≤ 1000
          omega
        · obtain ⟨e, rfl, he⟩ := opt_at hx
          have hD8 : H8 D = some (.lst (es.map oV)) := s8 D _ (fun z => Db (List.mem_singleton.mp z)) (s7 _ _ (s6 _ _ hD))
          refine ⟨_, hD8, small1000 (by rw [List.length_map]; omega), ?_, ?_, es ++ [e], ?_, ?_, ?_⟩
          · exact s5.trans ((SameX.of (s6.trans s7)).trans ((s8.sub fun z hz => List.mem_cons_of_mem _ hz).trans (sameX_upd List.mem_cons_self)))
          · obtain ⟨u1, u2, u3, z, z2⟩ := b8
            exact ⟨u1, u2, u3, by rw [upd_ne Db.symm]; exact z, by omega⟩
          · rw [upd_same, List.map_append]
            rfl
          · rw [List.length_append, le]
            rfl
          · intro y hy
            rcases List.mem_append.mp hy with hy | hy
            · exact we y hy
            · rw [List.mem_singleton.mp hy]
              exact he
      refine ⟨p3, t, _, _, rfl, rfl, SqT.of hp6, SqT.of ht6, ?_, fun e0 => ?_, fun _ e0 => (nomatch e0), fun _ _ u nu => ?_⟩
      · rw [List.length_map, lys]
        show l + j + 1 ≤ sizeLine
        rw [sizeLine_eq]
        omega
      · exact fin t H6 (fun _ _ z => z) (by rw [e0]; exact ht6)
      · exact fin u _ (same_upd nu) upd_same
    · rintro H5 ⟨s5, b5, es, hD, le, we⟩
      have Db : D ≠ b := b4.new nD
      have pD : p3 ≠ D := fun e => by rw [e, nD] at hp4; cases hp4
      have hp5 : H5 p3 = some (.tup (ys.map V.str)) := s5 p3 _ (fun z => (List.mem_cons.mp z).elim pD fun z => p3b (List.mem_singleton.mp z)) hp4
      refine ⟨_, rfl, b, _, 6, rfl, by decide, by decide, b5, by omega, fun r5 H6 r50 r51 s6 b6 => ⟨_, _, rfl, rfl, _, rfl, b, _, 8, rfl, by decide, by decide, b6, by omega, fun r6 H7 r60 r61 s7 b7 => ⟨_, _, rfl, rfl, _, rfl, _, rfl, D, es.map oV, rfl, .inl ⟨SqL.of ?_, fun p5 np5 => ⟨by show 4 ≤ sizeLine; decide, fun p6 np6 => ?_⟩⟩⟩⟩⟩
      · exact s7 D _ (fun z => Db (List.mem_singleton.mp z)) (s6 D _ (fun z => Db (List.mem_singleton.mp z)) hD)
      · have S7 : SameX [b] H H7 := s3.trans (s4.trans ((sameX_old s5 nD).trans (s6.trans s7)))
        have lv7 : Live B H7 := S7.live lv fun c hc => by rw [List.mem_singleton.mp hc]; exact b7.live
        have hp7 : H7 p3 = some (.tup (ys.map V.str)) := s7 p3 _ (fun z => p3b (List.mem_singleton.mp z)) (s6 p3 _ (fun z => p3b (List.mem_singleton.mp z)) hp5)
        have d3 : Dp K (hide B H7) (.ref p3) (.tuple (ys.map PyData.str)) := .tup (SqT.of (by rw [hide_out p3B]; exact hp7)) (dps_strs ys)
        have d5 := dp_new (K := K) lv7 np5 (dps_opts es)
        have d6 := dp_new (K := K) (lv7.upd (p := p5) (o := .tup (es.map oV))) np6 (.cons (.int (1 + r5)) (.cons (.int (1 + r6)) (.cons (dp_same (hide_grow lv7 np5) d3) (.cons d5 .nil))))
        refine q _ _ _ ⟨1 + r5, 1 + r6, ys, es.map oD, rfl, by omega, by omega, by omega, by omega, wys, asc, by omega, by omega, by rw [List.length_map]; omega, fun e he => ?_⟩ (S7.trans (SameX.of ((same_upd np5).trans (same_upd np6)))) ((b7.same ((same_upd np5).trans (same_upd np6))).le (by omega)) d6
        obtain ⟨o, ho, rfl⟩ := List.mem_map.mp he
        rcases we o ho with rfl | ⟨y, hy, rfl⟩
        · exact .inl rfl
        · exact .inr ⟨y, hy, rfl⟩
end
end KV

namespace KV
open PySem PySem.Spec PyProof.Rows L2 RZ
/-! ### data of small leaves, short sequences, little depth -/
mutual
def gD (lf : PyData → Bool) (L : Nat) : PyData → Nat → Bool
  | .list xs, n => decide (0 < n) && decide (xs.length ≤ L) && gDs lf L xs (n - 1)
  | .tuple xs, n => decide (0 < n) && decide (xs.length ≤ L) && gDs lf L xs (n - 1)
  | .none, _ => true
  | .bool _, _ => true
  | .int i, _ => lf (.int i)
  | .str x, _ => lf (.str x)
  | .dict _, _ => false
def gDs (lf : PyData → Bool) (L : Nat) : List PyData → Nat → Bool
  | [], _ => true
  | d :: ds, n => gD lf L d n && gDs lf L ds n
end
theorem gDs_all (lf : PyData → Bool) (L : Nat) : ∀ ds n, gDs lf L ds n = ds.all fun d => gD lf L d n
  | [], _ => by simp [gDs]
  | d :: ds, n => by simp [gDs, gDs_all lf L ds n]
theorem gD_seq {lf : PyData → Bool} {L : Nat} {xs : List PyData} {n : Nat} {d : PyData} (hd : d = .list xs ∨ d = .tuple xs) (h : gD lf L d n = true) : ∃ m, n = m + 1 ∧ xs.length ≤ L ∧ gDs lf L xs m = true := by
  have h' : (decide (0 < n) && decide (xs.length ≤ L) && gDs lf L xs (n - 1)) = true := by
    rcases hd with rfl | rfl <;> simpa only [gD] using h
  simp only [Bool.and_eq_true, decide_eq_true_eq] at h'
  obtain ⟨⟨h1, h2⟩, h3⟩ := h'
  exact ⟨n - 1, by omega, h2, h3⟩
theorem gD_mk {lf : PyData → Bool} {L : Nat} {xs : List PyData} {m : Nat} (h1 : xs.length ≤ L) (h2 : gDs lf L xs m = true) : gD lf L (.list xs) (m + 1) = true ∧ gD lf L (.tuple xs) (m + 1) = true := by
  have h : (decide (0 < m + 1) && decide (xs.length ≤ L) && gDs lf L xs (m + 1 - 1)) = true := by
    rw [decide_eq_true (Nat.succ_pos m), decide_eq_true h1, Nat.add_sub_cancel, h2]
    rfl
  exact ⟨by simpa only [gD] using h, by simpa only [gD] using h⟩
mutual
theorem gD_mono {lf lg : PyData → Bool} {L M : Nat} (hl : ∀ d, lf d = true → lg d = true) (hL : L ≤ M) : ∀ (d : PyData) (n m : Nat), n ≤ m → gD lf L d n = true → gD lg M d m = true
  | .list xs, n, m, hn, h => by
    obtain ⟨k, rfl, h1, h2⟩ := gD_seq (.inl rfl) h
    obtain ⟨j, rfl⟩ : ∃ j, m = j + 1 := ⟨m - 1, by omega⟩
    exact (gD_mk (Nat.le_trans h1 hL) (gDs_mono hl hL xs k j (by omega) h2)).1
  | .tuple xs, n, m, hn, h => by
    obtain ⟨k, rfl, h1, h2⟩ := gD_seq (.inr rfl) h
    obtain ⟨j, rfl⟩ : ∃ j, m = j + 1 := ⟨m - 1, by omega⟩
    exact (gD_mk (Nat.le_trans h1 hL) (gDs_mono hl hL xs k j (by omega) h2)).2
  | .none, _, _, _, _ => by simp only [gD]
  | .bool _, _, _, _, _ => by simp only [gD]
  | .int i, _, _, _, h => by
    simp only [gD] at h ⊢
    exact hl _ h
  | .str i, _, _, _, h => by
    simp only [gD] at h ⊢
    exact hl _ h
  | .dict _, _, _, _, h => by simp only [gD] at h; cases h
theorem gDs_mono {lf lg : PyData → Bool} {L M : Nat} (hl : ∀ d, lf d = true → lg d = true) (hL : L ≤ M) : ∀ (ds : List PyData) (n m : Nat), n ≤ m → gDs lf L ds n = true → gDs lg M ds m = true
  | [], _, _, _, _ => by simp only [gDs]
  | d :: ds, n, m, hn, h => by
    simp only [gDs, Bool.and_eq_true] at h ⊢
    exact ⟨gD_mono hl hL d n m hn h.1, gDs_mono hl hL ds n m hn h.2⟩
end
mutual
theorem gD_ok {lf : PyData → Bool} {L : Nat} (hL : L ≤ 1000) : ∀ (d : PyData) (n : Nat), gD lf L d n = true → okD d n = true
  | .list xs, n, h => by
    obtain ⟨k, rfl, h1, h2⟩ := gD_seq (.inl rfl) h
    exact (ok_mk (Nat.le_trans h1 hL) (gDs_ok hL xs k h2)).1
  | .tuple xs, n, h => by
    obtain ⟨k, rfl, h1, h2⟩ := gD_seq (.inr rfl) h
    exact (ok_mk (Nat.le_trans h1 hL) (gDs_ok hL xs k h2)).2
  | .none, _, _ => by simp only [okD]
  | .bool _, _, _ => by simp only [okD]
  | .int i, _, h => by simp only [okD]
  | .str i, _, h => by simp only [okD]
  | .dict _, _, h => by simp only [gD] at h; cases h
theorem gDs_ok {lf : PyData → Bool} {L : Nat} (hL : L ≤ 1000) : ∀ (ds : List PyData) (n : Nat), gDs lf L ds n = true → okDs ds n = true
  | [], _, _ => by simp only [okDs]
  | d :: ds, n, h => by
    simp only [gDs, Bool.and_eq_true] at h
    simp only [okDs, Bool.and_eq_true]
    exact ⟨gD_ok hL d n h.1, gDs_ok hL ds n h.2⟩
end
/-- leaves before, and behind a bend -/
def lf1 : PyData → Bool
  | .int i => decide (i.natAbs ≤ 10 ^ 29)
  | .str x => decide (x.length ≤ 15) && x.cps.toList.all fun c => decide (c < 128)
  | _ => false
def lf2 : PyData → Bool
  | .int i => decide (i.natAbs < 10 ^ 31)
  | .str x => decide (x.length ≤ 60) && x.cps.toList.all fun c => decide (c < 1114112)
  | _ => false
theorem lf12 : ∀ d, lf1 d = true → lf2 d = true
  | .int i, h => by
    have h1 : i.natAbs ≤ 10 ^ 29 := of_decide_eq_true h
    show decide (i.natAbs < 10 ^ 31) = true
    rw [decide_eq_true_eq]
    omega
  | .str x, h => by
    have h1 : (decide (x.length ≤ 15) && x.cps.toList.all fun c => decide (c < 128)) = true := h
    show (decide (x.length ≤ 60) && x.cps.toList.all fun c => decide (c < 1114112)) = true
    rw [Bool.and_eq_true, decide_eq_true_eq, List.all_eq_true] at h1 ⊢
    refine ⟨by omega, fun c hc => ?_⟩
    have h2 := h1.2 c hc
    rw [decide_eq_true_eq] at h2 ⊢
    omega
theorem ofs_len (s : String) : (Str.ofString s).length = s.length := by
  show (Str.ofString s).cps.size = s.length
  rw [Str.ofString_eq_toList]
  simp only [List.size_toArray, List.length_map]
  first
    | exact String.length_toList
    | exact s.length_toList
    | rfl
mutual
theorem gD_dep {lf : PyData → Bool} {L : Nat} : ∀ (d : PyData) (n : Nat), gD lf L d n = true → d.depth ≤ n
  | .list xs, n, h => by
    obtain ⟨m, rfl, _, h2⟩ := gD_seq (.inl rfl) h
    have := gDs_dep xs m h2
    simp only [PyData.depth]
    omega
  | .tuple xs, n, h => by
    obtain ⟨m, rfl, _, h2⟩ := gD_seq (.inr rfl) h
    have := gDs_dep xs m h2
    simp only [PyData.depth]
    omega
  | .none, n, _ => by simp [PyData.depth]
  | .bool _, n, _ => by simp [PyData.depth]
  | .int _, n, _ => by simp [PyData.depth]
  | .str _, n, _ => by simp [PyData.depth]
  | .dict _, n, h => by simp [gD] at h
theorem gDs_dep {lf : PyData → Bool} {L : Nat} : ∀ (ds : List PyData) (n : Nat), gDs lf L ds n = true → PyData.depthAll ds ≤ n
  | [], n, _ => by simp [PyData.depthAll]
  | d :: ds, n, h => by
    simp only [gDs, Bool.and_eq_true] at h
    have h1 := gD_dep d n h.1
    have h2 := gDs_dep ds n h.2
    simp only [PyData.depthAll]
    omega
end
mutual
theorem gD_facts {L : Nat} : ∀ (d : PyData) (n : Nat), gD lf2 L d n = true → d.showable = true ∧ d.hasDict = false ∧ d.leavesShort 130 = true
  | .list xs, n, h => by
    obtain ⟨m, rfl, _, h2⟩ := gD_seq (.inl rfl) h
    have := gDs_facts xs m h2
    simpa only [PyData.showable, PyData.hasDict, PyData.leavesShort] using this
  | .tuple xs, n, h => by
    obtain ⟨m, rfl, _, h2⟩ := gD_seq (.inr rfl) h
    have := gDs_facts xs m h2
    simpa only [PyData.showable, PyData.hasDict, PyData.leavesShort] using this
  | .none, n, _ => ⟨rfl, rfl, rfl⟩
  | .bool _, n, _ => ⟨rfl, rfl, rfl⟩
  | .int i, n, h => by
    have h1 : i.natAbs < 10 ^ 31 := of_decide_eq_true (show decide (i.natAbs < 10 ^ 31) = true by simp only [gD] at h; exact h)
    refine ⟨?_, rfl, ?_⟩
    · show decide (i.natAbs.log2 < 1920) = true
      rw [decide_eq_true_eq]
      by_cases z : i.natAbs = 0
      · rw [z]; decide
      · exact (Nat.log2_lt z).mpr (Nat.lt_trans h1 (by decide +kernel))
    · show decide ((PyData.shown (.int i)).length ≤ 130) = true
      rw [decide_eq_true_eq]
      have e := int_text_length_le10 (k := 31) (by decide) h1
      show (Str.ofString (toString i)).length ≤ 130
      rw [ofs_len]
      omega
  | .str x, n, h => by
    refine ⟨rfl, rfl, ?_⟩
    have h1 : (decide (x.length ≤ 60) && x.cps.toList.all fun c => decide (c < 1114112)) = true := by simp only [gD] at h; exact h
    rw [Bool.and_eq_true] at h1
    show (x.cps.toList.all fun c => decide (c < 16 ^ 8)) = true
    have h2 := h1.2
    rw [List.all_eq_true] at h2 ⊢
    intro c hc
    have h3 := of_decide_eq_true (h2 c hc)
    exact decide_eq_true (by omega)
  | .dict _, n, h => by simp [gD] at h
theorem gDs_facts {L : Nat} : ∀ (ds : List PyData) (n : Nat), gDs lf2 L ds n = true → PyData.showableAll ds = true ∧ PyData.hasDictAll ds = false ∧ PyData.leavesShortAll 130 ds = true
  | [], n, _ => ⟨rfl, rfl, rfl⟩
  | d :: ds, n, h => by
    simp only [gDs, Bool.and_eq_true] at h
    obtain ⟨a1, a2, a3⟩ := gD_facts d n h.1
    obtain ⟨b1, b2, b3⟩ := gDs_facts ds n h.2
    simp only [PyData.showableAll, PyData.hasDictAll, PyData.leavesShortAll, a1, a2, a3, b1, b2, b3, Bool.and_self, Bool.or_self, and_self]
end
def bulkN (L : Nat) : Nat → Nat
  | 0 => 60
  | n + 1 => 60 + L * (bulkN L n + 1)
mutual
theorem gD_bulk {L : Nat} : ∀ (d : PyData) (n : Nat), gD lf2 L d n = true → d.bulk ≤ bulkN L n
  | .list xs, n, h => by
    obtain ⟨m, rfl, h1, h2⟩ := gD_seq (.inl rfl) h
    have h3 := gDs_bulk xs m h2
    have h4 := Nat.mul_le_mul_right (bulkN L m + 1) h1
    simp only [PyData.bulk, bulkN]
    omega
  | .tuple xs, n, h => by
    obtain ⟨m, rfl, h1, h2⟩ := gD_seq (.inr rfl) h
    have h3 := gDs_bulk xs m h2
    have h4 := Nat.mul_le_mul_right (bulkN L m + 1) h1
    simp only [PyData.bulk, bulkN]
    omega
  | .none, n, _ => Nat.zero_le _
  | .bool _, n, _ => Nat.zero_le _
  | .int _, n, _ => Nat.zero_le _
  | .str x, n, h => by
    have h1 : (decide (x.length ≤ 60) && x.cps.toList.all fun c => decide (c < 1114112)) = true := by simp only [gD] at h; exact h
    rw [Bool.and_eq_true, decide_eq_true_eq] at h1
    have h2 : x.cps.size ≤ 60 := h1.1
    simp only [PyData.bulk]
    cases n <;> simp only [bulkN] <;> omega
  | .dict _, n, h => by simp [gD] at h
theorem gDs_bulk {L : Nat} : ∀ (ds : List PyData) (n : Nat), gDs lf2 L ds n = true → PyData.bulkAll ds ≤ ds.length * (bulkN L n + 1)
  | [], n, _ => Nat.zero_le _
  | d :: ds, n, h => by
    simp only [gDs, Bool.and_eq_true] at h
    have h1 := gD_bulk d n h.1
    have h2 := gDs_bulk ds n h.2
    simp only [PyData.bulkAll, List.length_cons, Nat.succ_mul]
    omega
end
theorem gD_size {L n : Nat} {d : PyData} (h : gD lf2 L d n = true) (hb : 132 * bulkN L n + 130 ≤ 16777216) : d.shown.length ≤ sizeLine := by
  have h1 := PyData.shown_le_bulk 130 (by decide) d (gD_facts d n h).2.2
  have h2 := Nat.mul_le_mul_left 132 (gD_bulk d n h)
  rw [sizeLine_eq]
  omega
theorem cps_small (s : String) : (Str.ofString s).cps.toList.all (fun c => decide (c < 1114112)) = true := by
  rw [List.all_eq_true]
  intro c hc
  rw [decide_eq_true_eq]
  rw [Str.ofString_eq_toList] at hc
  have hc2 : c ∈ s.toList.map Char.toNat := by simpa using hc
  obtain ⟨z, _, rfl⟩ := List.mem_map.mp hc2
  have h1 := z.valid
  rcases h1 with h1 | h1
  · have h2 : z.toNat < 0xd800 := h1
    omega
  · exact h1.2
end KV

namespace KV
open PySem PySem.Spec PyProof.Rows L2 RZ Builtin
theorem upper_table : ((List.range 128).all fun c => (Unicode.upperOf c).all fun d => decide (d < 1114112)) = true := by decide +kernel
theorem upper_small {x : Str} (h : (x.cps.toList.all fun c => decide (c < 128)) = true) : ((Txt.upper x).cps.toList.all fun c => decide (c < 1114112)) = true := by
  rw [List.all_eq_true] at h ⊢
  intro c hc
  have hc2 : c ∈ (x.cps.mapIdx fun i c => (Unicode.upperOf c).toArray).flatten := by
    have z : c ∈ (Txt.upper x).cps := Array.mem_toList_iff.mp hc
    exact z
  rw [Array.mem_flatten] at hc2
  obtain ⟨l, hl, hcl⟩ := hc2
  rw [Array.mem_mapIdx] at hl
  obtain ⟨i, hi, rfl⟩ := hl
  have h1 := h _ (Array.mem_toList_iff.mpr (Array.getElem_mem hi))
  rw [decide_eq_true_eq] at h1
  have h2 := List.all_eq_true.mp upper_table _ (List.mem_range.mpr h1)
  exact List.all_eq_true.mp h2 c (by simpa using hcl)
theorem str_good {L n : Nat} {x : Str} (h1 : x.length ≤ 60) (h2 : (x.cps.toList.all fun c => decide (c < 1114112)) = true) : gD lf2 L (.str x) n = true := by
  simp only [gD]
  show (decide (x.length ≤ 60) && x.cps.toList.all fun c => decide (c < 1114112)) = true
  rw [decide_eq_true h1, h2]
  rfl
theorem int_good {L n : Nat} {i : Int} (h : i.natAbs < 10 ^ 31) : gD lf2 L (.int i) n = true := by
  simp only [gD]
  exact decide_eq_true h
theorem all_up {l : List Nat} (h : (l.all fun c => decide (c < 128)) = true) : (l.all fun c => decide (c < 1114112)) = true := by
  rw [List.all_eq_true] at h ⊢
  intro c hc
  have := h c hc
  rw [decide_eq_true_eq] at this ⊢
  omega
theorem bent_add {L n : Nat} {x : Str} (h1 : x.length ≤ 15) (h2 : (x.cps.toList.all fun c => decide (c < 128)) = true) : gD lf2 L (.str (x ++ Str.ofString "x")) n = true := by
  have e : (x ++ Str.ofString "x").cps.toList = x.cps.toList ++ [120] := by
    show (x.cps ++ (Str.ofString "x").cps).toList = _
    rw [Array.toList_append]
    rfl
  refine str_good ?_ ?_
  · rw [← sgn_len, e, List.length_append, sgn_len]
    show x.length + 1 ≤ 60
    omega
  · rw [e, List.all_append, all_up h2]
    rfl
theorem bent_cut {L n : Nat} {x : Str} (lo hi : Option Int) (h1 : x.length ≤ 15) (h2 : (x.cps.toList.all fun c => decide (c < 128)) = true) : gD lf2 L (.str (cutS x lo hi)) n = true := by
  have e : (cutS x lo hi).cps.toList = (x.cps.toList.drop (HT.sIx x.length 0 lo)).take (HT.sIx x.length x.length hi - HT.sIx x.length 0 lo) := rfl
  refine str_good ?_ ?_
  · rw [← sgn_len, e, List.length_take, List.length_drop, sgn_len]
    omega
  · rw [e]
    refine all_up ?_
    rw [List.all_eq_true] at h2 ⊢
    exact fun c hc => h2 c (List.mem_of_mem_drop (List.mem_of_mem_take hc))
theorem bent_up {L n : Nat} {x : Str} (h1 : x.length ≤ 15) (h2 : (x.cps.toList.all fun c => decide (c < 128)) = true) : gD lf2 L (.str (Txt.upper x)) n = true := by
  have := len_upper x
  exact str_good (by omega) (upper_small h2)
theorem bent_int {L n : Nat} {i : Int} (h : i.natAbs < 10 ^ 30) : gD lf2 L (.str (Str.ofString (toString i))) n = true := by
  have := int_text_length_le10 (k := 30) (by decide) h
  exact str_good (by rw [ofs_len]; omega) (cps_small _)
end KV

namespace KV
open PySem PySem.Spec PyProof.Rows L2 RZ
abbrev sPlace : Stmt := topS 12
abbrev sLetters : Stmt := topS 13
theorem dp_four {K : PySem.W.Frag} {H : Hp} {v : V} {a b c e : PyData} (h : Dp K H v (.tuple [a, b, c, e])) : ∃ (p : Addr) (x y z u : V), v = .ref p ∧ SqT K H p [x, y, z, u] ∧ Dp K H x a ∧ Dp K H y b ∧ Dp K H z c ∧ Dp K H u e := by
  cases h with
  | tup h1 h2 =>
    cases h2 with
    | cons a1 a2 =>
      cases a2 with
      | cons b1 b2 =>
        cases b2 with
        | cons c1 c2 =>
          cases c2 with
          | cons d1 d2 =>
            cases d2
            exact ⟨_, _, _, _, _, rfl, h1, a1, b1, c1, d1⟩
theorem dp_tupR {K : PySem.W.Frag} {H : Hp} {v : V} {es : List PyData} (h : Dp K H v (.tuple es)) : ∃ a xs, v = .ref a ∧ SqT K H a xs ∧ DpAll K H xs es := by
  cases h with
  | tup h1 h2 => exact ⟨_, _, rfl, h1, h2⟩
theorem op_neDK {X : Cx} {K : PySem.W.Frag} (h : X.K = K) (hu : X.A.units + 64 < cLine) : OpR X (compareOp .NotEq) (rNeD K) := by
  subst h
  exact op_neD hu
theorem op_eqDK {X : Cx} {K : PySem.W.Frag} (h : X.K = K) (hu : X.A.units + 64 < cLine) : OpR X (compareOp .Eq) (rEqD K) := by
  subst h
  exact op_eqD hu
/-- a drawn place, of a setup with these pipes and so many slots -/
def WhereD (ps : List Str) (m : Nat) (d : PyData) : Prop := (∃ i : Nat, i < m ∧ d = .tuple [.str "slot", .int i]) ∨ (∃ x ∈ ps, d = .tuple [.str "pipe", .str x])
/-- the data of a drawn setup that has a pipe -/
def setD (sp rm : Int) (ps : List Str) (ss : List PyData) : PyData := .tuple [.int sp, .int rm, .tuple (ps.map PyData.str), .tuple ss]
def optD (ps : List Str) (e : PyData) : Prop := e = .none ∨ ∃ p ∈ ps, e = .str p
mutual
theorem gD_lay {L : Nat} : ∀ (d : PyData) (n : Nat), gD lf2 L d n = true → d.canLay0 = true
  | .list xs, n, h => by
    obtain ⟨m, rfl, _, h2⟩ := gD_seq (.inl rfl) h
    simpa only [PyData.canLay0] using gDs_lay xs m h2
  | .tuple xs, n, h => by
    obtain ⟨m, rfl, _, h2⟩ := gD_seq (.inr rfl) h
    simpa only [PyData.canLay0] using gDs_lay xs m h2
  | .none, n, _ => rfl
  | .bool _, n, _ => rfl
  | .int _, n, _ => rfl
  | .str x, n, h => by
    have h1 : (decide (x.length ≤ 60) && x.cps.toList.all fun c => decide (c < 1114112)) = true := by simp only [gD] at h; exact h
    rw [Bool.and_eq_true] at h1
    show PyData.strOk x = true
    unfold PyData.strOk
    rw [← Array.all_toList]
    exact h1.2
  | .dict _, n, h => by simp [gD] at h
theorem gDs_lay {L : Nat} : ∀ (ds : List PyData) (n : Nat), gDs lf2 L ds n = true → PyData.canLayAll0 ds = true
  | [], n, _ => rfl
  | d :: ds, n, h => by
    simp only [gDs, Bool.and_eq_true] at h
    simp only [PyData.canLayAll0, gD_lay d n h.1, gDs_lay ds n h.2, Bool.and_self]
end
theorem shaped_gD {L n : Nat} {d : PyData} (h : gD lf2 L d n = true) (hn : n ≤ 60) : SeqAt.shaped d = true := by
  unfold SeqAt.shaped
  rw [gD_lay d n h, Bool.true_and, decide_eq_true_eq]
  have := gD_dep d n h
  omega
/-- a drawn setup with a pipe, as it stands in the heap -/
structure SetH (K : PySem.W.Frag) (H : Hp) (v : V) (ps : List Str) (ss : List PyData) : Prop where
  nps : 0 < ps.length
  lps : ps.length ≤ 4
  lss : ss.length ≤ 5
  wps : ∀ p ∈ ps, wordS p = true
  oss : ∀ e ∈ ss, optD ps e
  at_ : ∃ sp rm : Int, Dp K H v (setD sp rm ps ss)
theorem SetH.same {K : PySem.W.Frag} {H H' : Hp} {v : V} {ps : List Str} {ss : List PyData} (h : SetH K H v ps ss) (s : Same H H') : SetH K H' v ps ss := by
  obtain ⟨h1, h2, h3, h4, h5, sp, rm, h6⟩ := h
  exact ⟨h1, h2, h3, h4, h5, sp, rm, dp_same s h6⟩
theorem SetH.of {K : PySem.W.Frag} {H : Hp} {v : V} {l : Nat} {d : PyData} (h : SetupD l d) (hl : 0 < l) (hd : Dp K H v d) : ∃ ps ss, SetH K H v ps ss := by
  obtain ⟨sp, rm, ps, ss, rfl, _, _, _, _, wp, _, l1, l2, l3, hs⟩ := h
  exact ⟨ps, ss, by omega, l2, l3, wp, hs, sp, rm, hd⟩
theorem SetH.shaped {K : PySem.W.Frag} {H : Hp} {v : V} {ps : List Str} {ss : List PyData} (h : SetH K H v ps ss) : SeqAt.shaped (.tuple ss) = true := by
  refine shaped_gD (L := 5) (n := 1) (gD_mk (m := 0) h.lss ?_).2 (by decide)
  rw [gDs_all, List.all_eq_true]
  intro e he
  rcases h.oss e he with rfl | ⟨p, hp, rfl⟩
  · simp only [gD]
  · have w := h.wps p hp
    have z : (decide (0 < p.length) && decide (p.length ≤ 8) && p.cps.toList.all fun c => decide (97 ≤ c) && decide (c ≤ 122)) = true := w
    rw [Bool.and_eq_true, Bool.and_eq_true, decide_eq_true_eq, decide_eq_true_eq] at z
    refine str_good (by omega) ?_
    have z3 := z.2
    rw [List.all_eq_true] at z3 ⊢
    intro c hc
    have z4 := z3 c hc
    rw [Bool.and_eq_true, decide_eq_true_eq, decide_eq_true_eq] at z4
    exact decide_eq_true (by omega)
theorem eqv_empty {ss : List PyData} : PyData.eqv (.tuple ss) (.tuple []) = decide (ss = []) := by
  cases ss with
  | nil => rfl
  | cons e ss => rfl
section
variable {P : Program} {w : World} {K : PySem.W.Frag} {mg : Str → Option Value} {base : Heap}
/-! ### _law_place -/
def spPlace (K : PySem.W.Frag) : Sp := fun vs H Q _ => ∃ (B : List Addr) (b : Addr) (n : Nat) (v : V) (ps : List Str) (ss : List PyData), vs = [.ref b, v] ∧ b ∈ B ∧ Live B H ∧ BoxAt H b n ∧ n + 10 ≤ 2 ^ 40 ∧ SetH K (hide B H) v ps ss ∧
  ∀ (v' : V) (d' : PyData) (H' : Hp), WhereD ps ss.length d' → SameX [b] H H' → BoxAt H' b (n + 2) → Dp K (hide B H') v' d' → Q v' H'
theorem scPlace : FnScope ["_law_box_here", "_law_setup_so", "_law_pipes_so", "_law_slots_so"] ["_law_box_here", "_law_setup_so"] (defScope sPlace) :=
  ⟨rfl, rfl, rfl, by decide +kernel, rfl, by decide +kernel, by decide +kernel⟩
theorem ok_place {f fT fO : Addr} {fd fdT fdO : FuncData} {k : Nat} (F : Fun K "_law_place" "_law_place" sPlace f fd)
    (FT : Fun K "_law_take" "_law_take" sTake fT fdT) (bT : Binds K fdT ["_law_box_here", "_law_below"] []) (mT : mg "_law_take" = some (.ref fT))
    (FO : Fun K "_law_of" "_law_of" sOf fO fdO) (bO : Binds K fdO ["_law_box_here", "_law_some"] []) (mO : mg "_law_of" = some (.ref fO))
    (mn : mg "int" = none) (ml : mg "len" = none) : FnOk P w K mg base CX0 (k + 3) f fd ["_law_box_here", "_law_setup_so"] (spPlace K) := by
  have GT : FnOk P w K mg base CX0 (k + 2) fT fdT ["_law_box_here", "_law_below"] spTake := ok_take FT mn
  have GO : FnOk P w K mg base CX0 (k + 2) fO fdO ["_law_box_here", "_law_some"] (spOf K) := ok_of FO FT bT mT mn ml
  refine F.ok scPlace (fun vs H Q E h => ?_) (fun cdv A outer s H vs Q E hr h => ?_)
  · obtain ⟨B, b, n, v, ps, ss, rfl, _⟩ := h
    rfl
  · obtain ⟨B, b, n, v, ps, ss, rfl, hb, lv, hB, hn, hS, q⟩ := h
    refine ⟨_, pss_cons (ps_asg (pe_slice sl_tupA (pv 1) (po_some pe_int) po_none) (pg_tup rfl (pgs_cons (pg_name (i := 2) scPlace.nd rfl (.inl rfl)) (pgs_cons (pg_name (i := 3) scPlace.nd rfl (.inl rfl)) pgs_nil))))
      (pss_cons (ps_if (PW.pt (pw_and (pt_cmpR (op_neDK (K := K) rfl hr.units) (pv 3) (pe_tup pa_nil) (by rfl)) (pw_and1 (pt_cmpR op_eq (pe_call GT hr (by rfl) mT FT.kp bT .nil pass0 (pa_cons (pv 0) (pa_cons pe_int pa_nil))) pe_int (nomark _)))))
          (pss_one (ps_ret (pe_tup (pa_cons pe_str (pa_cons (pe_call GT hr (by rfl) mT FT.kp bT .nil pass0 (pa_cons (pv 0) (pa_cons (pe_callB call_len_seq (by rfl) ml PySem.boot_len (pa_cons (pv 3) pa_nil)) pa_nil))) pa_nil))))) pss_nil)
        (pss_one (ps_ret (pe_tup (pa_cons pe_str (pa_cons (pe_call GO hr (by rfl) mO FO.kp bO .nil pass0 (pa_cons (pv 0) (pa_cons (pv 2) pa_nil))) pa_nil)))))), ?_⟩
    obtain ⟨sp, rm, hd⟩ := hS.at_
    obtain ⟨p, x, y, z, u, rfl, hp, e1, e2, e3, e4⟩ := dp_four hd
    cases e1
    cases e2
    obtain ⟨a3, xs3, rfl, S3, A3⟩ := dp_tupR e3
    obtain ⟨a4, xs4, rfl, S4, A4⟩ := dp_tupR e4
    have l3 := dps_len A3
    have l4 := dps_len A4
    rw [List.length_map] at l3
    refine ⟨_, rfl, _, rfl, p, _, rfl, same_seqT (hide_same B H) hp, fun e0 => absurd e0.1 (by show ¬ (min 2 4 = 0); decide), fun _ p1 n1 => ?_⟩
    refine ⟨p1, [.ref a3, .ref a4], rfl, SqT.of upd_same, rfl, .ref a3, _, rfl, .ref a4, _, rfl, rfl, ?_⟩
    have u1 : Same H (upd H p1 (.tup [.ref a3, .ref a4])) := same_upd n1
    refine ⟨_, rfl, by show 0 ≤ sizeLine; decide, fun p2 n2 => ?_⟩
    have u2 := u1.trans (same_upd (o := HO.tup []) n2)
    refine ⟨.tuple ss, .tuple [], dp_same u2 (dp_same (hide_same B H) e4), .tup (SqT.of upd_same) .nil, hS.shaped, by decide, ?_⟩
    rw [eqv_empty]
    replace u2 : Same H (upd (upd H p1 (HO.tup (cutV [V.int sp, V.int rm, V.ref a3, V.ref a4] (some 2) none))) p2 (HO.tup [])) := u2
    generalize upd (upd H p1 (HO.tup (cutV [V.int sp, V.int rm, V.ref a3, V.ref a4] (some 2) none))) p2 (HO.tup []) = H2 at u2
    have lv2 := lv.same u2
    have b2 := hB.same u2
    have hsub : ∀ c ∈ [b], c ∈ B := fun c hc => by rw [List.mem_singleton.mp hc]; exact hb
    have fin : ∀ (m : Nat) (H3 : Hp), SameX [b] H H3 → BoxAt H3 b m → m ≤ n + 1 → Live B H3 → spOf K [.ref b, .ref a3] H3 (fun x H4 => 2 ≤ sizeLine ∧ ∀ p, H4 p = none → Q (.ref p) (upd H4 p (.tup [.str "pipe", x]))) E0 := by
      intro m H3 s3 b3 hm lv3
      refine ⟨b, m, .ref a3, rfl, b3, by omega, .inr ⟨B, a3, xs3, rfl, hb, .inr (same_seqT (s3.hide hsub) S3), by have := hS.nps; omega, by have := hS.lps; omega, fun i x H4 hx s4 b4 => ⟨by decide, fun p4 n4 => ?_⟩⟩⟩
      obtain ⟨d, hd1, hd2⟩ := dps_get A3 hx
      rw [List.getElem?_map, Option.map_eq_some_iff] at hd1
      obtain ⟨pn, hpn, rfl⟩ := hd1
      cases hd2
      have lv4 : Live B H4 := s4.live lv3 fun c hc => by rw [List.mem_singleton.mp hc]; exact b4.live
      exact q _ (.tuple [.str "pipe", .str pn]) _ (.inr ⟨pn, List.mem_of_getElem? hpn, rfl⟩) ((s3.trans s4).trans (SameX.of (same_upd n4))) ((b4.same (same_upd n4)).le (by omega)) (dp_new lv4 n4 (.cons (.str _) (.cons (.str _) .nil)))
    by_cases he : ss = []
    · rw [decide_eq_true he]
      refine ⟨_, rfl, iteF (iteF ⟨_, rfl, _, rfl, fin n H2 (SameX.of u2) b2 (by omega) lv2⟩)⟩
    · rw [decide_eq_false he]
      refine ⟨_, rfl, iteT ⟨_, rfl, b, n, 2, rfl, by decide, by decide, b2, by omega, fun r H3 r0 r1 s3 b3 => ⟨rfl, _, rfl, ite2 (fun e => ?_) (fun e => ?_)⟩⟩⟩
      · have lv3 : Live B H3 := s3.live lv2 fun c hc => by rw [List.mem_singleton.mp hc]; exact b3.live
        have s13 := (SameX.of (B := [b]) u2).trans s3
        have S43 := same_seqT (hide_same B H3) (same_seqT (s13.hide hsub) S4)
        have lss := hS.lss
        have lp : 0 < ss.length := List.length_pos_iff.mpr he
        refine ⟨_, rfl, _, rfl, a4, xs4, rfl, .inr S43, b, n + 1, ss.length, ?_, by omega, by omega, b3, by omega, fun r2 H4 r20 r21 s4 b4 => ⟨by show 2 ≤ sizeLine; decide, fun p4 n4 => ?_⟩⟩
        · rw [l4]
          rfl
        · obtain ⟨j, rfl⟩ : ∃ j : Nat, r2 = j := ⟨r2.toNat, by omega⟩
          have lv4 : Live B H4 := s4.live lv3 fun c hc => by rw [List.mem_singleton.mp hc]; exact b4.live
          exact q _ (.tuple [.str "slot", .int j]) _ (.inl ⟨j, by omega, rfl⟩) ((s13.trans s4).trans (SameX.of (same_upd n4))) ((b4.same (same_upd n4)).le (by omega)) (dp_new lv4 n4 (.cons (.str _) (.cons (.int _) .nil)))
      · have lv3 : Live B H3 := s3.live lv2 fun c hc => by rw [List.mem_singleton.mp hc]; exact b3.live
        exact ⟨_, rfl, _, rfl, fin (n + 1) H3 ((SameX.of (B := [b]) u2).trans s3) b3 (by omega) lv3⟩
end
end KV

namespace KV
open PySem PySem.Spec PyProof.Rows L2 RZ
theorem abc_ok : ((Str.ofString "abc").cps.toList.all fun c => decide (97 ≤ c) && decide (c ≤ 122)) = true := by decide +kernel
theorem glued_len {cs : List Nat} : (Txt.join (Str.ofString "") (cs.map fun c => (⟨#[c]⟩ : Str))).length = cs.length := by
  have e : (Txt.join (Str.ofString "") (cs.map fun c => (⟨#[c]⟩ : Str))).cps.toList = cs := by
    show (Builtin.Str.glued (Str.ofString "") (cs.map fun c => (⟨#[c]⟩ : Str))).cps.toList = cs
    rw [StrLaws.glued_eq_join]
    exact glue_sing cs
  rw [← sgn_len, e]
section
variable {P : Program} {w : World} {K : PySem.W.Frag} {mg : Str → Option Value} {base : Heap}
/-! ### _law_letters -/
def spLetters (K : PySem.W.Frag) : Sp := fun vs H Q _ => ∃ (b : Addr) (n m : Nat), vs = [.ref b, .int m] ∧ 0 < m ∧ m ≤ 6 ∧ BoxAt H b n ∧ n + 20 ≤ 2 ^ 40 ∧
  ∀ (x : Str) (H' : Hp), wordS x = true → x.length ≤ m → SameX [b] H H' → BoxAt H' b (n + 8) → Q (.str x) H'
theorem scLetters : FnScope ["_law_box_here", "_law_most_so", "_law_turn"] ["_law_box_here", "_law_most_so"] (defScope sLetters) :=
  ⟨rfl, rfl, rfl, by decide +kernel, rfl, by decide +kernel, by decide +kernel⟩
theorem ok_letters {f fT fO : Addr} {fd fdT fdO : FuncData} {k : Nat} (F : Fun K "_law_letters" "_law_letters" sLetters f fd) (FT : Fun K "_law_take" "_law_take" sTake fT fdT) (bT : Binds K fdT ["_law_box_here", "_law_below"] []) (mT : mg "_law_take" = some (.ref fT))
    (FO : Fun K "_law_of" "_law_of" sOf fO fdO) (bO : Binds K fdO ["_law_box_here", "_law_some"] []) (mO : mg "_law_of" = some (.ref fO))
    (mn : mg "int" = none) (ml : mg "len" = none) (mr : mg "range" = none) : FnOk P w K mg base CX0 (k + 3) f fd ["_law_box_here", "_law_most_so"] (spLetters K) := by
  have GT : FnOk P w K mg base CX0 (k + 2) fT fdT ["_law_box_here", "_law_below"] spTake := ok_take FT mn
  have GO : FnOk P w K mg base CX0 (k + 2) fO fdO ["_law_box_here", "_law_some"] (spOf K) := ok_of FO FT bT mT mn ml
  refine F.ok scLetters (fun vs H Q E h => ?_) (fun cdv A outer s H vs Q E hr h => ?_)
  · obtain ⟨b, n, m, rfl, _⟩ := h
    rfl
  · obtain ⟨b, n, m, rfl, hm0, hm, hB, hn, q⟩ := h
    refine ⟨_, pss_one (ps_ret (pe_join pe_str (pe_lc (own := [("_law_turn", 2)]) (g := gName 2) (tt := tYes) rfl scLetters.nd
        (pi_range1 (by rfl) mr (pa_cons (pe_op op_add pe_int (pe_call GT hr (by rfl) mT FT.kp bT .nil pass0 (pa_cons (pv 0) (pa_cons (pv 1) pa_nil)))) pa_nil))
        (blkOk_by (N := ["_law_box_here", "_law_most_so", "_law_turn"]) (sc := defScope sLetters) (by decide +kernel))
        (fun _ _ _ _ _ => pg_name (i := 2) scLetters.nd rfl (Or.inl rfl)) (fun _ _ _ _ _ => pts_nil) (fun _ _ _ _ _ => pe_call GO hr (by rfl) mO FO.kp bO .nil pass0 (pa_cons (pv 0) (pa_cons pe_str pa_nil)))))), ?_⟩
    refine ⟨⟨_, rfl⟩, ?_⟩
    refine ⟨_, rfl, _, rfl, b, n, m, rfl, by omega, by omega, hB, by omega, fun r2 H2 r20 r21 s2 b2 => ?_⟩
    obtain ⟨j, rfl⟩ : ∃ j : Nat, r2 = j := ⟨r2.toNat, by omega⟩
    refine ⟨_, _, rfl, rfl, _, rfl, by omega, by omega, fun D nD => lc_it (walk_range (lo := 0) (n := ((1 : Int) + j).toNat)) (fun i H3 => SameX [D, b] H2 H3 ∧ BoxAt H3 b (n + 1 + i) ∧ ∃ cs : List Nat, H3 D = some (.lst ((cs.map fun c => (⟨#[c]⟩ : Str)).map V.str)) ∧ cs.length = i ∧ (cs.all fun c => decide (97 ≤ c) && decide (c ≤ 122)) = true)
      ⟨sameX_upd List.mem_cons_self, ?_, [], upd_same, rfl, rfl⟩ (fun _ _ _ _ => trivial) ?_ ?_⟩
    · have pD : b ≠ D := (b2.new nD).symm
      obtain ⟨x, y, c, z, z2⟩ := b2
      exact ⟨x, y, c, by rw [upd_ne pD]; exact z, z2⟩
    · rintro i x H3 H3' hi ⟨s3, b3, cs, hD, hl, ha⟩ ⟨rfl, rfl⟩
      have pD : D ≠ b := b2.new nD
      refine ⟨rfl, tYes_ok ⟨_, rfl, b, _, _, rfl, b3, by omega, .inl ⟨_, rfl, by decide +kernel, by decide +kernel, fun c H4 hc s4 b4 => ?_⟩⟩⟩
      have hD4 : H4 D = some (.lst ((cs.map fun c => (⟨#[c]⟩ : Str)).map V.str)) := s4 D _ (fun z => pD (List.mem_singleton.mp z)) hD
      refine ⟨_, hD4, small1000 (by rw [List.length_map, List.length_map]; omega), s3.trans ((s4.sub fun z hz => List.mem_cons_of_mem _ hz).trans (sameX_upd List.mem_cons_self)), ?_, cs ++ [c], ?_, ?_, ?_⟩
      · obtain ⟨u1, u2, u3, z, z2⟩ := b4
        exact ⟨u1, u2, u3, by rw [upd_ne pD.symm]; exact z, by omega⟩
      · rw [upd_same, List.map_append, List.map_append]
        rfl
      · rw [List.length_append, hl]
        rfl
      · rw [List.all_append, ha, Bool.true_and]
        have hc2 := List.all_eq_true.mp abc_ok c hc
        simpa using hc2
    · rintro H3 ⟨s3, b3, cs, hD, hl, ha⟩
      refine ⟨_, D, _, rfl, rfl, .inl (SqL.of hD), ?_, q _ _ (glued_word (by omega) (by omega) ha) (by rw [glued_len]; omega) ?_ (b3.le (by omega))⟩
      · rw [sing_len, List.length_map]
        show cs.length + cs.length * 0 ≤ _
        omega
      · refine s2.trans fun c o z e => s3 c o (fun y => ?_) e
        rcases List.mem_cons.mp y with y | y
        · exact ne_of_none e nD y
        · exact z y
end
end KV

namespace KV
open PySem PySem.Spec PyProof.Rows L2 RZ
abbrev sDeed : Stmt := topS 14
/-- a drawn deed, of a setup with these pipes and so many slots, behind these tags -/
inductive DeedD (ps : List Str) (m : Nat) (gs : List Str) : PyData → Prop
  | read {wh : PyData} {i : Int} (h : WhereD ps m wh) (h1 : 1 ≤ i) (h2 : i ≤ 3) : DeedD ps m gs (.tuple [.str "read", wh, .int i])
  | reads {wh : PyData} {i : Int} (h : WhereD ps m wh) (h1 : 1 ≤ i) (h2 : i ≤ 3) : DeedD ps m gs (.tuple [.str "reads", wh, .int i])
  | write {wh : PyData} {x : Str} (h : WhereD ps m wh) (h1 : wordS x = true) (h2 : x.length ≤ 3) : DeedD ps m gs (.tuple [.str "write", wh, .str x])
  | shut {wh : PyData} (h : WhereD ps m wh) : DeedD ps m gs (.tuple [.str "shut", wh])
  | timeout {i : Int} (h1 : 0 ≤ i) (h2 : i ≤ 8) : DeedD ps m gs (.tuple [.str "timeout", .int i])
  | work (g : Bool) : DeedD ps m gs (.tuple [.str "work", .bool g])
  | update {i : Nat} {e : PyData} (h : i < m) (h1 : optD ps e) : DeedD ps m gs (.tuple [.str "update", .int i, e])
  | cancel {t : Str} (h : t ∈ gs) : DeedD ps m gs (.tuple [.str "cancel", .str t])
  | cancelall : DeedD ps m gs (.tuple [.str "cancelall"])
  | nop : DeedD ps m gs (.tuple [.str "nop"])
theorem eqv_emptyL {ss : List PyData} : PyData.eqv (.list ss) (.list []) = decide (ss = []) := by
  cases ss with
  | nil => rfl
  | cons e ss => rfl
theorem word_good {L n : Nat} {x : Str} (h : wordS x = true) : gD lf2 L (.str x) n = true := by
  have z : (decide (0 < x.length) && decide (x.length ≤ 8) && x.cps.toList.all fun c => decide (97 ≤ c) && decide (c ≤ 122)) = true := h
  rw [Bool.and_eq_true, Bool.and_eq_true, decide_eq_true_eq, decide_eq_true_eq] at z
  refine str_good (by omega) ?_
  have z3 := z.2
  rw [List.all_eq_true] at z3 ⊢
  intro c hc
  have z4 := z3 c hc
  rw [Bool.and_eq_true, decide_eq_true_eq, decide_eq_true_eq] at z4
  exact decide_eq_true (by omega)
theorem words_good {L n : Nat} {gs : List Str} (h : ∀ g ∈ gs, wordS g = true) : gDs lf2 L (gs.map PyData.str) n = true := by
  rw [gDs_all, List.all_eq_true]
  intro e he
  obtain ⟨g, hg, rfl⟩ := List.mem_map.mp he
  exact word_good (h g hg)
/-- a list of names at an address -/
def NmAt (H : Hp) (a : Addr) (gs : List Str) : Prop := H a = some (.lst (gs.map V.str))
theorem NmAt.ne_box {H : Hp} {a b : Addr} {gs : List Str} {n : Nat} (h : NmAt H a gs) (hb : BoxAt H b n) : a ≠ b := fun e => by
  obtain ⟨x, y, c, z, _⟩ := hb
  have h' : H a = some (.lst (gs.map V.str)) := h
  rw [e, z] at h'
  have h2 := HO.lst.inj (Option.some.inj h')
  cases gs with
  | nil => cases h2
  | cons g gs => cases h2
theorem NmAt.up {H H' : Hp} {a b : Addr} {gs : List Str} {n : Nat} (h : NmAt H a gs) (hb : BoxAt H b n) (s : SameX [b] H H') : NmAt H' a gs := s _ _ (fun z => h.ne_box hb (List.mem_singleton.mp z)) h
theorem dps_mem {K : PySem.W.Frag} {H : Hp} {x : V} : ∀ {xs : List V} {ds : List PyData}, DpAll K H xs ds → x ∈ xs → ∃ d ∈ ds, Dp K H x d
  | [], _, _, h => absurd h List.not_mem_nil
  | _ :: _, _, .cons h1 h2, h => by
    rcases List.mem_cons.mp h with rfl | h
    · exact ⟨_, List.mem_cons_self, h1⟩
    · obtain ⟨d, hd, hx⟩ := dps_mem h2 h
      exact ⟨d, List.mem_cons_of_mem _ hd, hx⟩
theorem deed_last {D0 : Ends} {r : Int} {x0 x1 x2 x4 : Option V} {H : Hp} (q1 : ∀ p, H p = none → D0.rt (.ref p) (upd H p (.tup [.str "cancelall"]))) (q2 : ∀ p, H p = none → D0.rt (.ref p) (upd H p (.tup [.str "nop"]))) :
    tRet (tIf (tTest (tOp rEq (tVar 3) (tC (V.int 18)))) (tTup (tCons (tC (V.str (Str.ofString "cancelall"))) tNil)) (tTup (tCons (tC (V.str (Str.ofString "nop"))) tNil))) D0 [x0, x1, x2, some (.int r), x4] H := by
  refine ⟨_, rfl, rfl, _, rfl, ite2 (fun e => ?_) (fun e => ?_)⟩
  · exact ⟨by show 1 ≤ sizeLine; decide, q1⟩
  · exact ⟨by show 1 ≤ sizeLine; decide, q2⟩
theorem deed_rest {K : PySem.W.Frag} {D0 : Ends} {r : Int} {x1 x4 : Option V} {H : Hp} {b G : Addr} {n : Nat} {gs : List Str} (hB : BoxAt H b n) (hn : n + 10 ≤ 2 ^ 40) (hG : NmAt H G gs) (wg : ∀ g ∈ gs, wordS g = true) (lg : gs.length ≤ 100)
    (q1 : ∀ (c : Str) (H' : Hp) (p : Addr), c ∈ gs → SameX [b] H H' → BoxAt H' b (n + 1) → H' p = none → D0.rt (.ref p) (upd H' p (.tup [.str "cancel", .str c])))
    (q2 : ∀ (H' : Hp) (p : Addr), Same H H' → H' p = none → D0.rt (.ref p) (upd H' p (.tup [.str "cancelall"]))) (q3 : ∀ (H' : Hp) (p : Addr), Same H H' → H' p = none → D0.rt (.ref p) (upd H' p (.tup [.str "nop"]))) :
    tSeq (tIfS (tAnd (tTest (tOp (rI0 fun i j => V.bl (decide (i < j))) (tVar 3) (tC (V.int 18)))) (tTest (tOp (rNeD K) (tVar 2) (tLst tNil))))
        (tRet (tTup (tCons (tC (V.str (Str.ofString "cancel"))) (tCons (tCall (spOf K) [] E0 (tCons (tVar 0) (tCons (tVar 2) tNil))) tNil)))) tNext)
      (tRet (tIf (tTest (tOp rEq (tVar 3) (tC (V.int 18)))) (tTup (tCons (tC (V.str (Str.ofString "cancelall"))) tNil)) (tTup (tCons (tC (V.str (Str.ofString "nop"))) tNil)))) D0 [some (.ref b), x1, some (.ref G), some (.int r), x4] H := by
  have last : ∀ H', Same H H' → tRet (tIf (tTest (tOp rEq (tVar 3) (tC (V.int 18)))) (tTup (tCons (tC (V.str (Str.ofString "cancelall"))) tNil)) (tTup (tCons (tC (V.str (Str.ofString "nop"))) tNil))) D0 [some (.ref b), x1, some (.ref G), some (.int r), x4] H' :=
    fun H' s => deed_last (fun p np => q2 H' p s np) (fun p np => q3 H' p s np)
  refine ⟨_, rfl, _, _, rfl, rfl, _, rfl, ite2 (fun e => ?_) (fun e => iteF (last H (Same.refl _)))⟩
  refine ⟨_, rfl, by show 0 ≤ sizeLine; decide, fun p2 n2 => ?_⟩
  have u2 : Same H (upd H p2 (.lst [])) := same_upd n2
  refine ⟨.list (gs.map PyData.str), .list [], .lst (SqL.of (u2 _ _ hG)) (dps_strs gs), .lst (SqL.of upd_same) .nil, shaped_gD (L := 100) (n := 1) (gD_mk (m := 0) (by rw [List.length_map]; exact lg) (words_good wg)).1 (by decide), by decide, _, rfl, ?_⟩
  rw [eqv_emptyL]
  have hG2 : NmAt (upd H p2 (.lst [])) G gs := u2 _ _ hG
  have b2 := hB.same u2
  generalize upd H p2 (.lst []) = H2 at u2 hG2 b2
  by_cases he : gs.map PyData.str = []
  · rw [decide_eq_true he]
    exact iteF (last H2 u2)
  · rw [decide_eq_false he]
    have Gb := hG2.ne_box b2
    have l0 : 0 < gs.length := by
      rw [← List.length_map (f := PyData.str)]
      exact List.length_pos_iff.mpr he
    refine iteT ⟨_, rfl, _, rfl, b, n, .ref G, rfl, b2, by omega, .inr ⟨[b], G, _, rfl, List.mem_singleton.mpr rfl, .inl (SqL.of (by rw [hide_out (fun z => Gb (List.mem_singleton.mp z))]; exact hG2)), by rw [List.length_map]; exact l0, by rw [List.length_map]; omega, fun i x H3 hx s3 b3 => ?_⟩⟩
    rw [List.getElem?_map, Option.map_eq_some_iff] at hx
    obtain ⟨c, hc, rfl⟩ := hx
    exact ⟨by show 2 ≤ sizeLine; decide, fun p np => q1 c H3 p (List.mem_of_getElem? hc) ((SameX.of u2).trans s3) b3 np⟩
section
variable {P : Program} {w : World} {K : PySem.W.Frag} {mg : Str → Option Value} {base : Heap}
/-! ### _law_deed -/
def spDeed (K : PySem.W.Frag) : Sp := fun vs H Q _ => ∃ (B : List Addr) (b : Addr) (n : Nat) (v : V) (ps : List Str) (ss : List PyData) (G : Addr) (gs : List Str), vs = [.ref b, v, .ref G] ∧ b ∈ B ∧ Live B H ∧ BoxAt H b n ∧ n + 50 ≤ 2 ^ 40 ∧ SetH K (hide B H) v ps ss ∧
  NmAt H G gs ∧ (∀ g ∈ gs, wordS g = true) ∧ gs.length ≤ 100 ∧ ∀ (v' : V) (d' : PyData) (H' : Hp), DeedD ps ss.length gs d' → SameX [b] H H' → BoxAt H' b (n + 12) → Dp K (hide B H') v' d' → Q v' H'
abbrev nDeed : List Str := ["_law_box_here", "_law_setup_so", "_law_gone", "_law_way", "_law_place_so"]
theorem scDeed : FnScope nDeed ["_law_box_here", "_law_setup_so", "_law_gone"] (defScope sDeed) :=
  ⟨rfl, rfl, rfl, by decide +kernel, rfl, by decide +kernel, by decide +kernel⟩
theorem ok_deed {f fT fO fP fL : Addr} {fd fdT fdO fdP fdL : FuncData} {k : Nat} (F : Fun K "_law_deed" "_law_deed" sDeed f fd)
    (FT : Fun K "_law_take" "_law_take" sTake fT fdT) (bT : Binds K fdT ["_law_box_here", "_law_below"] []) (mT : mg "_law_take" = some (.ref fT))
    (FO : Fun K "_law_of" "_law_of" sOf fO fdO) (bO : Binds K fdO ["_law_box_here", "_law_some"] []) (mO : mg "_law_of" = some (.ref fO))
    (FP : Fun K "_law_place" "_law_place" sPlace fP fdP) (bP : Binds K fdP ["_law_box_here", "_law_setup_so"] []) (mP : mg "_law_place" = some (.ref fP))
    (FL : Fun K "_law_letters" "_law_letters" sLetters fL fdL) (bL : Binds K fdL ["_law_box_here", "_law_most_so"] []) (mL : mg "_law_letters" = some (.ref fL))
    (mn : mg "int" = none) (ml : mg "len" = none) (mr : mg "range" = none) : FnOk P w K mg base CX0 (k + 4) f fd ["_law_box_here", "_law_setup_so", "_law_gone"] (spDeed K) := by
  have GT : FnOk P w K mg base CX0 (k + 3) fT fdT ["_law_box_here", "_law_below"] spTake := ok_take (k := k + 2) FT mn
  have GO : FnOk P w K mg base CX0 (k + 3) fO fdO ["_law_box_here", "_law_some"] (spOf K) := ok_of (k := k + 1) FO FT bT mT mn ml
  have GP : FnOk P w K mg base CX0 (k + 3) fP fdP ["_law_box_here", "_law_setup_so"] (spPlace K) := ok_place FP FT bT mT FO bO mO mn ml
  have GL : FnOk P w K mg base CX0 (k + 3) fL fdL ["_law_box_here", "_law_most_so"] (spLetters K) := ok_letters FL FT bT mT FO bO mO mn ml mr
  refine F.ok scDeed (fun vs H Q E h => ?_) (fun cdv A outer s H vs Q E hr h => ?_)
  · obtain ⟨B, b, n, v, ps, ss, G, gs, rfl, _⟩ := h
    rfl
  · obtain ⟨B, b, n, v, ps, ss, G, gs, rfl, hb, lv, hB, hn, hS, hG, wg, lg, q⟩ := h
    refine ⟨_, pss_cons (ps_par (i := 3) (j := 4) rfl scDeed.nd rfl rfl (by decide) rfl rfl (pa_cons (pe_call GT hr (by rfl) mT FT.kp bT .nil pass0 (pa_cons (pv 0) (pa_cons pe_int pa_nil))) (pa_cons (pe_call GP hr (by rfl) mP FP.kp bP .nil pass0 (pa_cons (pv 0) (pa_cons (pv 1) pa_nil))) pa_nil)) (by rfl))
      (pss_cons (ps_if (pt_cmpR op_lt (pv 3) pe_int (nomark _)) (pss_one (ps_ret (pe_tup (pa_cons (pe_ifExp (pt_cmpR op_lt (pv 3) pe_int (nomark _)) pe_str pe_str) (pa_cons (pv 4) (pa_cons (pe_op op_add pe_int (pe_call GT hr (by rfl) mT FT.kp bT .nil pass0 (pa_cons (pv 0) (pa_cons pe_int pa_nil)))) pa_nil)))))) pss_nil)
      (pss_cons (ps_if (pt_cmpR op_lt (pv 3) pe_int (nomark _)) (pss_one (ps_ret (pe_tup (pa_cons pe_str (pa_cons (pv 4) (pa_cons (pe_call GL hr (by rfl) mL FL.kp bL .nil pass0 (pa_cons (pv 0) (pa_cons pe_int pa_nil))) pa_nil)))))) pss_nil)
      (pss_cons (ps_if (pt_cmpR op_eq (pv 3) pe_int (nomark _)) (pss_one (ps_ret (pe_tup (pa_cons pe_str (pa_cons (pv 4) pa_nil))))) pss_nil)
      (pss_cons (ps_if (pt_cmpR op_lt (pv 3) pe_int (nomark _)) (pss_one (ps_ret (pe_tup (pa_cons pe_str (pa_cons (pe_call GT hr (by rfl) mT FT.kp bT .nil pass0 (pa_cons (pv 0) (pa_cons pe_int pa_nil))) pa_nil))))) pss_nil)
      (pss_cons (ps_if (pt_cmpR op_lt (pv 3) pe_int (nomark _)) (pss_one (ps_ret (pe_tup (pa_cons pe_str (pa_cons (pe_cmpR op_gt (pe_call GT hr (by rfl) mT FT.kp bT .nil pass0 (pa_cons (pv 0) (pa_cons pe_int pa_nil))) pe_int (nomark _)) pa_nil))))) pss_nil)
      (pss_cons (ps_if (PW.pt (pw_and (pt_cmpR op_lt (pv 3) pe_int (nomark _)) (pw_and1 (pt_cmpR (op_neDK (K := K) rfl hr.units) (pe_ix ix_seq (pv 1) pe_int (fun _ _ => rfl)) (pe_tup pa_nil) (by rfl)))))
          (pss_one (ps_ret (pe_tup (pa_cons pe_str (pa_cons (pe_call GT hr (by rfl) mT FT.kp bT .nil pass0 (pa_cons (pv 0) (pa_cons (pe_callB call_len_seq (by rfl) ml PySem.boot_len (pa_cons (pe_ix ix_seq (pv 1) pe_int (fun _ _ => rfl)) pa_nil)) pa_nil)))
            (pa_cons (pe_call GO hr (by rfl) mO FO.kp bO .nil pass0 (pa_cons (pv 0) (pa_cons (pe_op op_catA (pe_ix ix_seq (pv 1) pe_int (fun _ _ => rfl)) (pe_tup (pa_cons pe_non pa_nil))) pa_nil))) pa_nil)))))) pss_nil)
      (pss_cons (ps_if (PW.pt (pw_and (pt_cmpR op_lt (pv 3) pe_int (nomark _)) (pw_and1 (pt_cmpR (op_neDK (K := K) rfl hr.units) (pv 2) (pe_lst pa_nil) (by rfl)))))
          (pss_one (ps_ret (pe_tup (pa_cons pe_str (pa_cons (pe_call GO hr (by rfl) mO FO.kp bO .nil pass0 (pa_cons (pv 0) (pa_cons (pv 2) pa_nil))) pa_nil))))) pss_nil)
      (pss_one (ps_ret (pe_ifExp (pt_cmpR op_eq (pv 3) pe_int (nomark _)) (pe_tup (pa_cons pe_str pa_nil)) (pe_tup (pa_cons pe_str pa_nil)))))))))))), ?_⟩
    refine ⟨_, rfl, b, n, 20, rfl, by decide, by decide, hB, by omega, fun r H1 r0 r1 s1 b1 => ?_⟩
    have hsub : ∀ c ∈ [b], c ∈ B := fun c hc => by rw [List.mem_singleton.mp hc]; exact hb
    have lv1 : Live B H1 := s1.live lv fun c hc => by rw [List.mem_singleton.mp hc]; exact b1.live
    refine ⟨_, rfl, _, rfl, B, b, n + 1, v, ps, ss, rfl, hb, lv1, b1, by omega, hS.same (s1.hide hsub), fun v4 d4 H2 w4 s2 b2 dp4 => ⟨_, _, rfl, ?_⟩⟩
    have lv2 : Live B H2 := s2.live lv1 fun c hc => by rw [List.mem_singleton.mp hc]; exact b2.live
    have s12 := s1.trans s2
    have fresh : ∀ {H3 : Hp} {m : Nat} {p : Addr} {vs : List V} {ds : List PyData}, SameX [b] H2 H3 → BoxAt H3 b m → m ≤ n + 12 → H3 p = none → DpAll K (hide B H3) vs ds → DeedD ps ss.length gs (.tuple ds) → Q (.ref p) (upd H3 p (.tup vs)) := by
      intro H3 m p vs ds s3 b3 hm np hds hdd
      have lv3 : Live B H3 := s3.live lv2 fun c hc => by rw [List.mem_singleton.mp hc]; exact b3.live
      exact q _ _ _ hdd ((s12.trans s3).trans (SameX.of (same_upd np))) ((b3.same (same_upd np)).le hm) (dp_new lv3 np hds)
    have at4 : ∀ {H3 : Hp}, SameX [b] H2 H3 → Dp K (hide B H3) v4 d4 := fun s3 => dp_same (s3.hide hsub) dp4
    refine ⟨_, rfl, _, _, rfl, rfl, _, rfl, ite2 (fun e => ?_) (fun e5 => ?_)⟩
    · refine ⟨_, rfl, _, _, rfl, rfl, _, rfl, ite2 (fun e => ?_) (fun e => ?_)⟩
      · refine ⟨_, rfl, _, rfl, b, _, 3, rfl, by decide, by decide, b2, by omega, fun r3 H3 r30 r31 s3 b3 => ⟨_, _, rfl, rfl, by show 3 ≤ sizeLine; decide, fun p np => ?_⟩⟩
        exact fresh s3 b3 (by omega) np (.cons (.str _) (.cons (at4 s3) (.cons (.int _) .nil))) (.read w4 (by omega) (by omega))
      · refine ⟨_, rfl, _, rfl, b, _, 3, rfl, by decide, by decide, b2, by omega, fun r3 H3 r30 r31 s3 b3 => ⟨_, _, rfl, rfl, by show 3 ≤ sizeLine; decide, fun p np => ?_⟩⟩
        exact fresh s3 b3 (by omega) np (.cons (.str _) (.cons (at4 s3) (.cons (.int _) .nil))) (.reads w4 (by omega) (by omega))
    refine ⟨_, rfl, _, _, rfl, rfl, _, rfl, ite2 (fun e => ?_) (fun e8 => ?_)⟩
    · refine ⟨_, rfl, _, rfl, b, _, 3, rfl, by decide, by decide, b2, by omega, fun x H3 wx lx s3 b3 => ⟨by show 3 ≤ sizeLine; decide, fun p np => ?_⟩⟩
      exact fresh s3 b3 (by omega) np (.cons (.str _) (.cons (at4 s3) (.cons (.str _) .nil))) (.write w4 wx lx)
    refine ⟨_, rfl, rfl, _, rfl, ite2 (fun e => ?_) (fun e9 => ?_)⟩
    · refine ⟨_, rfl, by show 2 ≤ sizeLine; decide, fun p np => ?_⟩
      exact fresh (SameX.refl _ _) b2 (by omega) np (.cons (.str _) (.cons dp4 .nil)) (.shut w4)
    refine ⟨_, rfl, _, _, rfl, rfl, _, rfl, ite2 (fun e => ?_) (fun e11 => ?_)⟩
    · refine ⟨_, rfl, b, _, 9, rfl, by decide, by decide, b2, by omega, fun r3 H3 r30 r31 s3 b3 => ⟨by show 2 ≤ sizeLine; decide, fun p np => ?_⟩⟩
      exact fresh s3 b3 (by omega) np (.cons (.str _) (.cons (.int _) .nil)) (.timeout r30 (by omega))
    refine ⟨_, rfl, _, _, rfl, rfl, _, rfl, ite2 (fun e => ?_) (fun e13 => ?_)⟩
    · refine ⟨_, rfl, b, _, 3, rfl, by decide, by decide, b2, by omega, fun r3 H3 r30 r31 s3 b3 => ⟨_, _, rfl, rfl, by show 2 ≤ sizeLine; decide, fun p np => ?_⟩⟩
      exact fresh s3 b3 (by omega) np (.cons (.str _) (.cons (.bl _) .nil)) (.work _)
    have rest : ∀ {H3 : Hp}, Same H2 H3 → tSeq (tIfS (tAnd (tTest (tOp (rI0 fun i j => V.bl (decide (i < j))) (tVar 3) (tC (V.int 18)))) (tTest (tOp (rNeD K) (tVar 2) (tLst tNil))))
        (tRet (tTup (tCons (tC (V.str (Str.ofString "cancel"))) (tCons (tCall (spOf K) [] E0 (tCons (tVar 0) (tCons (tVar 2) tNil))) tNil)))) tNext)
      (tRet (tIf (tTest (tOp rEq (tVar 3) (tC (V.int 18)))) (tTup (tCons (tC (V.str (Str.ofString "cancelall"))) tNil)) (tTup (tCons (tC (V.str (Str.ofString "nop"))) tNil)))) { nx := fun _ H' => Q .non H', rt := Q } [some (.ref b), some v, some (.ref G), some (.int r), some v4] H3 := by
      intro H3 s3
      refine deed_rest (b2.same s3) (by omega) (s3 _ _ (hG.up hB s12)) wg lg (fun c H4 p hc s4 b4 np => ?_) (fun H4 p s4 np => ?_) (fun H4 p s4 np => ?_)
      · exact fresh ((SameX.of s3).trans s4) b4 (by omega) np (.cons (.str _) (.cons (.str _) .nil)) (.cancel hc)
      · exact fresh (SameX.of (s3.trans s4)) (b2.same (s3.trans s4)) (by omega) np (.cons (.str _) .nil) .cancelall
      · exact fresh (SameX.of (s3.trans s4)) (b2.same (s3.trans s4)) (by omega) np (.cons (.str _) .nil) .nop
    refine ⟨_, rfl, _, _, rfl, rfl, _, rfl, ite2 (fun e => ?_) (fun e15 => iteF (rest (Same.refl _)))⟩
    obtain ⟨sp, rm, hd⟩ := hS.at_
    obtain ⟨p, x, y, z, u, rfl, hp, e1, e2, e3, e4⟩ := dp_four (dp_same (s12.hide hsub) hd)
    obtain ⟨a3, xs3, rfl, S3, A3⟩ := dp_tupR e3
    obtain ⟨a4, xs4, rfl, S4, A4⟩ := dp_tupR e4
    have hp2 := same_seqT (hide_same B H2) hp
    refine ⟨_, rfl, .inr (.inl ⟨p, _, 3, .ref a4, rfl, rfl, hp2, atI_nat (j := 3) rfl, by show 0 ≤ sizeLine; decide, fun p2 n2 => ?_⟩)⟩
    have l3 := dps_len A3
    have l4 := dps_len A4
    rw [List.length_map] at l3
    have lss := hS.lss
    have nps := hS.nps
    have lps := hS.lps
    refine ⟨.tuple ss, .tuple [], dp_same (same_upd n2) (dp_same (hide_same B H2) e4), .tup (SqT.of upd_same) .nil, hS.shaped, by decide, _, rfl, ?_⟩
    rw [eqv_empty]
    by_cases he : ss = []
    · rw [decide_eq_true he]
      exact iteF (rest (same_upd n2))
    rw [decide_eq_false he]
    have l0 : 0 < ss.length := List.length_pos_iff.mpr he
    have u2 : Same H2 (upd H2 p2 (.tup [])) := same_upd n2
    have b2' := b2.same u2
    refine iteT ⟨_, rfl, _, rfl, .inr (.inl ⟨p, _, 3, .ref a4, rfl, rfl, same_seqT u2 hp2, atI_nat (j := 3) rfl, a4, xs4, rfl, .inr (same_seqT u2 (same_seqT (hide_same B H2) S4)), b, _, ss.length, by rw [l4]; rfl, by omega, by omega, b2', by omega, fun r3 H3 r30 r31 s3 b3 => ?_⟩)⟩
    have s23 := (SameX.of (B := [b]) u2).trans s3
    have hp3 := same_seqT (hide_same B H3) (same_seqT (s23.hide hsub) hp)
    have S33 := same_seqT (hide_same B H3) (same_seqT (s23.hide hsub) S3)
    have A33 := dps_same (s23.hide hsub) A3
    refine ⟨_, rfl, _, rfl, .inr (.inl ⟨p, _, 2, .ref a3, rfl, rfl, hp3, atI_nat (j := 2) rfl, by show 1 ≤ sizeLine; decide, fun p4 n4 => ?_⟩)⟩
    have u4 : Same H3 (upd H3 p4 (.tup [.non])) := same_upd n4
    refine ⟨a3, p4, xs3, [.non], rfl, rfl, same_seqT u4 S33, SqT.of upd_same, Nat.le_of_lt (small1000 (by show xs3.length + 1 ≤ 1000; omega)), fun z => absurd z (fun z => by rw [z] at l3; simp at l3; omega), (fun _ z => by cases z), fun _ _ p5 n5 => ?_⟩
    have u5 := u4.trans (same_upd (o := HO.tup (xs3 ++ [.non])) n5)
    have b5 := b3.same u5
    have p5b : p5 ≠ b := (b3.same u4).new n5
    refine ⟨b, _, .ref p5, rfl, b5, by omega, .inr ⟨[b], p5, _, rfl, List.mem_singleton.mpr rfl, .inr (SqT.of (by rw [hide_out (fun z => p5b (List.mem_singleton.mp z))]; exact upd_same)), by rw [List.length_append]; exact Nat.succ_pos _, by rw [List.length_append]; show xs3.length + 1 ≤ 1000; omega, fun i x H6 hx s6 b6 => ⟨by show 3 ≤ sizeLine; decide, fun p7 n7 => ?_⟩⟩⟩
    obtain ⟨j, rfl⟩ : ∃ j : Nat, r3 = j := ⟨r3.toNat, by omega⟩
    have s26 := s23.trans ((SameX.of u5).trans s6)
    rcases List.mem_append.mp (List.mem_of_getElem? hx) with m | m
    · obtain ⟨d, hd1, hd2⟩ := dps_mem A3 m
      obtain ⟨pn, hpn, rfl⟩ := List.mem_map.mp hd1
      exact fresh s26 b6 (by omega) n7 (.cons (.str _) (.cons (.int _) (.cons (dp_same (s26.hide hsub) hd2) .nil))) (.update (by omega) (.inr ⟨pn, hpn, rfl⟩))
    · rw [List.mem_singleton.mp m]
      exact fresh s26 b6 (by omega) n7 (.cons (.str _) (.cons (.int _) (.cons .non .nil))) (.update (by omega) (.inl rfl))
end
end KV

namespace KV
open PySem PySem.Spec PyProof.Rows L2 RZ
abbrev sEnded : Stmt := topS 15
theorem iteBF {b : Bool} {A B : Prop} (h : b = false) (x : B) : if b = true then A else B := by
  subst h
  exact iteF x
theorem iteBT {b : Bool} {A B : Prop} (h : b = true) (x : A) : if b = true then A else B := by
  subst h
  exact iteT x
/-- a drawn request that is no linktimeout, with its linktimeout; ln: some true is hard, some false link -/
structure It where
  tag : Str
  deed : PyData
  dr : Bool
  pk : Bool
  si : Bool
  ln : Option Bool
  timer : Option (Str × Int)
def lnWords : Option Bool → List Str
  | some true => ["hard"]
  | some false => ["link"]
  | none => []
def flagW (b : Bool) (x : Str) : List Str := if b then [x] else []
def wordsF (dr pk si : Bool) (ln : Option Bool) : List Str := flagW dr "drain" ++ (lnWords ln ++ (flagW pk "pick" ++ flagW si "silent"))
def itWords (it : It) : List Str := wordsF it.dr it.pk it.si it.ln
theorem offF (dr pk si : Bool) (ln : Option Bool) : (wordsF dr pk si ln).filter (fun x => !decide (x ∈ [Str.ofString "link", Str.ofString "hard"])) = wordsF dr pk si none := by
  rcases ln with _ | _ | _ <;> cases dr <;> cases pk <;> cases si <;> decide +kernel
theorem lenF (dr pk si : Bool) (ln : Option Bool) : (wordsF dr pk si ln).length ≤ 4 := by
  rcases ln with _ | _ | _ <;> cases dr <;> cases pk <;> cases si <;> decide +kernel
def itD (it : It) : PyData := .tuple [.str it.tag, it.deed, .tuple ((itWords it).map PyData.str)]
def tmD (t : Str × Int) : PyData := .tuple [.str t.1, .tuple [.str "linktimeout", .int t.2], .tuple []]
def tmDs : Option (Str × Int) → List PyData
  | none => []
  | some t => [tmD t]
def itDs (it : It) : List PyData := itD it :: tmDs it.timer
def lotDs (its : List It) : List PyData := its.flatMap itDs
def tmTags : Option (Str × Int) → List Str
  | none => []
  | some t => [t.1]
def itTags (it : It) : List Str := it.tag :: tmTags it.timer
def lotTags (its : List It) : List Str := its.flatMap itTags
def endIt (it : It) : It := if it.timer.isSome then it else { it with ln := none }
def wordD (w : Str) (d : PyData) : Prop := ∃ rest, d = .tuple (.str w :: rest)
theorem DeedD.word {ps : List Str} {m : Nat} {gs : List Str} {d : PyData} (h : DeedD ps m gs d) : ∃ w, wordD w d ∧ w ≠ Str.ofString "linktimeout" := by
  cases h <;> exact ⟨_, ⟨_, rfl⟩, by decide⟩
theorem off_words (it : It) : (itWords it).filter (fun x => !decide (x ∈ [Str.ofString "link", Str.ofString "hard"])) = itWords { it with ln := none } := offF _ _ _ _
theorem words_len (it : It) : (itWords it).length ≤ 4 := lenF _ _ _ _
theorem dps_strI {K : PySem.W.Frag} {H : Hp} : ∀ {xs : List V} {ss : List Str}, DpAll K H xs (ss.map PyData.str) → xs = ss.map V.str
  | [], [], _ => rfl
  | [], _ :: _, h => nomatch h
  | _ :: _, [], h => nomatch h
  | x :: xs, s :: ss, .cons h1 h2 => by
    cases h1
    rw [dps_strI h2]
    rfl
theorem dps_split {K : PySem.W.Frag} {H : Hp} : ∀ {ds es : List PyData} {xs : List V}, DpAll K H xs (ds ++ es) → ∃ ys zs, xs = ys ++ zs ∧ DpAll K H ys ds ∧ DpAll K H zs es
  | [], es, xs, h => ⟨[], xs, rfl, .nil, h⟩
  | d :: ds, es, xs, h => by
    cases h with
    | cons h1 h2 =>
      obtain ⟨ys, zs, rfl, h3, h4⟩ := dps_split h2
      exact ⟨_ :: ys, zs, rfl, .cons h1 h3, h4⟩
theorem dp_three {K : PySem.W.Frag} {H : Hp} {v : V} {a b c : PyData} (h : Dp K H v (.tuple [a, b, c])) : ∃ (p : Addr) (x y z : V), v = .ref p ∧ SqT K H p [x, y, z] ∧ Dp K H x a ∧ Dp K H y b ∧ Dp K H z c := by
  cases h with
  | tup h1 h2 =>
    cases h2 with
    | cons a1 a2 =>
      cases a2 with
      | cons b1 b2 =>
        cases b2 with
        | cons c1 c2 =>
          cases c2
          exact ⟨_, _, _, _, rfl, h1, a1, b1, c1⟩
theorem lotDs_snoc (its : List It) (it : It) : lotDs (its ++ [it]) = lotDs its ++ itDs it := by
  unfold lotDs
  rw [List.flatMap_append]
  show _ ++ (itDs it ++ []) = _
  rw [List.append_nil]
theorem lotTags_snoc (its : List It) (it : It) : lotTags (its ++ [it]) = lotTags its ++ itTags it := by
  unfold lotTags
  rw [List.flatMap_append]
  show _ ++ (itTags it ++ []) = _
  rw [List.append_nil]
section
variable {P : Program} {w : World} {K : PySem.W.Frag} {mg : Str → Option Value} {base : Heap}
/-! ### _law_ended -/
def spEnded (K : PySem.W.Frag) : Sp := fun vs H Q _ => ∃ (B : List Addr) (D : Addr) (xs : List V) (its : List It) (it : It) (wd : Str), vs = [.ref D] ∧ D ∈ B ∧ Live B H ∧ H D = some (.lst xs) ∧ DpAll K (hide B H) xs (lotDs (its ++ [it])) ∧ xs.length ≤ 500 ∧
  wordD wd it.deed ∧ wd ≠ Str.ofString "linktimeout" ∧ ∀ (v' : V) (H' : Hp), SameX [D] H H' → Dp K (hide B H') v' (.tuple (lotDs (its ++ [endIt it]))) → Q v' H'
abbrev nEnded : List Str := ["_law_batch", "_law_tag", "_law_deed_here", "_law_words", "_law_word"]
theorem scEnded : FnScope nEnded ["_law_batch"] (defScope sEnded) :=
  ⟨rfl, rfl, rfl, by decide +kernel, rfl, by decide +kernel, by decide +kernel⟩
theorem ok_ended {f : Addr} {fd : FuncData} {k : Nat} (F : Fun K "_law_ended" "_law_ended" sEnded f fd) (mt : mg "tuple" = none) : FnOk P w K mg base CX0 (k + 1) f fd ["_law_batch"] (spEnded K) := by
  refine F.ok scEnded (fun vs H Q E h => ?_) (fun cdv A outer s H vs Q E hr h => ?_)
  · obtain ⟨B, D, xs, its, it, wd, rfl, _⟩ := h
    rfl
  · obtain ⟨B, D, xs, its, it, wd, rfl, hD, lv, hx, hall, hl, hw, hwn, q⟩ := h
    refine ⟨_, pss_cons (ps_asg (pe_ix ix_seq (pv 0) (pe_un un_neg pe_int) (fun _ _ => rfl)) (pg_tup rfl (pgs_cons (pg_name (i := 1) scEnded.nd rfl (.inl rfl)) (pgs_cons (pg_name (i := 2) scEnded.nd rfl (.inl rfl)) (pgs_cons (pg_name (i := 3) scEnded.nd rfl (.inl rfl)) pgs_nil)))))
      (pss_cons (ps_if (pt_cmpR op_ne (pe_ix ix_seq (pv 2) pe_int (fun _ _ => rfl)) pe_str (nomark _))
        (pss_one (ps_asg (pe_tup (pa_cons (pv 1) (pa_cons (pv 2) (pa_cons (pe_callTy call_tuple_of (by rfl) mt PyProof.Rows.boot_tuple (pa_cons
            (pe_lc (own := [("_law_word", 4)]) (g := gName 4) rfl scEnded.nd (pi_tup (pv 3)) (blkOk_by (N := nEnded) (sc := defScope sEnded) (by decide +kernel))
              (fun _ _ _ _ _ => pg_name (i := 4) scEnded.nd rfl (Or.inl rfl)) (fun _ _ _ _ _ => pts_one (pt_cmpR (op_notInK (K := K) rfl) (pv 4) (pe_tup (pa_cons pe_str (pa_cons pe_str pa_nil))) (by rfl))) (fun _ _ _ _ _ => pv 4)) pa_nil)) pa_nil)))) (pg_sub (pv 0) (pe_un un_neg pe_int) set_list))) pss_nil)
      (pss_one (ps_ret (pe_callTy call_tuple_of (by rfl) mt PyProof.Rows.boot_tuple (pa_cons (pv 0) pa_nil))))), ?_⟩
    rw [lotDs_snoc] at hall
    obtain ⟨ys, zs, rfl, hy, hz⟩ := dps_split hall
    obtain ⟨rest, hwd⟩ := hw
    cases ht : it.timer with
    | some t =>
      unfold itDs at hz
      rw [ht] at hz
      have ee : endIt it = it := by
        unfold endIt
        rw [ht]
        rfl
      rw [ee, lotDs_snoc] at q
      have hall0 := hall
      cases hz with
      | cons z1 hz2 =>
        cases hz2 with
        | cons z2 z3 =>
          cases z3
          obtain ⟨p, x1, x2, x3, rfl, hp, e1, e2, e3⟩ := dp_three z2
          obtain ⟨a2, xs2, rfl, S2, A2⟩ := dp_tupR e2
          cases e1
          cases A2 with
          | cons f1 f2 =>
            cases f1
            rename_i x01 xs02
            have ea : ys ++ [x01, V.ref p] = (ys ++ [x01]) ++ [V.ref p] := by rw [List.append_assoc]; rfl
            refine ⟨_, rfl, _, rfl, .inl ⟨D, _, -1, .ref p, rfl, rfl, SqL.of hx, by rw [ea]; exact atI_last _ _, ?_⟩⟩
            refine ⟨p, _, rfl, same_seqT (hide_same B H) hp, rfl, _, _, rfl, _, _, rfl, _, _, rfl, rfl, ?_⟩
            refine ⟨_, rfl, .inr (.inl ⟨a2, _, 0, _, rfl, rfl, same_seqT (hide_same B H) S2, atI_nat (j := 0) rfl, rfl, _, rfl, iteNS rfl ?_⟩)⟩
            refine ⟨_, rfl, D, _, rfl, .inl ⟨SqL.of hx, fun p2 n2 => ?_⟩⟩
            exact q _ _ (SameX.of (same_upd n2)) (dp_new lv n2 hall0)
    | none =>
      unfold itDs at hz
      rw [ht] at hz
      replace hz : DpAll K (hide B H) zs [itD it] := hz
      have ee : endIt it = { it with ln := none } := by
        unfold endIt
        rw [ht]
        rfl
      have ei : itDs (endIt it) = [.tuple [.str it.tag, it.deed, .tuple (((itWords it).filter (fun x => !decide (x ∈ [Str.ofString "link", Str.ofString "hard"]))).map PyData.str)]] := by
        unfold itDs
        rw [ee, off_words]
        show _ :: tmDs it.timer = _
        rw [ht]
        rfl
      rw [lotDs_snoc, ei] at q
      have wl := words_len it
      cases hz with
      | cons z1 hz2 =>
        cases hz2
        obtain ⟨p, x1, x2, x3, rfl, hp, e1, e2, e3⟩ := dp_three z1
        have e20 := e2
        rw [hwd] at e2
        obtain ⟨a2, xs2, rfl, S2, A2⟩ := dp_tupR e2
        obtain ⟨a3, xs3, rfl, S3, A3⟩ := dp_tupR e3
        have e3' := dps_strI A3
        subst e3'
        generalize itWords it = ws at *
        cases e1
        cases A2 with
        | cons f1 f2 =>
          cases f1
          refine ⟨_, rfl, _, rfl, .inl ⟨D, _, -1, .ref p, rfl, rfl, SqL.of hx, atI_last _ _, ?_⟩⟩
          refine ⟨p, _, rfl, same_seqT (hide_same B H) hp, rfl, _, _, rfl, _, _, rfl, _, _, rfl, rfl, ?_⟩
          refine ⟨_, rfl, .inr (.inl ⟨a2, _, 0, _, rfl, rfl, same_seqT (hide_same B H) S2, atI_nat (j := 0) rfl, rfl, _, rfl, ?_⟩)⟩
          have ne : (!decide (V.str wd = V.str (Str.ofString "linktimeout"))) = true := by
            rw [decide_eq_false (fun z => hwn (V.str.inj z))]
            rfl
          have S3' := same_seqT (hide_same B H) S3
          refine iteBT ne ⟨_, rfl, _, rfl, _, rfl, a3, rfl, ⟨_, S3'⟩, fun D3 nD3 => lc_it (walk_tup (xs := ws.map V.str)) (fun j H5 => SameX [D3] H H5 ∧ H5 D3 = some (.lst (((ws.take j).filter fun x => !decide (x ∈ [Str.ofString "link", Str.ofString "hard"])).map V.str)))
            ⟨sameX_upd List.mem_cons_self, upd_same⟩ (fun j H5 _ z => ?_) ?_ ?_⟩
          · have s5 : Same H H5 := fun c o e => z.1 c o (fun y => ne_of_none e nD3 (List.mem_singleton.mp y)) e
            exact same_seqT s5 S3'
          · rintro j x H5 H5' hj ⟨s5, hD5⟩ ⟨rfl, hx'⟩
            rw [List.getElem?_map] at hx'
            obtain ⟨y, hy', rfl⟩ := Option.map_eq_some_iff.mp hx'
            refine ⟨rfl, _, rfl, by show 2 ≤ sizeLine; decide, fun t nt => ⟨t, _, rfl, .inr (SqT.of upd_same), rfl, flat_strs [Str.ofString "link", Str.ofString "hard"], _, rfl, ?_⟩⟩
            have hin : inV (.str y) [V.str (Str.ofString "link"), V.str (Str.ofString "hard")] = decide (y ∈ [Str.ofString "link", Str.ofString "hard"]) := in_strs y [Str.ofString "link", Str.ofString "hard"]
            rw [hin, if_pos rfl]
            have ef : (ws.take (j + 1)).filter (fun x => !decide (x ∈ [Str.ofString "link", Str.ofString "hard"])) = (ws.take j).filter (fun x => !decide (x ∈ [Str.ofString "link", Str.ofString "hard"])) ++ (if (!decide (y ∈ [Str.ofString "link", Str.ofString "hard"])) = true then [y] else []) := by
              rw [take_snoc hy', List.filter_append, List.filter_cons, List.filter_nil]
            have st : Same H5' (upd H5' t (.tup [V.str (Str.ofString "link"), V.str (Str.ofString "hard")])) := same_upd nt
            have hDt := st _ _ hD5
            cases hk : (!decide (y ∈ [Str.ofString "link", Str.ofString "hard"])) with
            | true =>
              rw [hk] at ef
              refine iteT ⟨_, rfl, _, hDt, small1000 ?_, (s5.trans (SameX.of st)).trans (sameX_upd List.mem_cons_self), ?_⟩
              · rw [List.length_map]
                have h1 := List.length_filter_le (fun x => !decide (x ∈ [Str.ofString "link", Str.ofString "hard"])) (ws.take j)
                rw [List.length_take] at h1
                omega
              · rw [upd_same, ef, List.map_append]
                rfl
            | false =>
              rw [hk] at ef
              refine iteF ⟨s5.trans (SameX.of st), ?_⟩
              rw [hDt, ef]
              exact congrArg _ (congrArg _ (by simp))
          · rintro H5 ⟨s5, hD5⟩
            rw [List.length_map, List.take_length] at hD5
            have s05 : Same H H5 := fun c o e => s5 c o (fun y => ne_of_none e nD3 (List.mem_singleton.mp y)) e
            generalize ws.filter (fun x => !decide (x ∈ [Str.ofString "link", Str.ofString "hard"])) = wz at *
            refine ⟨D3, _, rfl, .inl ⟨SqL.of hD5, fun p4 n4 => ⟨by show 3 ≤ sizeLine; decide, fun p5 n5 => ?_⟩⟩⟩
            have u4 : Same H5 (upd H5 p4 (.tup (wz.map V.str))) := same_upd n4
            have u5 : Same (upd H5 p4 (.tup (wz.map V.str))) (upd (upd H5 p4 (.tup (wz.map V.str))) p5 (.tup [.str it.tag, .ref a2, .ref p4])) := same_upd n5
            have s04 := s05.trans u4
            have k4 : Dp K (hide B (upd H5 p4 (.tup (wz.map V.str)))) (.ref p4) (.tuple (wz.map PyData.str)) := dp_new (lv.same s05) n4 (dps_strs wz)
            have k5 : Dp K (hide B (upd (upd H5 p4 (.tup (wz.map V.str))) p5 (.tup [.str it.tag, .ref a2, .ref p4]))) (.ref p5) (.tuple [.str it.tag, it.deed, .tuple (wz.map PyData.str)]) :=
              dp_new (lv.same s04) n5 (.cons (.str _) (.cons (dp_same (hide_of_same s04) e20) (.cons k4 .nil)))
            have s06 := s04.trans u5
            generalize upd (upd H5 p4 (.tup (wz.map V.str))) p5 (.tup [.str it.tag, .ref a2, .ref p4]) = H6 at *
            have hx6 := s06 _ _ hx
            refine ⟨_, rfl, _, rfl, D, _, -1, ys.length, rfl, rfl, hx6, ?_, ?_⟩
            · have hl : (ys ++ [V.ref p]).length = ys.length + 1 := by simp
              unfold ixN
              rw [hl]
              rw [if_neg (by decide), if_pos (by omega)]
              exact congrArg some (by omega)
            · have es : (ys ++ [V.ref p]).set ys.length (.ref p5) = ys ++ [.ref p5] := by simp
              rw [es]
              refine ⟨_, rfl, D, _, rfl, .inl ⟨SqL.of upd_same, fun p7 n7 => ?_⟩⟩
              have lv6 := lv.same s06
              refine q _ _ ((SameX.of s06).trans ((sameX_upd List.mem_cons_self).trans (SameX.of (same_upd n7)))) (dp_new lv6.upd n7 ?_)
              rw [hide_upd_in hD]
              exact dps_app (dps_same (hide_of_same s06) hy) (.cons k5 .nil)
end
end KV

namespace KV
open PySem PySem.Spec PyProof.Rows L2 RZ
theorem seq_named {A u : TS} {D : Ends} {σ : L2.St} {H : Hp} (P : L2.St → Hp → Prop) (h1 : (∀ σ' H', P σ' H' → u D σ' H') → A { D with nx := u D } σ H) (h2 : ∀ σ' H', P σ' H' → u D σ' H') : tSeq A u D σ H := h1 h2
theorem op_inK {X : Cx} {K : PySem.W.Frag} (h : X.K = K) : OpR X (compareOp .In) (rIn K false) := by
  subst h
  exact op_in_seq
def rInT2 (K : PySem.W.Frag) : R2 := fun x y H Q => ∃ d ds, Dp K H x d ∧ Dp K H y (.tuple ds) ∧ PyData.canLayAll0 ds = true ∧ d.canLay0 = true ∧ PyData.depthAll ds ≤ 60 ∧ Q (.bl (ds.any fun z => PyData.eqv z d)) H
theorem op_inT2 {X : Cx} {K : PySem.W.Frag} (hK : X.K = K) (hu : X.A.units + 64 < cLine) : OpR X (compareOp .In) (rInT2 K) := by
  subst hK
  intro pins s σ H x y v u Q I rx ry h
  obtain ⟨d, ds, hd, he, c1, c2, d0, q⟩ := h
  obtain ⟨as, r1⟩ := Dp.reads I d x v hd rx
  obtain ⟨bs, r2⟩ := Dp.reads I (.tuple ds) y u he ry
  refine SeqAt.in_tuple_reads r2 r1 c1 c2 ?_ ⟨.bl _, H, I, rfl, q⟩
  have := Nat.min_le_left (PyData.depthAll ds) d.depth
  omega
theorem silent_of {ps : List Str} {m : Nat} {gs : List Str} {d : PyData} (h : DeedD ps m gs d) (e : ([PyData.tuple [.str "nop"], PyData.tuple [.str "work", .bool true]].any fun z => PyData.eqv z d) = true) : d = .tuple [.str "nop"] ∨ d = .tuple [.str "work", .bool true] := by
  cases h with
  | nop => exact .inl rfl
  | work g =>
    cases g with
    | true => exact .inr rfl
    | false => exact absurd e (by decide)
  | read h1 h2 h3 => exact absurd (show false = true from e) (by decide)
  | reads h1 h2 h3 => exact absurd (show false = true from e) (by decide)
  | write h1 h2 h3 => exact absurd (show false = true from e) (by decide)
  | shut h1 => exact absurd (show false = true from e) (by decide)
  | timeout h1 h2 => exact absurd (show false = true from e) (by decide)
  | update h1 h2 => exact absurd (show false = true from e) (by decide)
  | cancel h1 => exact absurd (show false = true from e) (by decide)
  | cancelall => exact absurd e (by decide)
end KV

namespace KV
open PySem PySem.Spec PyProof.Rows L2 RZ
abbrev sLot : Stmt := topS 16
theorem box_upd {H : Hp} {b a : Addr} {n : Nat} {o : HO} (h : BoxAt H b n) (ne : b ≠ a) : BoxAt (upd H a o) b n := by
  obtain ⟨x, y, c, z, z2⟩ := h
  exact ⟨x, y, c, by rw [upd_ne ne]; exact z, z2⟩
theorem nm_upd {H : Hp} {b a : Addr} {gs : List Str} {o : HO} (h : NmAt H b gs) (ne : b ≠ a) : NmAt (upd H a o) b gs := by
  show upd H a o b = _
  rw [upd_ne ne]
  exact h
theorem lst_upd {H : Hp} {b a : Addr} {xs : List V} {o : HO} (h : H b = some (.lst xs)) (ne : b ≠ a) : (upd H a o) b = some (.lst xs) := by
  rw [upd_ne ne]
  exact h
/-- the places of a lot that is being drawn -/
structure LOk (L : List Addr) (b T G D : Addr) (H0 : Hp) : Prop where
  hb : b ∈ L
  hT : T ∈ L
  hG : G ∈ L
  hD : D ∈ L
  TG : T ≠ G
  Tb : T ≠ b
  Gb : G ≠ b
  Db : D ≠ b
  DT : D ≠ T
  DG : D ≠ G
  nD : H0 D = none
/-- what stands there -/
structure LF (K : PySem.W.Frag) (L : List Addr) (b T G D : Addr) (v : V) (ps : List Str) (ss : List PyData) (H0 H : Hp) (n : Nat) (ws gs : List Str) (xs : List V) (ds : List PyData) : Prop where
  sx : SameX [b, T, G] H0 H
  bx : BoxAt H b n
  tn : NmAt H T ws
  gn : NmAt H G gs
  bt : H D = some (.lst xs)
  dx : DpAll K (hide L H) xs ds
  se : SetH K (hide L H) v ps ss
  lv : Live L H
section
variable {K : PySem.W.Frag} {L : List Addr} {b T G D : Addr} {v : V} {ps : List Str} {ss : List PyData} {H0 H H' : Hp} {n : Nat} {ws gs : List Str} {xs : List V} {ds : List PyData}
theorem live_upd {B : List Addr} {H : Hp} {p : Addr} {o : HO} (h : Live B H) : Live B (upd H p o) := h.upd
theorem LF.box (o : LOk L b T G D H0) (h : LF K L b T G D v ps ss H0 H n ws gs xs ds) {m : Nat} (s : SameX [b] H H') (bx : BoxAt H' b m) : LF K L b T G D v ps ss H0 H' m ws gs xs ds := by
  have hs : ∀ c ∈ [b], c ∈ L := fun c hc => by rw [List.mem_singleton.mp hc]; exact o.hb
  refine ⟨h.sx.trans (s.sub fun c hc => by rw [List.mem_singleton.mp hc]; exact List.mem_cons_self), bx, h.tn.up h.bx s, h.gn.up h.bx s, s _ _ (fun z => o.Db (List.mem_singleton.mp z)) h.bt, dps_same (s.hide hs) h.dx, h.se.same (s.hide hs), ?_⟩
  exact s.live h.lv fun c hc => by rw [List.mem_singleton.mp hc]; exact bx.live
theorem LF.alloc (h : LF K L b T G D v ps ss H0 H n ws gs xs ds) (s : Same H H') : LF K L b T G D v ps ss H0 H' n ws gs xs ds :=
  ⟨h.sx.trans (SameX.of s), h.bx.same s, s _ _ h.tn, s _ _ h.gn, s _ _ h.bt, dps_same (hide_of_same s) h.dx, h.se.same (hide_of_same s), h.lv.same s⟩
theorem LF.other (o : LOk L b T G D H0) (h : LF K L b T G D v ps ss H0 H n ws gs xs ds) {W : Addr} {ho : HO} (hW : W ∈ L) (nW : H0 W = none) (Wb : b ≠ W) (WT : T ≠ W) (WG : G ≠ W) (WD : D ≠ W) : LF K L b T G D v ps ss H0 (upd H W ho) n ws gs xs ds :=
  ⟨sameX_old (D := W) (B := [b, T, G]) ((h.sx.sub fun c hc => List.mem_cons_of_mem _ hc).trans (sameX_upd List.mem_cons_self)) nW, box_upd h.bx Wb, nm_upd h.tn WT, nm_upd h.gn WG, lst_upd h.bt WD, by rw [hide_upd_in hW]; exact h.dx, by rw [hide_upd_in hW]; exact h.se, h.lv.upd⟩
theorem LF.pop (o : LOk L b T G D H0) {t : Str} (h : LF K L b T G D v ps ss H0 H n (t :: ws) gs xs ds) : LF K L b T G D v ps ss H0 (upd H T (.lst (ws.map V.str))) n ws gs xs ds :=
  ⟨h.sx.trans (sameX_upd (List.mem_cons_of_mem _ List.mem_cons_self)), box_upd h.bx o.Tb.symm, upd_same, nm_upd h.gn o.TG.symm, lst_upd h.bt o.DT, by rw [hide_upd_in o.hT]; exact h.dx, by rw [hide_upd_in o.hT]; exact h.se, h.lv.upd⟩
theorem LF.gone (o : LOk L b T G D H0) (h : LF K L b T G D v ps ss H0 H n ws gs xs ds) (t : Str) : LF K L b T G D v ps ss H0 (upd H G (.lst (gs.map V.str ++ [.str t]))) n ws (gs ++ [t]) xs ds :=
  ⟨h.sx.trans (sameX_upd (List.mem_cons_of_mem _ (List.mem_cons_of_mem _ List.mem_cons_self))), box_upd h.bx o.Gb.symm, nm_upd h.tn o.TG, by show upd _ _ _ _ = _; rw [upd_same, List.map_append]; rfl, lst_upd h.bt o.DG, by rw [hide_upd_in o.hG]; exact h.dx, by rw [hide_upd_in o.hG]; exact h.se, h.lv.upd⟩
theorem LF.batch (o : LOk L b T G D H0) (h : LF K L b T G D v ps ss H0 H n ws gs xs ds) {x : V} {d : PyData} (hx : Dp K (hide L H) x d) : LF K L b T G D v ps ss H0 (upd H D (.lst (xs ++ [x]))) n ws gs (xs ++ [x]) (ds ++ [d]) :=
  ⟨sameX_old (D := D) (B := [b, T, G]) ((h.sx.sub fun c hc => List.mem_cons_of_mem _ hc).trans (sameX_upd List.mem_cons_self)) o.nD, box_upd h.bx o.Db.symm, nm_upd h.tn o.DT.symm, nm_upd h.gn o.DG.symm, upd_same, by rw [hide_upd_in o.hD]; exact dps_snoc h.dx hx, by rw [hide_upd_in o.hD]; exact h.se, h.lv.upd⟩
/-- a further hidden object -/
theorem LF.enter (h : LF K L b T G D v ps ss H0 H n ws gs xs ds) {W : Addr} {ho : HO} (nW : H W = none) : LF K (W :: L) b T G D v ps ss H0 (upd H W ho) n ws gs xs ds := by
  have s : Same H (upd H W ho) := same_upd nW
  have e : Same (hide L H) (hide (W :: L) (upd H W ho)) := SameX.enter (C := []) (sameX_upd List.mem_cons_self) (fun _ z => absurd z List.not_mem_nil) nW
  exact ⟨h.sx.trans (SameX.of s), h.bx.same s, s _ _ h.tn, s _ _ h.gn, s _ _ h.bt, dps_same e h.dx, h.se.same e, (h.lv.same s).cons (o := ho) upd_same⟩
theorem LF.leave {W : Addr} (h : LF K (W :: L) b T G D v ps ss H0 H n ws gs xs ds) : LF K L b T G D v ps ss H0 H n ws gs xs ds :=
  ⟨h.sx, h.bx, h.tn, h.gn, h.bt, dps_same hide_leave h.dx, h.se.same hide_leave, h.lv.tail⟩
theorem LOk.more (o : LOk L b T G D H0) (W : Addr) : LOk (W :: L) b T G D H0 :=
  ⟨List.mem_cons_of_mem _ o.hb, List.mem_cons_of_mem _ o.hT, List.mem_cons_of_mem _ o.hG, List.mem_cons_of_mem _ o.hD, o.TG, o.Tb, o.Gb, o.Db, o.DT, o.DG, o.nD⟩
/-- what is new now was new at the start -/
theorem LF.new (h : LF K L b T G D v ps ss H0 H n ws gs xs ds) {W : Addr} (nW : H W = none) : H0 W = none ∧ b ≠ W ∧ T ≠ W ∧ G ≠ W ∧ D ≠ W := by
  have hb : b ≠ W := fun e => h.bx.live (e ▸ nW)
  have hT : T ≠ W := fun e => by have := h.tn; unfold NmAt at this; rw [e, nW] at this; cases this
  have hG : G ≠ W := fun e => by have := h.gn; unfold NmAt at this; rw [e, nW] at this; cases this
  have hD : D ≠ W := fun e => by have := h.bt; rw [e, nW] at this; cases this
  refine ⟨?_, hb, hT, hG, hD⟩
  cases e : H0 W with
  | none => rfl
  | some o =>
    have := h.sx W o (fun z => ?_) e
    · rw [nW] at this; cases this
    · rcases List.mem_cons.mp z with z | z
      · exact hb z.symm
      rcases List.mem_cons.mp z with z | z
      · exact hT z.symm
      · exact hG (List.mem_singleton.mp z).symm
end
/-! ### what a drawn lot is -/
structure ItOk (ps : List Str) (m : Nat) (gs : List Str) (it : It) : Prop where
  deed : DeedD ps m gs it.deed
  tag : wordS it.tag = true
  pk : it.pk = true → ∃ w rest, it.deed = .tuple (.str w :: rest) ∧ w ∈ [Str.ofString "read", Str.ofString "reads"]
  si : it.si = true → it.deed = .tuple [.str "nop"] ∨ it.deed = .tuple [.str "work", .bool true]
  tm : ∀ t, it.timer = some t → it.ln.isSome = true ∧ wordS t.1 = true ∧ 0 ≤ t.2 ∧ t.2 ≤ 8
def openLast (its : List It) : Prop := its = [] ∨ ∃ p, its.getLast? = some p ∧ p.ln = none
structure LotOk (ps : List Str) (m : Nat) (gs : List Str) (its : List It) : Prop where
  ok : ∀ i it, its[i]? = some it → ItOk ps m (gs ++ lotTags (its.take i)) it
  fst : ∀ i it, its[i]? = some it → it.dr = true → openLast (its.take i)
theorem LotOk.nil {ps : List Str} {m : Nat} {gs : List Str} : LotOk ps m gs [] := ⟨fun i it h => (by simp at h), fun i it h => (by simp at h)⟩
theorem LotOk.snoc {ps : List Str} {m : Nat} {gs : List Str} {its : List It} {it : It} (h : LotOk ps m gs its) (h1 : ItOk ps m (gs ++ lotTags its) it) (h2 : it.dr = true → openLast its) : LotOk ps m gs (its ++ [it]) := by
  have key : ∀ i x, (its ++ [it])[i]? = some x → (its[i]? = some x ∧ (its ++ [it]).take i = its.take i) ∨ (x = it ∧ (its ++ [it]).take i = its) := by
    intro i x e
    by_cases hi : i < its.length
    · rw [List.getElem?_append_left hi] at e
      exact .inl ⟨e, by rw [List.take_append_of_le_length (by omega)]⟩
    · have hle := (List.getElem?_eq_some_iff.mp e).1
      rw [List.length_append] at hle
      have hi2 : i = its.length := by
        have : [it].length = 1 := rfl
        omega
      subst hi2
      simp at e
      exact .inr ⟨e.symm, by simp⟩
  refine ⟨fun i x e => ?_, fun i x e hd => ?_⟩
  · rcases key i x e with ⟨e1, e2⟩ | ⟨e1, e2⟩
    · rw [e2]; exact h.ok i x e1
    · rw [e2, e1]; exact h1
  · rcases key i x e with ⟨e1, e2⟩ | ⟨e1, e2⟩
    · rw [e2]; exact h.fst i x e1 hd
    · rw [e2]; rw [e1] at hd; exact h2 hd
/-- with its last member without link and hard, unless a linktimeout stands behind it -/
structure LotFin (ps : List Str) (m : Nat) (gs : List Str) (its : List It) : Prop where
  lot : LotOk ps m gs its
  ne : its ≠ []
  last : ∀ p, its.getLast? = some p → p.ln.isSome = true → p.timer.isSome = true
theorem LotOk.init {ps : List Str} {m : Nat} {gs : List Str} {its : List It} {it : It} (h : LotOk ps m gs (its ++ [it])) : LotOk ps m gs its ∧ ItOk ps m (gs ++ lotTags its) it ∧ (it.dr = true → openLast its) := by
  have e1 : ∀ i x, its[i]? = some x → (its ++ [it])[i]? = some x ∧ (its ++ [it]).take i = its.take i := by
    intro i x e
    have hi := (List.getElem?_eq_some_iff.mp e).1
    exact ⟨by rw [List.getElem?_append_left hi]; exact e, by rw [List.take_append_of_le_length (by omega)]⟩
  have e2 : (its ++ [it])[its.length]? = some it ∧ (its ++ [it]).take its.length = its := by simp
  refine ⟨⟨fun i x e => ?_, fun i x e hd => ?_⟩, ?_, fun hd => ?_⟩
  · have := h.ok i x (e1 i x e).1
    rw [(e1 i x e).2] at this
    exact this
  · have := h.fst i x (e1 i x e).1 hd
    rw [(e1 i x e).2] at this
    exact this
  · have := h.ok _ it e2.1
    rw [e2.2] at this
    exact this
  · have := h.fst _ it e2.1 hd
    rw [e2.2] at this
    exact this
theorem LotOk.fin {ps : List Str} {m : Nat} {gs : List Str} {its : List It} {it : It} (h : LotOk ps m gs (its ++ [it])) : LotFin ps m gs (its ++ [endIt it]) := by
  obtain ⟨h1, h2, h3⟩ := h.init
  cases ht : it.timer with
  | some t =>
    have ee : endIt it = it := by unfold endIt; rw [ht]; rfl
    rw [ee]
    refine ⟨h, by simp, fun p hp _ => ?_⟩
    simp at hp
    rw [← hp, ht]
    rfl
  | none =>
    have ee : endIt it = { it with ln := none } := by unfold endIt; rw [ht]; rfl
    rw [ee]
    refine ⟨h1.snoc ⟨h2.deed, h2.tag, h2.pk, h2.si, fun t e => ?_⟩ h3, by simp, fun p hp hl => ?_⟩
    · rw [ht] at e
      cases e
    · simp at hp
      rw [← hp] at hl
      cases hl
theorem endTags (it : It) : itTags (endIt it) = itTags it := by
  unfold endIt
  split <;> rfl
end KV

namespace KV
open PySem PySem.Spec PyProof.Rows L2 RZ
/-- small numbers, short texts -/
def lf4 : PyData → Bool
  | .int i => decide (i.natAbs < 10 ^ 8)
  | .str x => decide (x.length ≤ 60) && x.cps.toList.all fun c => decide (c < 1114112)
  | _ => false
theorem lf42 : ∀ d, lf4 d = true → lf2 d = true
  | .int i, h => by
    have h1 : i.natAbs < 10 ^ 8 := of_decide_eq_true h
    show decide (i.natAbs < 10 ^ 31) = true
    rw [decide_eq_true_eq]
    omega
  | .str x, h => h
mutual
theorem gD_fact4 {L : Nat} : ∀ (d : PyData) (n : Nat), gD lf4 L d n = true → d.leavesShort 10 = true
  | .list xs, n, h => by
    obtain ⟨m, rfl, _, h2⟩ := gD_seq (.inl rfl) h
    simpa only [PyData.leavesShort] using gDs_fact4 xs m h2
  | .tuple xs, n, h => by
    obtain ⟨m, rfl, _, h2⟩ := gD_seq (.inr rfl) h
    simpa only [PyData.leavesShort] using gDs_fact4 xs m h2
  | .none, n, _ => rfl
  | .bool _, n, _ => rfl
  | .int i, n, h => by
    have h1 : i.natAbs < 10 ^ 8 := of_decide_eq_true (show decide (i.natAbs < 10 ^ 8) = true by simp only [gD] at h; exact h)
    show decide ((PyData.shown (.int i)).length ≤ 10) = true
    rw [decide_eq_true_eq]
    have e := int_text_length_le10 (k := 8) (by decide) h1
    show (Str.ofString (toString i)).length ≤ 10
    rw [ofs_len]
    omega
  | .str x, n, h => by
    have h1 : (decide (x.length ≤ 60) && x.cps.toList.all fun c => decide (c < 1114112)) = true := by simp only [gD] at h; exact h
    rw [Bool.and_eq_true] at h1
    show (x.cps.toList.all fun c => decide (c < 16 ^ 8)) = true
    have h2 := h1.2
    rw [List.all_eq_true] at h2 ⊢
    intro c hc
    have h3 := of_decide_eq_true (h2 c hc)
    exact decide_eq_true (by omega)
  | .dict _, n, h => by simp [gD] at h
theorem gDs_fact4 {L : Nat} : ∀ (ds : List PyData) (n : Nat), gDs lf4 L ds n = true → PyData.leavesShortAll 10 ds = true
  | [], n, _ => rfl
  | d :: ds, n, h => by
    simp only [gDs, Bool.and_eq_true] at h
    simp only [PyData.leavesShortAll, gD_fact4 d n h.1, gDs_fact4 ds n h.2, Bool.and_self]
end
theorem word_good4 {L n : Nat} {x : Str} (h : wordS x = true) : gD lf4 L (.str x) n = true := word_good (L := L) (n := n) h
theorem words_good4 {L n : Nat} {gs : List Str} (h : ∀ g ∈ gs, wordS g = true) : gDs lf4 L (gs.map PyData.str) n = true := by
  rw [gDs_all, List.all_eq_true]
  intro e he
  obtain ⟨g, hg, rfl⟩ := List.mem_map.mp he
  exact word_good4 (h g hg)
theorem small_good {L n : Nat} {i : Int} (h0 : 0 ≤ i) (h : i ≤ 1000) : gD lf4 L (.int i) n = true := by
  simp only [gD]
  exact decide_eq_true (by omega)
theorem tup_good {L m : Nat} {xs : List PyData} (h1 : xs.length ≤ L) (h2 : ∀ e ∈ xs, gD lf4 L e m = true) : gD lf4 L (.tuple xs) (m + 1) = true := (gD_mk h1 (by rw [gDs_all, List.all_eq_true]; exact h2)).2
theorem mem2 {P : PyData → Prop} {a b : PyData} (h1 : P a) (h2 : P b) : ∀ e ∈ [a, b], P e := by
  intro e he
  rcases List.mem_cons.mp he with rfl | he
  · exact h1
  · rw [List.mem_singleton.mp he]; exact h2
theorem mem3 {P : PyData → Prop} {a b c : PyData} (h1 : P a) (h2 : P b) (h3 : P c) : ∀ e ∈ [a, b, c], P e := by
  intro e he
  rcases List.mem_cons.mp he with rfl | he
  · exact h1
  · exact mem2 h2 h3 e he
theorem mem1 {P : PyData → Prop} {a : PyData} (h1 : P a) : ∀ e ∈ [a], P e := fun e he => by rw [List.mem_singleton.mp he]; exact h1
theorem where_good4 {ps : List Str} {m : Nat} {d : PyData} (h : WhereD ps m d) (hm : m ≤ 5) (wp : ∀ p ∈ ps, wordS p = true) : gD lf4 5 d 2 = true := by
  rcases h with ⟨i, hi, rfl⟩ | ⟨x, hx, rfl⟩
  · exact tup_good (by show 2 ≤ 5; decide) (mem2 (by decide) (small_good (by omega) (by omega)))
  · exact tup_good (by show 2 ≤ 5; decide) (mem2 (by decide) (word_good4 (wp x hx)))
theorem deed_good4 {ps : List Str} {m : Nat} {gs : List Str} {d : PyData} (h : DeedD ps m gs d) (hm : m ≤ 5) (wp : ∀ p ∈ ps, wordS p = true) (wg : ∀ g ∈ gs, wordS g = true) : gD lf4 5 d 3 = true := by
  cases h with
  | read h1 h2 h3 => exact tup_good (by show 3 ≤ 5; decide) (mem3 (by decide) (where_good4 h1 hm wp) (small_good (by omega) (by omega)))
  | reads h1 h2 h3 => exact tup_good (by show 3 ≤ 5; decide) (mem3 (by decide) (where_good4 h1 hm wp) (small_good (by omega) (by omega)))
  | write h1 h2 h3 => exact tup_good (by show 3 ≤ 5; decide) (mem3 (by decide) (where_good4 h1 hm wp) (word_good4 h2))
  | shut h1 => exact tup_good (by show 2 ≤ 5; decide) (mem2 (by decide) (where_good4 h1 hm wp))
  | timeout h1 h2 => exact tup_good (by show 2 ≤ 5; decide) (mem2 (by decide) (small_good (by omega) (by omega)))
  | work g => exact tup_good (by show 2 ≤ 5; decide) (mem2 (by decide) (by simp only [gD]))
  | update h1 h2 =>
    rcases h2 with rfl | ⟨p, hp, rfl⟩
    · exact tup_good (by show 3 ≤ 5; decide) (mem3 (by decide) (small_good (by omega) (by omega)) (by simp only [gD]))
    · exact tup_good (by show 3 ≤ 5; decide) (mem3 (by decide) (small_good (by omega) (by omega)) (word_good4 (wp p hp)))
  | cancel h1 => exact tup_good (by show 2 ≤ 5; decide) (mem2 (by decide) (word_good4 (wg _ h1)))
  | cancelall => decide +kernel
  | nop => decide +kernel
theorem deed_good {ps : List Str} {m : Nat} {gs : List Str} {d : PyData} (h : DeedD ps m gs d) (hm : m ≤ 5) (wp : ∀ p ∈ ps, wordS p = true) (wg : ∀ g ∈ gs, wordS g = true) : gD lf2 5 d 3 = true := gD_mono lf42 (Nat.le_refl 5) d 3 3 (Nat.le_refl 3) (deed_good4 h hm wp wg)
theorem flagWord {b : Bool} {x : Str} (h : wordS x = true) : ∀ y ∈ flagW b x, wordS y = true := by
  intro y hy
  cases b with
  | true => rw [List.mem_singleton.mp hy]; exact h
  | false => exact absurd hy List.not_mem_nil
theorem itWords_word (it : It) : ∀ y ∈ itWords it, wordS y = true := by
  intro y hy
  unfold itWords wordsF at hy
  simp only [List.mem_append] at hy
  rcases hy with h | h | h | h
  · exact flagWord (by decide +kernel) y h
  · cases hl : it.ln with
    | none => rw [hl] at h; exact absurd h List.not_mem_nil
    | some c =>
      rw [hl] at h
      cases c with
      | true => rw [List.mem_singleton.mp h]; decide +kernel
      | false => rw [List.mem_singleton.mp h]; decide +kernel
  · exact flagWord (by decide +kernel) y h
  · exact flagWord (by decide +kernel) y h
theorem itD_good4 {it : It} {ps : List Str} {m : Nat} {gs : List Str} (h : ItOk ps m gs it) (hm : m ≤ 5) (wp : ∀ p ∈ ps, wordS p = true) (wg : ∀ g ∈ gs, wordS g = true) : gDs lf4 5 (itDs it) 4 = true := by
  have h1 : gD lf4 5 (itD it) 4 = true := tup_good (by show 3 ≤ 5; decide) (mem3 (word_good4 h.tag) (deed_good4 h.deed hm wp wg) (gD_mk (m := 2) (by rw [List.length_map]; have := words_len it; omega) (words_good4 (itWords_word it))).2)
  unfold itDs
  cases ht : it.timer with
  | none =>
    show gDs lf4 5 [itD it] 4 = true
    simp only [gDs, h1, Bool.and_self]
  | some t =>
    obtain ⟨_, t1, t2, t3⟩ := h.tm t ht
    have h2 : gD lf4 5 (tmD t) 4 = true := tup_good (by show 3 ≤ 5; decide) (mem3 (word_good4 t1) (tup_good (by show 2 ≤ 5; decide) (mem2 (by decide) (small_good t2 (by omega)))) (by decide))
    show gDs lf4 5 [itD it, tmD t] 4 = true
    simp only [gDs, h1, h2, Bool.and_self]
theorem lotDs_len (its : List It) : (lotDs its).length ≤ 2 * its.length := by
  induction its with
  | nil => exact Nat.le_refl _
  | cons it its ih =>
    show (itDs it ++ lotDs its).length ≤ _
    have : (itDs it).length ≤ 2 := by
      unfold itDs tmDs
      cases it.timer <;> simp
    rw [List.length_append, List.length_cons]
    omega
theorem itTags_word {it : It} {ps : List Str} {m : Nat} {gs : List Str} (h : ItOk ps m gs it) : ∀ y ∈ itTags it, wordS y = true := by
  intro y hy
  unfold itTags at hy
  rcases List.mem_cons.mp hy with rfl | hy
  · exact h.tag
  · cases ht : it.timer with
    | none => rw [ht] at hy; exact absurd hy List.not_mem_nil
    | some t => rw [ht] at hy; rw [List.mem_singleton.mp hy]; exact (h.tm t ht).2.1
end KV

namespace KV
open PySem PySem.Spec PyProof.Rows L2 RZ
theorem sortedF {dr pk si : Bool} {ln : Option Bool} {ys : List Str} (pm : ys.Perm (flagW dr "drain" ++ flagW pk "pick" ++ flagW si "silent" ++ lnWords ln)) (hs : sortedS ys = true) : ys = wordsF dr pk si ln := by
  have e : (flagW dr "drain" ++ flagW pk "pick" ++ flagW si "silent" ++ lnWords ln).Nodup ∧ ascS (wordsF dr pk si ln) = true ∧ ∀ x, x ∈ flagW dr "drain" ++ flagW pk "pick" ++ flagW si "silent" ++ lnWords ln ↔ x ∈ wordsF dr pk si ln := by
    refine ⟨?_, ?_, fun x => ?_⟩
    · rcases ln with _ | _ | _ <;> cases dr <;> cases pk <;> cases si <;> decide +kernel
    · rcases ln with _ | _ | _ <;> cases dr <;> cases pk <;> cases si <;> decide +kernel
    · unfold wordsF
      simp only [List.mem_append]
      constructor
      · rintro (((h | h) | h) | h) <;> simp only [h, true_or, or_true]
      · rintro (h | h | h | h) <;> simp only [h, true_or, or_true]
  exact strict_eq _ _ (strict_of (sorted_pw hs) (pm.nodup_iff.mpr e.1)) (ascS_pw _ e.2.1) fun x => (pm.mem_iff).trans (e.2.2 x)
theorem tagsLen (its : List It) : (lotTags its).length ≤ 2 * its.length := by
  induction its with
  | nil => exact Nat.le_refl _
  | cons it its ih =>
    show (itTags it ++ lotTags its).length ≤ _
    have : (itTags it).length ≤ 2 := by
      unfold itTags tmTags
      cases it.timer <;> simp
    rw [List.length_append, List.length_cons]
    omega
theorem LF.le {K : PySem.W.Frag} {L : List Addr} {b T G D : Addr} {v : V} {ps : List Str} {ss : List PyData} {H0 H : Hp} {n m : Nat} {ws gs : List Str} {xs : List V} {ds : List PyData} (h : LF K L b T G D v ps ss H0 H n ws gs xs ds) (k : n ≤ m) : LF K L b T G D v ps ss H0 H m ws gs xs ds :=
  ⟨h.sx, h.bx.le k, h.tn, h.gn, h.bt, h.dx, h.se, h.lv⟩
theorem nm_app {H : Hp} {W : Addr} {wl : List Str} {x : Str} : NmAt (upd H W (.lst (wl.map V.str ++ [.str x]))) W (wl ++ [x]) := by
  show upd _ _ _ _ = _
  rw [upd_same, List.map_append]
  rfl
theorem seqIx0 {n : Nat} (h : 0 < n) : seqIndex? 0 n = some 0 := seqIndex_of (k := (0 : Int)) (by omega) (by omega)
section
variable {P : Program} {w : World} {K : PySem.W.Frag} {mg : Str → Option Value} {base : Heap}
/-! ### _law_lot -/
def spLot (K : PySem.W.Frag) : Sp := fun vs H Q _ => ∃ (B : List Addr) (b : Addr) (n : Nat) (v : V) (ps : List Str) (ss : List PyData) (T G : Addr) (ws gs : List Str) (m : Nat), vs = [.ref b, v, .ref T, .ref G, .int m] ∧ b ∈ B ∧ T ∈ B ∧ G ∈ B ∧ T ≠ G ∧ Live B H ∧ BoxAt H b n ∧
  0 < m ∧ m ≤ 10 ∧ n + 1000 ≤ 2 ^ 40 ∧ SetH K (hide B H) v ps ss ∧ NmAt H T ws ∧ NmAt H G gs ∧ (∀ g ∈ ws, wordS g = true) ∧ (∀ g ∈ gs, wordS g = true) ∧ 2 * m ≤ ws.length ∧ gs.length ≤ 50 ∧
  ∀ (v' : V) (its : List It) (ws' : List Str) (H' : Hp), LotFin ps ss.length gs its → its.length ≤ m → ws = lotTags its ++ ws' → SameX [b, T, G] H H' → BoxAt H' b (n + 1 + 24 * m) → NmAt H' T ws' → NmAt H' G (gs ++ lotTags its) → Dp K (hide B H') v' (.tuple (lotDs its)) → Q v' H'
abbrev nLot : List Str := ["_law_box_here", "_law_setup_so", "_law_tags_so", "_law_gone", "_law_many_so", "_law_batch", "_law_is_first", "_law_turn", "_law_tag", "_law_words", "_law_deed_here", "_law_way", "_law_timer"]
theorem scLot : FnScope nLot ["_law_box_here", "_law_setup_so", "_law_tags_so", "_law_gone", "_law_many_so"] (defScope sLot) :=
  ⟨rfl, rfl, rfl, by decide +kernel, rfl, by decide +kernel, by decide +kernel⟩
theorem ok_lot {f fT fD fE : Addr} {fd fdT fdD fdE : FuncData} {k : Nat} (F : Fun K "_law_lot" "_law_lot" sLot f fd)
    (FT : Fun K "_law_take" "_law_take" sTake fT fdT) (bT : Binds K fdT ["_law_box_here", "_law_below"] []) (mT : mg "_law_take" = some (.ref fT)) (GT : FnOk P w K mg base CX0 (k + 4) fT fdT ["_law_box_here", "_law_below"] spTake)
    (FD : Fun K "_law_deed" "_law_deed" sDeed fD fdD) (bD : Binds K fdD ["_law_box_here", "_law_setup_so", "_law_gone"] []) (mD : mg "_law_deed" = some (.ref fD)) (GD : FnOk P w K mg base CX0 (k + 4) fD fdD ["_law_box_here", "_law_setup_so", "_law_gone"] (spDeed K))
    (FE : Fun K "_law_ended" "_law_ended" sEnded fE fdE) (bE : Binds K fdE ["_law_batch"] []) (mE : mg "_law_ended" = some (.ref fE)) (GE : FnOk P w K mg base CX0 (k + 4) fE fdE ["_law_batch"] (spEnded K))
    (mr : mg "range" = none) (mt : mg "tuple" = none) (ms : mg "sorted" = none) : FnOk P w K mg base CX0 (k + 5) f fd ["_law_box_here", "_law_setup_so", "_law_tags_so", "_law_gone", "_law_many_so"] (spLot K) := by
  refine F.ok scLot (fun vs H Q E h => ?_) (fun cdv A outer s H vs Q E hr h => ?_)
  · obtain ⟨B, b, n, v, ps, ss, T, G, ws, gs, m, rfl, _⟩ := h
    rfl
  · obtain ⟨B, b, n, v, ps, ss, T, G, ws, gs, m, rfl, hb, hT, hG, TG, lv, hB, hm0, hm, hn, hS, tn, gn, wws, wgs, lws, lgs, q⟩ := h
    refine ⟨_, pss_cons (ps_par (i := 5) (j := 6) rfl scLot.nd rfl rfl (by decide) rfl rfl (pa_cons (pe_lst pa_nil) (pa_cons pe_bl pa_nil)) (by rfl))
      (pss_cons (ps_for PassesOwn.never rfl (pi_range1 (by rfl) mr (pa_cons (pe_op op_add pe_int (pe_call GT hr (by rfl) mT FT.kp bT .nil pass0 (pa_cons (pv 0) (pa_cons (pv 4) pa_nil)))) pa_nil)) (pg_name (i := 7) scLot.nd rfl (.inl rfl))
        (pss_cons (ps_par (i := 8) (j := 9) rfl scLot.nd rfl rfl (by decide) rfl rfl (pa_cons (pe_bm PySem.F.plainAttrs_list PySem.F.slot_list_pop PySem.F.type_list_pop mt_popAt (pv 2) (pa_cons pe_int pa_nil)) (pa_cons (pe_lst pa_nil) pa_nil)) (by rfl))
        (pss_cons (ps_set (i := 10) scLot.nd rfl (.inl rfl) (pe_call GD hr (by rfl) mD FD.kp bD .nil pass0 (pa_cons (pv 0) (pa_cons (pv 1) (pa_cons (pv 3) pa_nil)))))
        (pss_cons (ps_expr (pe_bm PySem.F.plainAttrs_list PySem.F.slot_list_append PySem.F.type_list_append mt_append (pv 3) (pa_cons (pv 8) pa_nil)))
        (pss_cons (ps_if (PW.pt (pw_and (pt_val (pv 6)) (pw_and1 (pt_cmpR op_eq (pe_call GT hr (by rfl) mT FT.kp bT .nil pass0 (pa_cons (pv 0) (pa_cons pe_int pa_nil))) pe_int (nomark _)))))
          (pss_one (ps_expr (pe_bm PySem.F.plainAttrs_list PySem.F.slot_list_append PySem.F.type_list_append mt_append (pv 9) (pa_cons pe_str pa_nil)))) pss_nil)
        (pss_cons (ps_if (PW.pt (pw_and (pt_cmpR (op_inK (K := K) rfl) (pe_ix ix_seq (pv 10) pe_int (fun _ _ => rfl)) (pe_tup (pa_cons pe_str (pa_cons pe_str pa_nil))) (by rfl)) (pw_and1 (pt_cmpR op_eq (pe_call GT hr (by rfl) mT FT.kp bT .nil pass0 (pa_cons (pv 0) (pa_cons pe_int pa_nil))) pe_int (nomark _)))))
          (pss_one (ps_expr (pe_bm PySem.F.plainAttrs_list PySem.F.slot_list_append PySem.F.type_list_append mt_append (pv 9) (pa_cons pe_str pa_nil)))) pss_nil)
        (pss_cons (ps_if (PW.pt (pw_and (pt_cmpR (op_inT2 (K := K) rfl hr.units) (pv 10) (pe_tup (pa_cons (pe_tup (pa_cons pe_str pa_nil)) (pa_cons (pe_tup (pa_cons pe_str (pa_cons pe_bl pa_nil))) pa_nil))) (by rfl)) (pw_and1 (pt_cmpR op_eq (pe_call GT hr (by rfl) mT FT.kp bT .nil pass0 (pa_cons (pv 0) (pa_cons pe_int pa_nil))) pe_int (nomark _)))))
          (pss_one (ps_expr (pe_bm PySem.F.plainAttrs_list PySem.F.slot_list_append PySem.F.type_list_append mt_append (pv 9) (pa_cons pe_str pa_nil)))) pss_nil)
        (pss_cons (ps_set (i := 11) scLot.nd rfl (.inl rfl) (pe_call GT hr (by rfl) mT FT.kp bT .nil pass0 (pa_cons (pv 0) (pa_cons pe_int pa_nil))))
        (pss_cons (ps_if (pt_cmpR op_lt (pv 11) pe_int (nomark _))
          (pss_one (ps_expr (pe_bm PySem.F.plainAttrs_list PySem.F.slot_list_append PySem.F.type_list_append mt_append (pv 9) (pa_cons (pe_ifExp (pt_cmpR op_eq (pv 11) pe_int (nomark _)) pe_str pe_str) pa_nil)))) pss_nil)
        (pss_cons (ps_expr (pe_bm PySem.F.plainAttrs_list PySem.F.slot_list_append PySem.F.type_list_append mt_append (pv 5) (pa_cons (pe_tup (pa_cons (pv 8) (pa_cons (pv 10) (pa_cons (pe_callTy call_tuple_of (by rfl) mt PyProof.Rows.boot_tuple (pa_cons (pe_callB cr_sortedS (by rfl) ms boot_sorted (pa_cons (pv 9) pa_nil)) pa_nil)) pa_nil)))) pa_nil)))
        (pss_cons (ps_set (i := 6) scLot.nd rfl (.inl rfl) (pe_cmpR op_gt (pv 11) pe_int (nomark _)))
        (pss_one (ps_if (PW.pt (pw_and (pt_cmpR op_lt (pv 11) pe_int (nomark _)) (pw_and1 (pt_cmpR op_eq (pe_call GT hr (by rfl) mT FT.kp bT .nil pass0 (pa_cons (pv 0) (pa_cons pe_int pa_nil))) pe_int (nomark _)))))
          (pss_cons (ps_set (i := 12) scLot.nd rfl (.inl rfl) (pe_bm PySem.F.plainAttrs_list PySem.F.slot_list_pop PySem.F.type_list_pop mt_popAt (pv 2) (pa_cons pe_int pa_nil)))
          (pss_cons (ps_expr (pe_bm PySem.F.plainAttrs_list PySem.F.slot_list_append PySem.F.type_list_append mt_append (pv 3) (pa_cons (pv 12) pa_nil)))
          (pss_one (ps_expr (pe_bm PySem.F.plainAttrs_list PySem.F.slot_list_append PySem.F.type_list_append mt_append (pv 5) (pa_cons (pe_tup (pa_cons (pv 12) (pa_cons (pe_tup (pa_cons pe_str (pa_cons (pe_call GT hr (by rfl) mT FT.kp bT .nil pass0 (pa_cons (pv 0) (pa_cons pe_int pa_nil))) pa_nil))) (pa_cons (pe_tup pa_nil) pa_nil)))) pa_nil)))))) pss_nil)))))))))))))
      (pss_one (ps_ret (pe_call GE hr (by rfl) mE FE.kp bE .nil pass0 (pa_cons (pv 5) pa_nil))))), ?_⟩
    refine ⟨by show 0 ≤ sizeLine; decide, fun D nD => ⟨_, _, rfl, ?_⟩⟩
    have nDB : D ∉ B := lv.new nD
    have neD : ∀ {c : Addr}, c ∈ B → D ≠ c := fun hc e => nDB (e ▸ hc)
    have oD : LOk (D :: B) b T G D H := ⟨List.mem_cons_of_mem _ hb, List.mem_cons_of_mem _ hT, List.mem_cons_of_mem _ hG, List.mem_cons_self, TG, tn.ne_box hB, gn.ne_box hB, neD hb, neD hT, neD hG, nD⟩
    have sD : Same H (upd H D (.lst [])) := same_upd nD
    have eD : Same (hide B H) (hide (D :: B) (upd H D (.lst []))) := SameX.enter (C := []) (sameX_upd List.mem_cons_self) (fun _ z => absurd z List.not_mem_nil) nD
    have lf0 : LF K (D :: B) b T G D v ps ss H (upd H D (.lst [])) n ws gs [] [] := ⟨SameX.of sD, hB.same sD, sD _ _ tn, sD _ _ gn, upd_same, .nil, hS.same eD, (lv.same sD).cons (o := .lst []) upd_same⟩
    generalize upd H D (.lst []) = H1 at lf0
    refine ⟨_, rfl, _, rfl, b, n, m, rfl, by omega, by omega, lf0.bx, by omega, fun r H2 r0 r1 s2 b2 => ?_⟩
    obtain ⟨j, rfl⟩ : ∃ j : Nat, r = j := ⟨r.toNat, by omega⟩
    have lf1 := lf0.box oD s2 b2
    refine ⟨_, _, rfl, rfl, _, rfl, by omega, by omega, for_range (lo := 0) (n := ((1 : Int) + j).toNat) (fun i σ H' => ∃ (first : Bool) (y7 y8 y9 y10 y11 y12 : Option V) (its : List It) (ws' : List Str) (xs : List V),
        σ = [some (.ref b), some v, some (.ref T), some (.ref G), some (.int m), some (.ref D), some (.bl first), y7, y8, y9, y10, y11, y12] ∧ LF K (D :: B) b T G D v ps ss H H' (n + 1 + 24 * i) ws' (gs ++ lotTags its) xs (lotDs its) ∧
        LotOk ps ss.length gs its ∧ its.length = i ∧ ws = lotTags its ++ ws' ∧ (first = true → openLast its))
      ⟨true, none, none, none, none, none, none, [], ws, [], rfl, by rw [show gs ++ lotTags [] = gs from List.append_nil gs]; exact lf1, LotOk.nil, rfl, rfl, fun _ => .inl rfl⟩ ?_ ?_⟩
    · rintro i σ H' hi ⟨first, y7, y8, y9, y10, y11, y12, its, ws', xs, rfl, lf, lo, li, hw, hfst⟩
      have tl := tagsLen its
      have lw : ws.length = (lotTags its).length + ws'.length := by rw [hw, List.length_append]
      have hw2 : 2 ≤ ws'.length := by omega
      cases ws' with
      | nil => simp at hw2
      | cons t ws1 =>
      refine ⟨_, rfl, .inl ⟨rfl, _, .inl (.inl lf.tn)⟩, T, _, 0, 0, .str t, rfl, rfl, lf.tn, by decide, by decide, seqIx0 (Nat.succ_pos _), rfl, by show 0 ≤ sizeLine; decide, fun W nW => ⟨_, _, rfl, ?_⟩⟩
      have lfp := lf.pop oD
      replace nW : (upd H' T (.lst (ws1.map V.str))) W = none := nW
      obtain ⟨nW0, hbW, hTW, hGW, hDW⟩ := lfp.new nW
      have oW := oD.more W
      have lfW := lfp.enter nW (ho := .lst [])
      have wn : NmAt (upd (upd H' T (.lst (ws1.map V.str))) W (.lst [])) W [] := upd_same
      show Ends.nx _ _ (upd (upd H' T (.lst (ws1.map V.str))) W (.lst []))
      generalize upd (upd H' T (.lst (ws1.map V.str))) W (.lst []) = H3 at lfW wn
      have wt : wordS t = true := wws t (by rw [hw]; exact List.mem_append_right _ List.mem_cons_self)
      have wg1 : ∀ g ∈ gs ++ lotTags its, wordS g = true := fun g hg => by
        rcases List.mem_append.mp hg with hg | hg
        · exact wgs g hg
        · exact wws g (by rw [hw]; exact List.mem_append_left _ hg)
      have hi10 : i ≤ 10 := by omega
      refine ⟨_, rfl, _, rfl, _, rfl, W :: D :: B, b, _, v, ps, ss, G, _, rfl, oW.hb, lfW.lv, lfW.bx, by omega, lfW.se, lfW.gn, wg1, by rw [List.length_append]; omega, fun vd dd H4 hdd s4 b4 dd4 => ?_⟩
      have lf4 := lfW.box oW s4 b4
      have wn4 := wn.up lfW.bx s4
      refine ⟨_, rfl, .inl ⟨rfl, _, .inl (.inl lf4.gn)⟩, _, rfl, G, _, .str t, rfl, rfl, lf4.gn, small1000 (by rw [List.length_map, List.length_append]; omega), ?_⟩
      have lf5 := lf4.gone oW t
      have wn5 : NmAt (upd H4 G (.lst ((gs ++ lotTags its).map V.str ++ [.str t]))) W [] := nm_upd wn4 hGW.symm
      have dd5 : Dp K (hide (W :: D :: B) (upd H4 G (.lst ((gs ++ lotTags its).map V.str ++ [.str t])))) vd dd := by rw [hide_upd_in oW.hG]; exact dd4
      show Ends.nx _ _ (upd H4 G (.lst ((gs ++ lotTags its).map V.str ++ [.str t])))
      generalize upd H4 G (.lst ((gs ++ lotTags its).map V.str ++ [.str t])) = H5 at lf5 wn5 dd5
      have mW : W ∈ W :: D :: B := List.mem_cons_self
      have word : ∀ {H6 : Hp} {n' : Nat} {wl : List Str} (x : Str), LF K (W :: D :: B) b T G D v ps ss H H6 n' ws1 (gs ++ lotTags its ++ [t]) xs (lotDs its) → Dp K (hide (W :: D :: B) H6) vd dd →
          LF K (W :: D :: B) b T G D v ps ss H (upd H6 W (.lst (wl.map V.str ++ [.str x]))) n' ws1 (gs ++ lotTags its ++ [t]) xs (lotDs its) ∧ NmAt (upd H6 W (.lst (wl.map V.str ++ [.str x]))) W (wl ++ [x]) ∧ Dp K (hide (W :: D :: B) (upd H6 W (.lst (wl.map V.str ++ [.str x])))) vd dd :=
        fun x l6 d6 => ⟨l6.other oW mW nW0 hbW hTW hGW hDW, nm_app, by rw [hide_upd_in mW]; exact d6⟩
      dsimp only
      refine seq_named (P := fun σ' H6 => ∃ (n' : Nat) (dr : Bool), σ' = [some (.ref b), some v, some (.ref T), some (.ref G), some (.int m), some (.ref D), some (.bl first), some (.int (0 + (i : Int))), some (.str t), some (.ref W), some vd, y11, y12] ∧
        LF K (W :: D :: B) b T G D v ps ss H H6 n' ws1 (gs ++ lotTags its ++ [t]) xs (lotDs its) ∧ NmAt H6 W (flagW dr "drain") ∧ Dp K (hide (W :: D :: B) H6) vd dd ∧ n' ≤ n + 24 * i + 14 ∧ (dr = true → first = true)) (fun hR => ?_) ?_
      · cases first with
        | false => exact ⟨_, rfl, false, rfl, iteF (iteF (hR _ _ ⟨_, false, rfl, lf5, wn5, dd5, by omega, fun z => by cases z⟩))⟩
        | true =>
          refine ⟨_, rfl, true, rfl, iteT ⟨_, rfl, b, _, 5, rfl, by decide, by decide, lf5.bx, by omega, fun r6 H6 r60 r61 s6 b6 => ⟨rfl, _, rfl, ite2 (fun e => ?_) (fun e => ?_)⟩⟩⟩
          · have l6 := lf5.box oW s6 b6
            have wn6 := wn5.up lf5.bx s6
            have d6 := dp_same (s6.hide fun c hc => by rw [List.mem_singleton.mp hc]; exact oW.hb) dd5
            obtain ⟨q1, q2, q3⟩ := word (wl := []) "drain" l6 d6
            exact ⟨_, rfl, .inl ⟨rfl, _, .inl (.inl wn6)⟩, W, _, .str "drain", rfl, rfl, wn6, by decide, hR _ _ ⟨_, true, rfl, q1, q2, q3, by omega, fun _ => rfl⟩⟩
          · exact hR _ _ ⟨_, false, rfl, lf5.box oW s6 b6, wn5.up lf5.bx s6, dp_same (s6.hide fun c hc => by rw [List.mem_singleton.mp hc]; exact oW.hb) dd5, by omega, fun z => by cases z⟩
      rintro σ6 H6 ⟨n6, dr, rfl, lf6, wn6, dd6, hn6, hdr⟩
      have hsb : ∀ c ∈ [b], c ∈ W :: D :: B := fun c hc => by rw [List.mem_singleton.mp hc]; exact oW.hb
      have lss := hS.lss
      have dgood := deed_good hdd lss hS.wps wg1
      obtain ⟨wd, ⟨rest, erest⟩, hwd⟩ := hdd.word
      refine seq_named (P := fun σ' H7 => ∃ (n' : Nat) (pk : Bool), σ' = [some (.ref b), some v, some (.ref T), some (.ref G), some (.int m), some (.ref D), some (.bl first), some (.int (0 + (i : Int))), some (.str t), some (.ref W), some vd, y11, y12] ∧
        LF K (W :: D :: B) b T G D v ps ss H H7 n' ws1 (gs ++ lotTags its ++ [t]) xs (lotDs its) ∧ NmAt H7 W (flagW dr "drain" ++ flagW pk "pick") ∧ Dp K (hide (W :: D :: B) H7) vd dd ∧ n' ≤ n + 24 * i + 15 ∧ (pk = true → wd ∈ [Str.ofString "read", Str.ofString "reads"])) (fun hR => ?_) ?_
      · have dd6' := dd6
        rw [erest] at dd6'
        obtain ⟨a2, xs2, ea, S2, A2⟩ := dp_tupR dd6'
        cases A2 with
        | cons f1 f2 =>
          cases f1
          have wn6' : NmAt H6 W (flagW dr "drain" ++ flagW false "pick") := by
            show NmAt H6 W (flagW dr "drain" ++ [])
            rw [List.append_nil]
            exact wn6
          refine ⟨_, rfl, .inr (.inl ⟨a2, _, 0, _, ea, rfl, same_seqT (hide_same _ H6) S2, atI_nat (j := 0) rfl, by show 2 ≤ sizeLine; decide, fun p np => ⟨p, _, rfl, .inr (SqT.of upd_same), rfl, flat_strs [Str.ofString "read", Str.ofString "reads"], _, rfl, ?_⟩⟩)⟩
          have hin : inV (.str wd) [V.str (Str.ofString "read"), V.str (Str.ofString "reads")] = decide (wd ∈ [Str.ofString "read", Str.ofString "reads"]) := in_strs wd [Str.ofString "read", Str.ofString "reads"]
          have sp := same_upd (o := HO.tup [V.str (Str.ofString "read"), V.str (Str.ofString "reads")]) np
          have lf7 := lf6.alloc sp
          have wn7 : NmAt (upd H6 p (HO.tup [V.str (Str.ofString "read"), V.str (Str.ofString "reads")])) W (flagW dr "drain" ++ flagW false "pick") := sp _ _ wn6'
          have dd7 := dp_same (hide_of_same (B := W :: D :: B) sp) dd6
          rw [hin, if_neg (by decide)]
          by_cases hm' : wd ∈ [Str.ofString "read", Str.ofString "reads"]
          · rw [decide_eq_true hm']
            refine iteT ⟨_, rfl, b, _, 4, rfl, by decide, by decide, lf7.bx, by omega, fun r8 H8 r80 r81 s8 b8 => ⟨rfl, _, rfl, ite2 (fun e => ?_) (fun e => ?_)⟩⟩
            · have l8 := lf7.box oW s8 b8
              have wn8 := wn7.up lf7.bx s8
              have d8 := dp_same (s8.hide hsb) dd7
              obtain ⟨q1, q2, q3⟩ := word (wl := flagW dr "drain" ++ flagW false "pick") "pick" l8 d8
              have q2' : NmAt (upd H8 W (.lst ((flagW dr "drain" ++ flagW false "pick").map V.str ++ [.str "pick"]))) W (flagW dr "drain" ++ flagW true "pick") := by
                rw [List.append_assoc] at q2
                exact q2
              exact ⟨_, rfl, .inl ⟨rfl, _, .inl (.inl wn8)⟩, W, _, .str "pick", rfl, rfl, wn8, by cases dr <;> decide, hR _ _ ⟨_, true, rfl, q1, q2', q3, by omega, fun _ => hm'⟩⟩
            · exact hR _ _ ⟨_, false, rfl, lf7.box oW s8 b8, wn7.up lf7.bx s8, dp_same (s8.hide hsb) dd7, by omega, fun z => by cases z⟩
          · rw [decide_eq_false hm']
            exact iteF (iteF (hR _ _ ⟨_, false, rfl, lf7, wn7, dd7, by omega, fun z => by cases z⟩))
      rintro σ7 H7 ⟨n7, pk, rfl, lf7, wn7, dd7, hn7, hpk⟩
      refine seq_named (P := fun σ' H8 => ∃ (n' : Nat) (si : Bool), σ' = [some (.ref b), some v, some (.ref T), some (.ref G), some (.int m), some (.ref D), some (.bl first), some (.int (0 + (i : Int))), some (.str t), some (.ref W), some vd, y11, y12] ∧
        LF K (W :: D :: B) b T G D v ps ss H H8 n' ws1 (gs ++ lotTags its ++ [t]) xs (lotDs its) ∧ NmAt H8 W (flagW dr "drain" ++ flagW pk "pick" ++ flagW si "silent") ∧ Dp K (hide (W :: D :: B) H8) vd dd ∧ n' ≤ n + 24 * i + 16 ∧ (si = true → dd = .tuple [.str "nop"] ∨ dd = .tuple [.str "work", .bool true])) (fun hR => ?_) ?_
      · have wn7' : NmAt H7 W (flagW dr "drain" ++ flagW pk "pick" ++ flagW false "silent") := by
          show NmAt H7 W (flagW dr "drain" ++ flagW pk "pick" ++ [])
          rw [List.append_nil]
          exact wn7
        refine ⟨_, rfl, by show 1 ≤ sizeLine; decide, fun p1 n1 => ⟨by show 2 ≤ sizeLine; decide, fun p2 n2 => ⟨by show 2 ≤ sizeLine; decide, fun p3 n3 => ?_⟩⟩⟩
        have u1 := same_upd (o := HO.tup [V.str (Str.ofString "nop")]) n1
        have u2 := same_upd (o := HO.tup [V.str (Str.ofString "work"), V.bl true]) n2
        have u3 := same_upd (o := HO.tup [V.ref p1, V.ref p2]) n3
        have k1 : Dp K _ (.ref p1) (.tuple [.str "nop"]) := .tup (SqT.of (same_upd (o := HO.tup [V.ref p1, V.ref p2]) n3 _ _ (same_upd (o := HO.tup [V.str (Str.ofString "work"), V.bl true]) n2 _ _ (upd_same (H := H7) (a := p1) (o := HO.tup [V.str (Str.ofString "nop")]))))) (.cons (.str _) .nil)
        have k2 : Dp K _ (.ref p2) (.tuple [.str "work", .bool true]) := .tup (SqT.of (same_upd (o := HO.tup [V.ref p1, V.ref p2]) n3 _ _ upd_same)) (.cons (.str _) (.cons (.bl true) .nil))
        have u := (u1.trans u2).trans u3
        refine ⟨dd, [.tuple [.str "nop"], .tuple [.str "work", .bool true]], dp_same u (dp_same (hide_same _ H7) dd7), .tup (SqT.of upd_same) (.cons k1 (.cons k2 .nil)), by decide +kernel, gD_lay _ _ dgood, by decide +kernel, _, rfl, ?_⟩
        have lf8 := lf7.alloc u
        have wn8 : NmAt _ W (flagW dr "drain" ++ flagW pk "pick" ++ flagW false "silent") := u _ _ wn7'
        have dd8 := dp_same (hide_of_same (B := W :: D :: B) u) dd7
        cases hs : ([PyData.tuple [.str "nop"], PyData.tuple [.str "work", .bool true]].any fun z => PyData.eqv z dd) with
        | true =>
          have hsi := silent_of hdd hs
          refine iteT ⟨_, rfl, b, _, 4, rfl, by decide, by decide, lf8.bx, by omega, fun r9 H9 r90 r91 s9 b9 => ⟨rfl, _, rfl, ite2 (fun e => ?_) (fun e => ?_)⟩⟩
          · have l9 := lf8.box oW s9 b9
            have wn9 := wn8.up lf8.bx s9
            have d9 := dp_same (s9.hide hsb) dd8
            obtain ⟨q1, q2, q3⟩ := word (wl := flagW dr "drain" ++ flagW pk "pick" ++ flagW false "silent") "silent" l9 d9
            have q2' : NmAt (upd H9 W (.lst ((flagW dr "drain" ++ flagW pk "pick" ++ flagW false "silent").map V.str ++ [.str "silent"]))) W (flagW dr "drain" ++ flagW pk "pick" ++ flagW true "silent") := by
              rw [List.append_assoc (flagW dr "drain" ++ flagW pk "pick")] at q2
              exact q2
            exact ⟨_, rfl, .inl ⟨rfl, _, .inl (.inl wn9)⟩, W, _, .str "silent", rfl, rfl, wn9, by cases dr <;> cases pk <;> decide, hR _ _ ⟨_, true, rfl, q1, q2', q3, by omega, fun _ => hsi⟩⟩
          · exact hR _ _ ⟨_, false, rfl, lf8.box oW s9 b9, wn8.up lf8.bx s9, dp_same (s9.hide hsb) dd8, by omega, fun z => by cases z⟩
        | false => exact iteF (iteF (hR _ _ ⟨_, false, rfl, lf8, wn8, dd8, by omega, fun z => by cases z⟩))
      rintro σ8 H8 ⟨n8, si, rfl, lf8, wn8, dd8, hn8, hsi⟩
      refine ⟨_, rfl, b, _, 6, rfl, by decide, by decide, lf8.bx, by omega, fun r9 H9 r90 r91 s9 b9 => ?_⟩
      have lf9 := lf8.box oW s9 b9
      have wn9 := wn8.up lf8.bx s9
      have dd9 := dp_same (s9.hide hsb) dd8
      show Ends.nx _ _ H9
      dsimp only
      refine seq_named (P := fun σ' H10 => ∃ (ln : Option Bool), σ' = [some (.ref b), some v, some (.ref T), some (.ref G), some (.int m), some (.ref D), some (.bl first), some (.int (0 + (i : Int))), some (.str t), some (.ref W), some vd, some (.int r9), y12] ∧
        LF K (W :: D :: B) b T G D v ps ss H H10 (n8 + 1) ws1 (gs ++ lotTags its ++ [t]) xs (lotDs its) ∧ NmAt H10 W (flagW dr "drain" ++ flagW pk "pick" ++ flagW si "silent" ++ lnWords ln) ∧ Dp K (hide (W :: D :: B) H10) vd dd ∧ (ln.isSome = decide (r9 < 3))) (fun hR => ?_) ?_
      · refine ⟨_, rfl, _, _, rfl, rfl, _, rfl, ite2 (fun e => ?_) (fun e => ?_)⟩
        · have e3 := of_decide_eq_true e
          refine ⟨_, rfl, .inl ⟨rfl, _, .inl (.inl wn9)⟩, _, rfl, rfl, _, rfl, ite2 (fun e0 => ?_) (fun e0 => ?_)⟩
          · obtain ⟨q1, q2, q3⟩ := word (wl := flagW dr "drain" ++ flagW pk "pick" ++ flagW si "silent") "hard" lf9 dd9
            exact ⟨W, _, .str "hard", rfl, rfl, wn9, by cases dr <;> cases pk <;> cases si <;> decide, hR _ _ ⟨some true, rfl, q1, q2, q3, e.symm⟩⟩
          · obtain ⟨q1, q2, q3⟩ := word (wl := flagW dr "drain" ++ flagW pk "pick" ++ flagW si "silent") "link" lf9 dd9
            exact ⟨W, _, .str "link", rfl, rfl, wn9, by cases dr <;> cases pk <;> cases si <;> decide, hR _ _ ⟨some false, rfl, q1, q2, q3, e.symm⟩⟩
        · have ef : decide (r9 < 3) = false := Bool.eq_false_iff.mpr e
          refine hR _ _ ⟨none, rfl, lf9, ?_, dd9, ef.symm⟩
          show NmAt H9 W (flagW dr "drain" ++ flagW pk "pick" ++ flagW si "silent" ++ [])
          rw [List.append_nil]
          exact wn9
      rintro σ10 H10 ⟨ln, rfl, lf10, wn10, dd10, hln⟩
      have lx := dps_len lf10.dx
      have ld := lotDs_len its
      refine ⟨_, rfl, .inl ⟨rfl, _, .inl (.inl lf10.bt)⟩, _, rfl, _, rfl, _, rfl, W, _, rfl, SqL.of wn10, by cases dr <;> cases pk <;> cases si <;> rcases ln with _ | _ | _ <;> decide, fun ys p2 pm hs np2 => ⟨p2, _, rfl, .inl ⟨SqL.of upd_same, fun p3 np3 => ⟨by show 3 ≤ sizeLine; decide, fun p4 n4 => ?_⟩⟩⟩⟩
      have eys := sortedF pm hs
      subst eys
      generalize hW : wordsF dr pk si ln = ys at *
      have u2 := same_upd (o := HO.lst (ys.map V.str)) np2
      have u3 := same_upd (o := HO.tup (ys.map V.str)) np3
      have u4 := same_upd (o := HO.tup [.str t, vd, .ref p3]) n4
      have lfb := lf10.alloc (u2.trans u3)
      have k3 : Dp K (hide (W :: D :: B) _) (.ref p3) (.tuple (ys.map PyData.str)) := dp_new (lf10.alloc u2).lv np3 (dps_strs ys)
      have k4 := dp_new lfb.lv n4 (DpAll.cons (.str t) (.cons (dp_same (hide_of_same (u2.trans u3)) dd10) (.cons k3 .nil)))
      have lfc := lfb.alloc u4
      have lfd := lfc.batch oW k4
      refine ⟨D, _, _, rfl, rfl, lfc.bt, small1000 (by omega), ?_⟩
      have lit : ∀ (t' : Option (Str × Int)), (∀ t2, t' = some t2 → ln.isSome = true ∧ wordS t2.1 = true ∧ 0 ≤ t2.2 ∧ t2.2 ≤ 8) → LotOk ps ss.length gs (its ++ [{ tag := t, deed := dd, dr := dr, pk := pk, si := si, ln := ln, timer := t' }]) := fun t' ht' =>
        lo.snoc ⟨hdd, wt, fun hp => ⟨wd, rest, erest, hpk hp⟩, hsi, ht'⟩ fun h => hfst (hdr h)
      show Ends.nx _ _ (upd (upd (upd (upd H10 p2 (.lst (ys.map V.str))) p3 (.tup (ys.map V.str))) p4 (.tup [.str t, vd, .ref p3])) D (.lst (xs ++ [.ref p4])))
      generalize upd (upd (upd (upd H10 p2 (.lst (ys.map V.str))) p3 (.tup (ys.map V.str))) p4 (.tup [.str t, vd, .ref p3])) D (.lst (xs ++ [.ref p4])) = H11 at lfd
      have lfe : LF K (W :: D :: B) b T G D v ps ss H H11 (n8 + 1) ws1 (gs ++ lotTags its ++ [t]) (xs ++ [.ref p4]) (lotDs its ++ [itD { tag := t, deed := dd, dr := dr, pk := pk, si := si, ln := ln, timer := none }]) := by
        unfold itD itWords
        rw [hW]
        exact lfd
      dsimp only
      have fin : ∀ {H12 : Hp} {n' : Nat} (y12' : Option V), LF K (W :: D :: B) b T G D v ps ss H H12 n' ws1 (gs ++ lotTags its ++ [t]) (xs ++ [.ref p4]) (lotDs its ++ [itD { tag := t, deed := dd, dr := dr, pk := pk, si := si, ln := ln, timer := none }]) → n' ≤ n + 24 * i + 19 →
          ∃ (first : Bool) (y7 y8 y9 y10 y11 y12 : Option V) (its : List It) (ws' : List Str) (xs : List V),
        [some (.ref b), some v, some (.ref T), some (.ref G), some (.int m), some (.ref D), some (.bl (decide (2 < r9))), some (.int (0 + (i : Int))), some (.str t), some (.ref W), some vd, some (.int r9), y12'] = [some (.ref b), some v, some (.ref T), some (.ref G), some (.int m), some (.ref D), some (.bl first), y7, y8, y9, y10, y11, y12] ∧ LF K (D :: B) b T G D v ps ss H H12 (n + 1 + 24 * (i + 1)) ws' (gs ++ lotTags its) xs (lotDs its) ∧
        LotOk ps ss.length gs its ∧ its.length = i + 1 ∧ ws = lotTags its ++ ws' ∧ (first = true → openLast its) := by
        intro H12 n' y12' l12 hn'
        refine ⟨_, _, _, _, _, _, _, its ++ [{ tag := t, deed := dd, dr := dr, pk := pk, si := si, ln := ln, timer := none }], ws1, xs ++ [.ref p4], rfl, ?_, lit none (fun t2 z => by cases z), by rw [List.length_append, li]; rfl, ?_, fun hf => .inr ⟨_, List.getLast?_concat, ?_⟩⟩
        · rw [lotTags_snoc, lotDs_snoc, ← List.append_assoc]
          exact (l12.leave).le (by omega)
        · rw [lotTags_snoc, hw, List.append_assoc]
          rfl
        · have h2 := of_decide_eq_true hf
          cases hl : ln with
          | none => rfl
          | some c =>
            rw [hl] at hln
            have h3 : true = decide (r9 < 3) := hln
            have h4 := of_decide_eq_true h3.symm
            omega
      refine ⟨_, rfl, _, _, rfl, rfl, _, rfl, _, _, rfl, rfl, _, rfl, ite2 (fun e => ?_) (fun e => ?_)⟩
      · refine ⟨_, rfl, b, _, 3, rfl, by decide, by decide, lfe.bx, by omega, fun r12 H12 r120 r121 s12 b12 => ⟨rfl, _, rfl, ite2 (fun e2 => ?_) (fun e2 => ?_)⟩⟩
        · have lf12 := lfe.box oW s12 b12
          cases ws1 with
          | nil => simp at hw2
          | cons t2 ws2 =>
          refine ⟨_, rfl, .inl ⟨rfl, _, .inl (.inl lf12.tn)⟩, T, _, 0, 0, .str t2, rfl, rfl, lf12.tn, by decide, by decide, seqIx0 (Nat.succ_pos _), rfl, ?_⟩
          have lf13 := lf12.pop oW
          show Ends.nx _ _ (upd H12 T (.lst (ws2.map V.str)))
          generalize upd H12 T (.lst (ws2.map V.str)) = H13 at lf13
          refine ⟨_, rfl, .inl ⟨rfl, _, .inl (.inl lf13.gn)⟩, _, rfl, G, _, .str t2, rfl, rfl, lf13.gn, small1000 (by simp only [List.length_map, List.length_append, List.length_cons, List.length_nil]; omega), ?_⟩
          have lf14 := lf13.gone oW t2
          show Ends.nx _ _ (upd H13 G (.lst ((gs ++ lotTags its ++ [t]).map V.str ++ [.str t2])))
          generalize upd H13 G (.lst ((gs ++ lotTags its ++ [t]).map V.str ++ [.str t2])) = H14 at lf14
          refine ⟨_, rfl, .inl ⟨rfl, _, .inl (.inl lf14.bt)⟩, _, rfl, _, rfl, b, _, 9, rfl, by decide, by decide, lf14.bx, by omega, fun r15 H15 r150 r151 s15 b15 => ⟨by show 2 ≤ sizeLine; decide, fun p6 n6 => ⟨by show 0 ≤ sizeLine; decide, fun p7 n7 => ⟨by show 3 ≤ sizeLine; decide, fun p8 n8 => ?_⟩⟩⟩⟩
          have lf15 := lf14.box oW s15 b15
          have v6 := same_upd (o := HO.tup [V.str (Str.ofString "linktimeout"), V.int r15]) n6
          have v7 := same_upd (o := HO.tup []) n7
          have v8 := same_upd (o := HO.tup [V.str t2, V.ref p6, V.ref p7]) n8
          have j6 := dp_new (K := K) lf15.lv n6 (DpAll.cons (.str (Str.ofString "linktimeout")) (.cons (.int r15) .nil))
          have j7 := dp_new (K := K) (lf15.alloc v6).lv n7 .nil
          have j8 := dp_new (lf15.alloc (v6.trans v7)).lv n8 (DpAll.cons (.str t2) (.cons (dp_same (hide_of_same v7) j6) (.cons j7 .nil)))
          have lf16 := lf15.alloc ((v6.trans v7).trans v8)
          have lf17 := lf16.batch oW j8
          refine ⟨D, _, _, rfl, rfl, lf16.bt, small1000 (by rw [List.length_append]; show xs.length + 1 ≤ 1000; omega), ?_⟩
          refine ⟨_, _, _, _, _, _, _, its ++ [{ tag := t, deed := dd, dr := dr, pk := pk, si := si, ln := ln, timer := some (t2, r15) }], ws2, xs ++ [.ref p4] ++ [.ref p8], rfl, ?_, lit (some (t2, r15)) (fun t3 z => ?_), by rw [List.length_append, li]; rfl, ?_, fun hf => ?_⟩
          · rw [lotTags_snoc, lotDs_snoc]
            have l18 := (lf17.leave).le (m := n + 1 + 24 * (i + 1)) (by omega)
            have e1 : gs ++ (lotTags its ++ itTags { tag := t, deed := dd, dr := dr, pk := pk, si := si, ln := ln, timer := some (t2, r15) }) = gs ++ lotTags its ++ [t] ++ [t2] := by
              show gs ++ (lotTags its ++ ([t] ++ [t2])) = _
              simp only [List.append_assoc]
            have e2 : lotDs its ++ itDs { tag := t, deed := dd, dr := dr, pk := pk, si := si, ln := ln, timer := some (t2, r15) } = lotDs its ++ [itD { tag := t, deed := dd, dr := dr, pk := pk, si := si, ln := ln, timer := none }] ++ [.tuple [.str t2, .tuple [.str (Str.ofString "linktimeout"), .int r15], .tuple []]] := by
              rw [List.append_assoc]
              rfl
            rw [e1, e2]
            exact l18
          · cases z
            refine ⟨by rw [hln]; exact e, wws t2 (by rw [hw]; exact List.mem_append_right _ (List.mem_cons_of_mem _ List.mem_cons_self)), r150, by omega⟩
          · rw [lotTags_snoc, hw, List.append_assoc]
            rfl
          · have h2 := of_decide_eq_true hf
            have h3 := of_decide_eq_true e
            omega
        · exact fin _ (lfe.box oW s12 b12) (by omega)
      · exact iteF (fin _ lfe (by omega))
    · rintro σ H' ⟨first, y7, y8, y9, y10, y11, y12, its, ws', xs, rfl, lf, lo, li, hw, hfst⟩
      have lx := dps_len lf.dx
      have ld := lotDs_len its
      have hpos : 0 < its.length := by omega
      rcases List.eq_nil_or_concat its with h0 | ⟨ini, it, h0⟩
      · rw [h0] at hpos
        exact absurd hpos (by decide)
      · rw [List.concat_eq_append] at h0
        subst h0
        obtain ⟨wd, hw1, hw2⟩ := lo.init.2.1.deed.word
        have et : lotTags (ini ++ [endIt it]) = lotTags (ini ++ [it]) := by rw [lotTags_snoc, lotTags_snoc, endTags]
        refine ⟨_, rfl, D :: B, D, xs, ini, it, wd, rfl, List.mem_cons_self, lf.lv, lf.bt, lf.dx, by omega, hw1, hw2, fun v' H'' sD' dv' => ?_⟩
        have old : ∀ {c : Addr}, c ≠ D → c ∉ [D] := fun h z => h (List.mem_singleton.mp z)
        refine q v' (ini ++ [endIt it]) ws' H'' lo.fin (by rw [List.length_append] at *; show ini.length + 1 ≤ m; have : [it].length = 1 := rfl; omega) (by rw [et]; exact hw) ?_ ?_ (sD' _ _ (old oD.DT.symm) lf.tn) (by rw [et]; exact sD' _ _ (old oD.DG.symm) lf.gn) (dp_same hide_leave dv')
        · exact sameX_old (D := D) (B := [b, T, G]) ((lf.sx.sub fun c hc => List.mem_cons_of_mem _ hc).trans (sD'.sub fun c hc => by rw [List.mem_singleton.mp hc]; exact List.mem_cons_self)) nD
        · exact (lf.bx.up sD' (old oD.Db.symm)).le (by omega)
end
end KV

namespace KV
open PySem PySem.Spec PyProof.Rows L2 RZ
abbrev sEvent : Stmt := topS 20
/-- a drawn user event -/
inductive Ev
  | put (its : List It)
  | give (p x : Str)
  | take (p : Str) (k : Int)
  | reap (k : Int)
  | clock (t : Int)
  | lend (k : Int)
  | quiet
  | stop
def evD : Ev → PyData
  | .put its => .tuple [.str "put", .tuple (lotDs its)]
  | .give p x => .tuple [.str "give", .str p, .str x]
  | .take p k => .tuple [.str "take", .str p, .int k]
  | .reap k => .tuple [.str "reap", .int k]
  | .clock t => .tuple [.str "clock", .int t]
  | .lend k => .tuple [.str "lend", .int k]
  | .quiet => .tuple [.str "quiet"]
  | .stop => .tuple [.str "stop"]
def evTags : Ev → List Str
  | .put its => lotTags its
  | _ => []
def evTime (t : Int) : Ev → Int
  | .clock u => u
  | _ => t
def EvOk (ps : List Str) (m : Nat) (gs : List Str) (t : Int) : Ev → Prop
  | .put its => LotFin ps m gs its ∧ its.length ≤ 4
  | .give p x => p ∈ ps ∧ wordS x = true ∧ x.length ≤ 3
  | .take p k => p ∈ ps ∧ 1 ≤ k ∧ k ≤ 3
  | .reap k => 1 ≤ k ∧ k ≤ 4
  | .clock u => t < u ∧ u ≤ t + 4
  | .lend k => 1 ≤ k ∧ k ≤ 2
  | .quiet => True
  | .stop => False
section
variable {P : Program} {w : World} {K : PySem.W.Frag} {mg : Str → Option Value} {base : Heap}
/-! ### _law_event -/
def spEvent (K : PySem.W.Frag) : Sp := fun vs H Q _ => ∃ (B : List Addr) (b : Addr) (n : Nat) (v : V) (ps : List Str) (ss : List PyData) (T G C : Addr) (ws gs : List Str) (t : Int), vs = [.ref b, v, .ref T, .ref G, .ref C] ∧ b ∈ B ∧ T ∈ B ∧ G ∈ B ∧ C ∈ B ∧ T ≠ G ∧ C ≠ T ∧ C ≠ G ∧ C ≠ b ∧ Live B H ∧ BoxAt H b n ∧
  n + 2000 ≤ 2 ^ 40 ∧ SetH K (hide B H) v ps ss ∧ NmAt H T ws ∧ NmAt H G gs ∧ H C = some (.lst [.int t]) ∧ (∀ g ∈ ws, wordS g = true) ∧ (∀ g ∈ gs, wordS g = true) ∧ ws.length ≤ 500 ∧ gs.length ≤ 50 ∧
  ∀ (v' : V) (e : Ev) (ws' : List Str) (H' : Hp), EvOk ps ss.length gs t e → ws = evTags e ++ ws' → SameX [b, T, G, C] H H' → BoxAt H' b (n + 110) → NmAt H' T ws' → NmAt H' G (gs ++ evTags e) → H' C = some (.lst [.int (evTime t e)]) → Dp K (hide B H') v' (evD e) → Q v' H'
abbrev nEvent : List Str := ["_law_box_here", "_law_setup_so", "_law_tags_so", "_law_gone", "_law_clock_so", "_law_way"]
theorem scEvent : FnScope nEvent ["_law_box_here", "_law_setup_so", "_law_tags_so", "_law_gone", "_law_clock_so"] (defScope sEvent) :=
  ⟨rfl, rfl, rfl, by decide +kernel, rfl, by decide +kernel, by decide +kernel⟩
theorem ok_event {f fT fO fL fM : Addr} {fd fdT fdO fdL fdM : FuncData} {k : Nat} (F : Fun K "_law_event" "_law_event" sEvent f fd)
    (FT : Fun K "_law_take" "_law_take" sTake fT fdT) (bT : Binds K fdT ["_law_box_here", "_law_below"] []) (mT : mg "_law_take" = some (.ref fT)) (GT : FnOk P w K mg base CX0 (k + 5) fT fdT ["_law_box_here", "_law_below"] spTake)
    (FO : Fun K "_law_of" "_law_of" sOf fO fdO) (bO : Binds K fdO ["_law_box_here", "_law_some"] []) (mO : mg "_law_of" = some (.ref fO)) (GO : FnOk P w K mg base CX0 (k + 5) fO fdO ["_law_box_here", "_law_some"] (spOf K))
    (FL : Fun K "_law_letters" "_law_letters" sLetters fL fdL) (bL : Binds K fdL ["_law_box_here", "_law_most_so"] []) (mL : mg "_law_letters" = some (.ref fL)) (GL : FnOk P w K mg base CX0 (k + 5) fL fdL ["_law_box_here", "_law_most_so"] (spLetters K))
    (FM : Fun K "_law_lot" "_law_lot" sLot fM fdM) (bM : Binds K fdM ["_law_box_here", "_law_setup_so", "_law_tags_so", "_law_gone", "_law_many_so"] []) (mM : mg "_law_lot" = some (.ref fM)) (GM : FnOk P w K mg base CX0 (k + 5) fM fdM ["_law_box_here", "_law_setup_so", "_law_tags_so", "_law_gone", "_law_many_so"] (spLot K))
    (ml : mg "len" = none) : FnOk P w K mg base CX0 (k + 6) f fd ["_law_box_here", "_law_setup_so", "_law_tags_so", "_law_gone", "_law_clock_so"] (spEvent K) := by
  refine F.ok scEvent (fun vs H Q E h => ?_) (fun cdv A outer s H vs Q E hr h => ?_)
  · obtain ⟨B, b, n, v, ps, ss, T, G, C, ws, gs, t, rfl, _⟩ := h
    rfl
  · obtain ⟨B, b, n, v, ps, ss, T, G, C, ws, gs, t, rfl, hb, hT, hG, hC, TG, CT, CG, Cb, lv, hB, hn, hS, tn, gn, cn, wws, wgs, lws, lgs, q⟩ := h
    refine ⟨_, pss_cons (ps_set (i := 5) scEvent.nd rfl (.inl rfl) (pe_call GT hr (by rfl) mT FT.kp bT .nil pass0 (pa_cons (pv 0) (pa_cons pe_int pa_nil))))
      (pss_cons (ps_if (PW.pt (pw_and (pt_cmpR op_lt (pv 5) pe_int (nomark _)) (pw_and1 (pt_cmpR op_gt (pe_callB call_len_seq (by rfl) ml PySem.boot_len (pa_cons (pv 2) pa_nil)) pe_int (nomark _)))))
        (pss_one (ps_ret (pe_tup (pa_cons pe_str (pa_cons (pe_call GM hr (by rfl) mM FM.kp bM .nil pass0 (pa_cons (pv 0) (pa_cons (pv 1) (pa_cons (pv 2) (pa_cons (pv 3) (pa_cons pe_int pa_nil)))))) pa_nil))))) pss_nil)
      (pss_cons (ps_if (pt_cmpR op_lt (pv 5) pe_int (nomark _)) (pss_one (ps_ret (pe_tup (pa_cons pe_str (pa_cons (pe_call GO hr (by rfl) mO FO.kp bO .nil pass0 (pa_cons (pv 0) (pa_cons (pe_ix ix_seq (pv 1) pe_int (fun _ _ => rfl)) pa_nil)))
          (pa_cons (pe_call GL hr (by rfl) mL FL.kp bL .nil pass0 (pa_cons (pv 0) (pa_cons pe_int pa_nil))) pa_nil)))))) pss_nil)
      (pss_cons (ps_if (pt_cmpR op_eq (pv 5) pe_int (nomark _)) (pss_one (ps_ret (pe_tup (pa_cons pe_str (pa_cons (pe_call GO hr (by rfl) mO FO.kp bO .nil pass0 (pa_cons (pv 0) (pa_cons (pe_ix ix_seq (pv 1) pe_int (fun _ _ => rfl)) pa_nil)))
          (pa_cons (pe_op op_add pe_int (pe_call GT hr (by rfl) mT FT.kp bT .nil pass0 (pa_cons (pv 0) (pa_cons pe_int pa_nil)))) pa_nil)))))) pss_nil)
      (pss_cons (ps_if (pt_cmpR op_lt (pv 5) pe_int (nomark _)) (pss_one (ps_ret (pe_tup (pa_cons pe_str (pa_cons (pe_op op_add pe_int (pe_call GT hr (by rfl) mT FT.kp bT .nil pass0 (pa_cons (pv 0) (pa_cons pe_int pa_nil)))) pa_nil))))) pss_nil)
      (pss_cons (ps_if (pt_cmpR op_eq (pv 5) pe_int (nomark _))
        (pss_cons (ps_asg (pe_op op_add (pe_op op_add (pe_ix ix_seq (pv 4) pe_int (fun _ _ => rfl)) pe_int) (pe_call GT hr (by rfl) mT FT.kp bT .nil pass0 (pa_cons (pv 0) (pa_cons pe_int pa_nil)))) (pg_sub (pv 4) pe_int set_list))
          (pss_one (ps_ret (pe_tup (pa_cons pe_str (pa_cons (pe_ix ix_seq (pv 4) pe_int (fun _ _ => rfl)) pa_nil)))))) pss_nil)
      (pss_one (ps_ret (pe_ifExp (pt_cmpR op_eq (pv 5) pe_int (nomark _)) (pe_tup (pa_cons pe_str (pa_cons (pe_op op_add pe_int (pe_call GT hr (by rfl) mT FT.kp bT .nil pass0 (pa_cons (pv 0) (pa_cons pe_int pa_nil)))) pa_nil))) (pe_tup (pa_cons pe_str pa_nil)))))))))), ?_⟩
    have hsb : ∀ c ∈ [b], c ∈ B := fun c hc => by rw [List.mem_singleton.mp hc]; exact hb
    refine ⟨_, rfl, b, n, 12, rfl, by decide, by decide, hB, by omega, fun r H1 r0 r1 s1 b1 => ?_⟩
    have lv1 : Live B H1 := s1.live lv fun c hc => by rw [List.mem_singleton.mp hc]; exact b1.live
    have tn1 := tn.up hB s1
    have gn1 := gn.up hB s1
    have cn1 : H1 C = some (.lst [.int t]) := s1 _ _ (fun z => Cb (List.mem_singleton.mp z)) cn
    have hS1 := hS.same (s1.hide hsb)
    show Ends.nx _ _ H1
    have hs4 : ∀ {H2 H3 : Hp}, SameX [b] H2 H3 → SameX [b, T, G, C] H2 H3 := fun s => s.sub fun c hc => by rw [List.mem_singleton.mp hc]; exact List.mem_cons_self
    have plain : ∀ {e : Ev} {H3 : Hp} {m : Nat} {p : Addr} {us : List V} {ds : List PyData}, evD e = .tuple ds → evTags e = [] → evTime t e = t → EvOk ps ss.length gs t e → SameX [b] H1 H3 → BoxAt H3 b m → m ≤ n + 100 → H3 p = none → DpAll K (hide B H3) us ds → Q (.ref p) (upd H3 p (.tup us)) := by
      intro e H3 m p us ds e1 e2 e3 hok s3 b3 hm np hds
      have lv3 : Live B H3 := s3.live lv1 fun c hc => by rw [List.mem_singleton.mp hc]; exact b3.live
      have sp := same_upd (o := HO.tup us) np
      refine q _ e ws _ hok (by rw [e2]; rfl) (hs4 (s1.trans (s3.trans (SameX.of sp)))) ((b3.same sp).le (by omega)) (sp _ _ (tn1.up b1 s3)) (by rw [e2, List.append_nil]; exact sp _ _ (gn1.up b1 s3)) (by rw [e3]; exact sp _ _ (s3 _ _ (fun z => Cb (List.mem_singleton.mp z)) cn1)) (by rw [e1]; exact dp_new lv3 np hds)
    obtain ⟨sp, rm, hd⟩ := hS1.at_
    obtain ⟨p, x, y, z, u, rfl, hp, e1, e2, e3, e4⟩ := dp_four hd
    obtain ⟨a3, xs3, rfl, S3, A3⟩ := dp_tupR e3
    have l3 := dps_len A3
    rw [List.length_map] at l3
    have nps := hS.nps
    have lps := hS.lps
    have hp1 := same_seqT (hide_same B H1) hp
    have el : ∀ (i : Nat) (x : V), xs3[i]? = some x → ∃ pn, pn ∈ ps ∧ x = .str pn := by
      intro i x hx
      obtain ⟨d, hd1, hd2⟩ := dps_get A3 hx
      rw [List.getElem?_map, Option.map_eq_some_iff] at hd1
      obtain ⟨pn, hpn, rfl⟩ := hd1
      cases hd2
      exact ⟨pn, List.mem_of_getElem? hpn, rfl⟩
    dsimp only
    refine seq_named (P := fun σ' H' => σ' = [some (.ref b), some (.ref p), some (.ref T), some (.ref G), some (.ref C), some (.int r)] ∧ H' = H1) (fun hR => ?_) ?_
    · refine ⟨_, rfl, _, _, rfl, rfl, _, rfl, ite2 (fun e => ?_) (fun e => iteF (hR _ _ ⟨rfl, rfl⟩))⟩
      refine ⟨_, rfl, T, _, rfl, .inl (SqL.of tn1), _, _, rfl, rfl, _, rfl, ite2 (fun e9 => ?_) (fun e9 => hR _ _ ⟨rfl, rfl⟩)⟩
      have h9 := of_decide_eq_true e9
      rw [List.length_map] at h9
      refine ⟨_, rfl, _, rfl, _, rfl, _, rfl, B, b, n + 1, .ref p, ps, ss, T, G, ws, gs, 4, rfl, hb, hT, hG, TG, lv1, b1, by decide, by decide, by omega, hS1, tn1, gn1, wws, wgs, by omega, by omega, fun v' its ws' H3 fin lm ew s3 b3 tn3 gn3 d3 => ⟨by show 2 ≤ sizeLine; decide, fun p3 n3 => ?_⟩⟩
      have ne3 : ∀ {a : Addr} {gs : List Str}, NmAt H3 a gs → H3 a ≠ none := fun h z => by unfold NmAt at h; rw [z] at h; cases h
      have lv3 : Live B H3 := s3.live lv1 fun c hc => by
        rcases List.mem_cons.mp hc with rfl | hc
        · exact b3.live
        rcases List.mem_cons.mp hc with rfl | hc
        · exact ne3 tn3
        · rw [List.mem_singleton.mp hc]; exact ne3 gn3
      have sp3 := same_upd (o := HO.tup [V.str (Str.ofString "put"), v']) n3
      have s34 : SameX [b, T, G, C] H1 H3 := s3.sub fun c hc => by
        rcases List.mem_cons.mp hc with rfl | hc
        · exact List.mem_cons_self
        rcases List.mem_cons.mp hc with rfl | hc
        · exact List.mem_cons_of_mem _ List.mem_cons_self
        · rw [List.mem_singleton.mp hc]; exact List.mem_cons_of_mem _ (List.mem_cons_of_mem _ List.mem_cons_self)
      have cn3 : H3 C = some (.lst [.int t]) := s3 _ _ (fun z => by
        rcases List.mem_cons.mp z with z | z
        · exact Cb z
        rcases List.mem_cons.mp z with z | z
        · exact CT z
        · exact CG (List.mem_singleton.mp z)) cn1
      exact q _ (.put its) ws' _ ⟨fin, lm⟩ ew ((hs4 s1).trans (s34.trans (SameX.of sp3))) ((b3.same sp3).le (by omega)) (sp3 _ _ tn3) (sp3 _ _ gn3) (sp3 _ _ cn3) (dp_new lv3 n3 (.cons (.str _) (.cons d3 .nil)))
    rintro σ' H' ⟨rfl, rfl⟩
    refine ⟨_, rfl, _, _, rfl, rfl, _, rfl, ite2 (fun e => ?_) (fun e => ?_)⟩
    · refine ⟨_, rfl, _, rfl, .inr (.inl ⟨p, _, 2, .ref a3, rfl, rfl, hp1, atI_nat (j := 2) rfl, b, n + 1, .ref a3, rfl, b1, by omega, .inr ⟨B, a3, xs3, rfl, hb, .inr S3, by omega, by omega, fun i x H3 hx s3 b3 => ?_⟩⟩)⟩
      obtain ⟨pn, hpn, rfl⟩ := el i x hx
      exact ⟨_, rfl, b, _, 3, rfl, by decide, by decide, b3, by omega, fun x H4 wx lx s4 b4 => ⟨by show 3 ≤ sizeLine; decide, fun p5 n5 =>
        plain (e := .give pn x) rfl rfl rfl ⟨hpn, wx, lx⟩ (s3.trans s4) b4 (by omega) n5 (.cons (.str _) (.cons (.str _) (.cons (.str _) .nil)))⟩⟩
    refine ⟨_, rfl, rfl, _, rfl, ite2 (fun e => ?_) (fun e => ?_)⟩
    · refine ⟨_, rfl, _, rfl, .inr (.inl ⟨p, _, 2, .ref a3, rfl, rfl, hp1, atI_nat (j := 2) rfl, b, n + 1, .ref a3, rfl, b1, by omega, .inr ⟨B, a3, xs3, rfl, hb, .inr S3, by omega, by omega, fun i x H3 hx s3 b3 => ?_⟩⟩)⟩
      obtain ⟨pn, hpn, rfl⟩ := el i x hx
      exact ⟨_, rfl, b, _, 3, rfl, by decide, by decide, b3, by omega, fun r4 H4 r40 r41 s4 b4 => ⟨_, _, rfl, rfl, by show 3 ≤ sizeLine; decide, fun p5 n5 =>
        plain (e := .take pn (1 + r4)) rfl rfl rfl ⟨hpn, by omega, by omega⟩ (s3.trans s4) b4 (by omega) n5 (.cons (.str _) (.cons (.str _) (.cons (.int _) .nil)))⟩⟩
    refine ⟨_, rfl, _, _, rfl, rfl, _, rfl, ite2 (fun e => ?_) (fun e => ?_)⟩
    · exact ⟨_, rfl, b, _, 4, rfl, by decide, by decide, b1, by omega, fun r4 H4 r40 r41 s4 b4 => ⟨_, _, rfl, rfl, by show 2 ≤ sizeLine; decide, fun p5 n5 =>
        plain (e := .reap (1 + r4)) rfl rfl rfl ⟨by omega, by omega⟩ s4 b4 (by omega) n5 (.cons (.str _) (.cons (.int _) .nil))⟩⟩
    refine ⟨_, rfl, rfl, _, rfl, ite2 (fun e => ?_) (fun e => ?_)⟩
    · refine ⟨_, rfl, .inl ⟨C, _, 0, .int t, rfl, rfl, SqL.of cn1, atI_nat (j := 0) rfl, _, _, rfl, rfl, _, rfl, b, _, 4, rfl, by decide, by decide, b1, by omega, fun r4 H4 r40 r41 s4 b4 => ⟨_, _, rfl, rfl, ?_⟩⟩⟩
      have cn4 : H4 C = some (.lst [.int t]) := s4 _ _ (fun z => Cb (List.mem_singleton.mp z)) cn1
      refine ⟨_, rfl, C, _, 0, 0, rfl, rfl, cn4, rfl, ?_⟩
      have hC4 : (upd H4 C (.lst [.int (t + 1 + r4)])) C = some (.lst [.int (t + 1 + r4)]) := upd_same
      refine ⟨_, rfl, .inl ⟨C, _, 0, .int (t + 1 + r4), rfl, rfl, SqL.of hC4, atI_nat (j := 0) rfl, by show 2 ≤ sizeLine; decide, fun p5 n5 => ?_⟩⟩
      have lv4 : Live B H4 := s4.live lv1 fun c hc => by rw [List.mem_singleton.mp hc]; exact b4.live
      have sp5 := same_upd (o := HO.tup [V.str (Str.ofString "clock"), V.int (t + 1 + r4)]) n5
      have sC : SameX [b, T, G, C] H4 (upd H4 C (.lst [.int (t + 1 + r4)])) := sameX_upd (List.mem_cons_of_mem _ (List.mem_cons_of_mem _ (List.mem_cons_of_mem _ List.mem_cons_self)))
      exact q _ (.clock (t + 1 + r4)) ws _ ⟨by omega, by omega⟩ rfl ((hs4 (s1.trans s4)).trans (sC.trans (SameX.of sp5))) (((box_upd b4 Cb.symm).same sp5).le (by omega)) (sp5 _ _ (nm_upd (tn1.up b1 s4) CT.symm)) (by rw [show evTags (.clock (t + 1 + r4)) = [] from rfl, List.append_nil]; exact sp5 _ _ (nm_upd (gn1.up b1 s4) CG.symm)) (sp5 _ _ hC4) (dp_new lv4.upd n5 (.cons (.str _) (.cons (.int _) .nil)))
    refine ⟨_, rfl, rfl, _, rfl, ite2 (fun e => ?_) (fun e => ?_)⟩
    · exact ⟨_, rfl, b, _, 2, rfl, by decide, by decide, b1, by omega, fun r4 H4 r40 r41 s4 b4 => ⟨_, _, rfl, rfl, by show 2 ≤ sizeLine; decide, fun p5 n5 =>
        plain (e := .lend (1 + r4)) rfl rfl rfl ⟨by omega, by omega⟩ s4 b4 (by omega) n5 (.cons (.str _) (.cons (.int _) .nil))⟩⟩
    · exact ⟨by show 1 ≤ sizeLine; decide, fun p5 n5 => plain (e := .quiet) rfl rfl rfl trivial (SameX.refl _ _) b1 (by omega) n5 (.cons (.str _) .nil)⟩
end
end KV

namespace KV
open PySem PySem.Spec PyProof.Rows L2 RZ
abbrev sScriptN : Stmt := topS 21
def scTags (evs : List Ev) : List Str := evs.flatMap evTags
def scTime (evs : List Ev) : Int := evs.foldl evTime 0
theorem scTags_snoc (evs : List Ev) (e : Ev) : scTags (evs ++ [e]) = scTags evs ++ evTags e := by
  unfold scTags
  rw [List.flatMap_append]
  show _ ++ (evTags e ++ []) = _
  rw [List.append_nil]
theorem scTime_snoc (evs : List Ev) (e : Ev) : scTime (evs ++ [e]) = evTime (scTime evs) e := by
  unfold scTime
  rw [List.foldl_append]
  rfl
structure ScOk (ps : List Str) (m : Nat) (evs : List Ev) : Prop where
  ok : ∀ i e, evs[i]? = some e → EvOk ps m (scTags (evs.take i)) (scTime (evs.take i)) e
theorem ScOk.snoc {ps : List Str} {m : Nat} {evs : List Ev} {e : Ev} (h : ScOk ps m evs) (h1 : EvOk ps m (scTags evs) (scTime evs) e) : ScOk ps m (evs ++ [e]) := by
  refine ⟨fun i x hx => ?_⟩
  by_cases hi : i < evs.length
  · rw [List.getElem?_append_left hi] at hx
    rw [List.take_append_of_le_length (by omega)]
    exact h.ok i x hx
  · have hle := (List.getElem?_eq_some_iff.mp hx).1
    rw [List.length_append] at hle
    have hi2 : i = evs.length := by
      have : [e].length = 1 := rfl
      omega
    subst hi2
    simp at hx
    have et : (evs ++ [e]).take evs.length = evs := by simp
    rw [et, ← hx]
    exact h1
/-- what stands there while a script is being drawn -/
structure SF (K : PySem.W.Frag) (L : List Addr) (b T G C D : Addr) (v : V) (ps : List Str) (ss : List PyData) (H0 H : Hp) (n : Nat) (ws gs : List Str) (t : Int) (xs : List V) (ds : List PyData) : Prop where
  sx : SameX [b] H0 H
  bx : BoxAt H b n
  tn : NmAt H T ws
  gn : NmAt H G gs
  cn : H C = some (.lst [.int t])
  bt : H D = some (.lst xs)
  dx : DpAll K (hide L H) xs ds
  se : SetH K (hide L H) v ps ss
  lv : Live L H
structure SOk (L : List Addr) (b T G C D : Addr) (H0 : Hp) : Prop where
  hb : b ∈ L
  hT : T ∈ L
  hG : G ∈ L
  hC : C ∈ L
  hD : D ∈ L
  TG : T ≠ G
  CT : C ≠ T
  CG : C ≠ G
  DT : D ≠ T
  DG : D ≠ G
  DC : D ≠ C
  nT : H0 T = none
  nG : H0 G = none
  nC : H0 C = none
  nD : H0 D = none
  nb : H0 b ≠ none
section
variable {K : PySem.W.Frag} {L : List Addr} {b T G C D : Addr} {v : V} {ps : List Str} {ss : List PyData} {H0 H H' : Hp} {n : Nat} {ws gs : List Str} {t : Int} {xs : List V} {ds : List PyData}
theorem SOk.bne (o : SOk L b T G C D H0) : T ≠ b ∧ G ≠ b ∧ C ≠ b ∧ D ≠ b := ⟨fun e => o.nb (e ▸ o.nT), fun e => o.nb (e ▸ o.nG), fun e => o.nb (e ▸ o.nC), fun e => o.nb (e ▸ o.nD)⟩
theorem nm_some {H : Hp} {a : Addr} {gs : List Str} (h : NmAt H a gs) : H a ≠ none := fun z => by unfold NmAt at h; rw [z] at h; cases h
/-- a step that changes the box, the names, the tags ahead and the clock -/
theorem SF.step (o : SOk L b T G C D H0) (h : SF K L b T G C D v ps ss H0 H n ws gs t xs ds) {n' : Nat} {ws' gs' : List Str} {t' : Int} (s : SameX [b, T, G, C] H H') (bx : BoxAt H' b n') (tn : NmAt H' T ws') (gn : NmAt H' G gs') (cn : H' C = some (.lst [.int t'])) : SF K L b T G C D v ps ss H0 H' n' ws' gs' t' xs ds := by
  obtain ⟨Tb, Gb, Cb, Db⟩ := o.bne
  have hs : ∀ c ∈ [b, T, G, C], c ∈ L := fun c hc => by
    simp only [List.mem_cons, List.not_mem_nil, or_false] at hc
    rcases hc with rfl | rfl | rfl | rfl
    · exact o.hb
    · exact o.hT
    · exact o.hG
    · exact o.hC
  refine ⟨fun c ob hc e => ?_, bx, tn, gn, cn, ?_, dps_same (s.hide hs) h.dx, h.se.same (s.hide hs), s.live h.lv fun c hc => ?_⟩
  · refine s c ob (fun z => ?_) (h.sx c ob hc e)
    simp only [List.mem_cons, List.not_mem_nil, or_false] at z hc
    rcases z with z | z | z | z
    · exact hc z
    · rw [z, o.nT] at e; cases e
    · rw [z, o.nG] at e; cases e
    · rw [z, o.nC] at e; cases e
  · refine s _ _ (fun z => ?_) h.bt
    simp only [List.mem_cons, List.not_mem_nil, or_false] at z
    rcases z with z | z | z | z
    · exact Db z
    · exact o.DT z
    · exact o.DG z
    · exact o.DC z
  · simp only [List.mem_cons, List.not_mem_nil, or_false] at hc
    rcases hc with rfl | rfl | rfl | rfl
    · exact bx.live
    · exact nm_some tn
    · exact nm_some gn
    · rw [cn]; exact fun z => nomatch z
theorem SF.box (o : SOk L b T G C D H0) (h : SF K L b T G C D v ps ss H0 H n ws gs t xs ds) {n' : Nat} (s : SameX [b] H H') (bx : BoxAt H' b n') : SF K L b T G C D v ps ss H0 H' n' ws gs t xs ds :=
  h.step o (s.sub fun c hc => by rw [List.mem_singleton.mp hc]; exact List.mem_cons_self) bx (h.tn.up h.bx s) (h.gn.up h.bx s) (s _ _ (fun z => o.bne.2.2.1 (List.mem_singleton.mp z)) h.cn)
theorem SF.alloc (h : SF K L b T G C D v ps ss H0 H n ws gs t xs ds) (s : Same H H') : SF K L b T G C D v ps ss H0 H' n ws gs t xs ds :=
  ⟨h.sx.trans (SameX.of s), h.bx.same s, s _ _ h.tn, s _ _ h.gn, s _ _ h.cn, s _ _ h.bt, dps_same (hide_of_same s) h.dx, h.se.same (hide_of_same s), h.lv.same s⟩
theorem SF.list (o : SOk L b T G C D H0) (h : SF K L b T G C D v ps ss H0 H n ws gs t xs ds) {ys : List V} {es : List PyData} (hx : DpAll K (hide L H) ys es) : SF K L b T G C D v ps ss H0 (upd H D (.lst ys)) n ws gs t ys es := by
  obtain ⟨Tb, Gb, Cb, Db⟩ := o.bne
  exact ⟨sameX_old (D := D) (B := [b]) ((h.sx.sub fun c hc => List.mem_cons_of_mem _ hc).trans (sameX_upd List.mem_cons_self)) o.nD, box_upd h.bx Db.symm, nm_upd h.tn o.DT.symm, nm_upd h.gn o.DG.symm, lst_upd h.cn o.DC.symm, upd_same, by rw [hide_upd_in o.hD]; exact hx, by rw [hide_upd_in o.hD]; exact h.se, h.lv.upd⟩
end
end KV

namespace KV
open PySem PySem.Spec PyProof.Rows L2 RZ
/-- a drawn script: with a stop put in, or without -/
def ScFin (ps : List Str) (m : Nat) (evs : List Ev) : Prop := ∃ evs0, ScOk ps m evs0 ∧ evs0 ≠ [] ∧ (scTags evs0).Nodup ∧ (∀ g ∈ scTags evs0, wordS g = true) ∧ (evs = evs0 ∨ ∃ i, i ≤ evs0.length ∧ evs = evs0.take i ++ .stop :: evs0.drop i)
section
variable {P : Program} {w : World} {K : PySem.W.Frag} {mg : Str → Option Value} {base : Heap}
/-! ### _law_named_script -/
def spScriptN (K : PySem.W.Frag) : Sp := fun vs H Q _ => ∃ (B : List Addr) (b : Addr) (n : Nat) (v : V) (ps : List Str) (ss : List PyData) (m : Nat), vs = [.ref b, v, .int m] ∧ b ∈ B ∧ Live B H ∧ BoxAt H b n ∧ m ≤ 15 ∧ n + 9000 ≤ 2 ^ 40 ∧ SetH K (hide B H) v ps ss ∧
  ∀ (v' : V) (evs : List Ev) (H' : Hp), ScFin ps ss.length evs → evs.length ≤ m + 2 → SameX [b] H H' → BoxAt H' b (n + 4000) → Dp K (hide B H') v' (.tuple (evs.map evD)) → Q v' H'
abbrev nScriptN : List Str := ["_law_box_here", "_law_setup_so", "_law_many_so", "_law_tags_so", "_law_gone", "_law_clock_so", "_law_found", "_law_turn"]
theorem scScriptN : FnScope nScriptN ["_law_box_here", "_law_setup_so", "_law_many_so"] (defScope sScriptN) :=
  ⟨rfl, rfl, rfl, by decide +kernel, rfl, by decide +kernel, by decide +kernel⟩
theorem ok_scriptN {f fT fN fM fE : Addr} {fd fdT fdN fdM fdE : FuncData} {k : Nat} (F : Fun K "_law_named_script" "_law_named_script" sScriptN f fd)
    (FT : Fun K "_law_take" "_law_take" sTake fT fdT) (bT : Binds K fdT ["_law_box_here", "_law_below"] []) (mT : mg "_law_take" = some (.ref fT)) (GT : FnOk P w K mg base CX0 (k + 6) fT fdT ["_law_box_here", "_law_below"] spTake)
    (FN : Fun K "_law_names" "_law_names" sNames fN fdN) (bN : Binds K fdN ["_law_box_here", "_law_many_so"] []) (mN : mg "_law_names" = some (.ref fN)) (GN : FnOk P w K mg base CX0 (k + 6) fN fdN ["_law_box_here", "_law_many_so"] (spNames K))
    (FM : Fun K "_law_lot" "_law_lot" sLot fM fdM) (bM : Binds K fdM ["_law_box_here", "_law_setup_so", "_law_tags_so", "_law_gone", "_law_many_so"] []) (mM : mg "_law_lot" = some (.ref fM)) (GM : FnOk P w K mg base CX0 (k + 6) fM fdM ["_law_box_here", "_law_setup_so", "_law_tags_so", "_law_gone", "_law_many_so"] (spLot K))
    (FE : Fun K "_law_event" "_law_event" sEvent fE fdE) (bE : Binds K fdE ["_law_box_here", "_law_setup_so", "_law_tags_so", "_law_gone", "_law_clock_so"] []) (mE : mg "_law_event" = some (.ref fE)) (GE : FnOk P w K mg base CX0 (k + 6) fE fdE ["_law_box_here", "_law_setup_so", "_law_tags_so", "_law_gone", "_law_clock_so"] (spEvent K))
    (mr : mg "range" = none) (mt : mg "tuple" = none) (ml : mg "len" = none) : FnOk P w K mg base CX0 (k + 7) f fd ["_law_box_here", "_law_setup_so", "_law_many_so"] (spScriptN K) := by
  refine F.ok scScriptN (fun vs H Q E h => ?_) (fun cdv A outer s H vs Q E hr h => ?_)
  · obtain ⟨B, b, n, v, ps, ss, m, rfl, _⟩ := h
    rfl
  · obtain ⟨B, b, n, v, ps, ss, m, rfl, hb, lv, hB, hm, hn, hS, q⟩ := h
    refine ⟨_, pss_cons (ps_par3 (i := 3) (j := 4) (l := 5) rfl scScriptN.nd rfl rfl rfl (by decide) (by decide) (by decide) rfl rfl rfl
        (pa_cons (pe_call GN hr (by rfl) mN FN.kp bN .nil pass0 (pa_cons (pv 0) (pa_cons pe_int pa_nil))) (pa_cons (pe_lst pa_nil) (pa_cons (pe_lst (pa_cons pe_int pa_nil)) pa_nil))) (by rfl))
      (pss_cons (ps_set (i := 6) scScriptN.nd rfl (.inl rfl) (pe_lst (pa_cons (pe_tup (pa_cons pe_str (pa_cons (pe_call GM hr (by rfl) mM FM.kp bM .nil pass0 (pa_cons (pv 0) (pa_cons (pv 1) (pa_cons (pv 3) (pa_cons (pv 4) (pa_cons pe_int pa_nil)))))) pa_nil))) pa_nil)))
      (pss_cons (ps_for PassesOwn.never rfl (pi_range1 (by rfl) mr (pa_cons (pe_call GT hr (by rfl) mT FT.kp bT .nil pass0 (pa_cons (pv 0) (pa_cons (pe_op op_add (pv 2) pe_int) pa_nil))) pa_nil)) (pg_name (i := 7) scScriptN.nd rfl (.inl rfl))
        (pss_one (ps_expr (pe_bm PySem.F.plainAttrs_list PySem.F.slot_list_append PySem.F.type_list_append mt_append (pv 6) (pa_cons (pe_call GE hr (by rfl) mE FE.kp bE .nil pass0 (pa_cons (pv 0) (pa_cons (pv 1) (pa_cons (pv 3) (pa_cons (pv 4) (pa_cons (pv 5) pa_nil)))))) pa_nil)))))
      (pss_cons (ps_if (pt_cmpR op_eq (pe_call GT hr (by rfl) mT FT.kp bT .nil pass0 (pa_cons (pv 0) (pa_cons pe_int pa_nil))) pe_int (nomark _))
        (pss_one (ps_expr (pe_bm PySem.F.plainAttrs_list PySem.F.slot_list_insert PySem.F.type_list_insert mt_insert (pv 6) (pa_cons (pe_call GT hr (by rfl) mT FT.kp bT .nil pass0 (pa_cons (pv 0) (pa_cons (pe_op op_add (pe_callB call_len_seq (by rfl) ml PySem.boot_len (pa_cons (pv 6) pa_nil)) pe_int) pa_nil)))
          (pa_cons (pe_tup (pa_cons pe_str pa_nil)) pa_nil))))) pss_nil)
      (pss_one (ps_ret (pe_callTy call_tuple_of (by rfl) mt PyProof.Rows.boot_tuple (pa_cons (pv 6) pa_nil))))))), ?_⟩
    refine ⟨_, rfl, b, n, 24, rfl, by decide, hB, by omega, fun T ws H1 s1 nT hT nd wf hlen b1 => ⟨by show 0 ≤ sizeLine; decide, fun G nG => ⟨by show 1 ≤ sizeLine; decide, fun C nC => ⟨_, _, _, rfl, ?_⟩⟩⟩⟩
    have bTn : b ≠ T := fun e => hB.live (e ▸ nT)
    have hsub : ∀ c ∈ [b], c ∈ B := fun c hc => by rw [List.mem_singleton.mp hc]; exact hb
    have e1 : Same (hide B H) (hide (T :: B) H1) := SameX.enter (C := [b]) (s1.sub fun c hc => List.mem_cons_of_mem _ hc) hsub nT
    have lv1 : Live (T :: B) H1 := (s1.live lv fun c hc => by rw [List.mem_singleton.mp hc]; exact b1.live).cons hT
    have e2 : Same (hide (T :: B) H1) (hide (G :: T :: B) (upd H1 G (.lst []))) := SameX.enter (C := []) (sameX_upd List.mem_cons_self) (fun _ z => absurd z List.not_mem_nil) nG
    have e3 : Same (hide (G :: T :: B) (upd H1 G (.lst []))) (hide (C :: G :: T :: B) (upd (upd H1 G (.lst [])) C (.lst [.int 0]))) := SameX.enter (C := []) (sameX_upd List.mem_cons_self) (fun _ z => absurd z List.not_mem_nil) nC
    have sG := same_upd (o := HO.lst []) nG
    have sC := same_upd (o := HO.lst [.int 0]) nC
    have TG : T ≠ G := fun e => by rw [e, nG] at hT; cases hT
    have hT2 := sC _ _ (sG _ _ hT)
    have hG2 : (upd (upd H1 G (.lst [])) C (.lst [.int 0])) G = some (.lst []) := sC _ _ upd_same
    have hC2 : (upd (upd H1 G (.lst [])) C (.lst [.int 0])) C = some (.lst [.int 0]) := upd_same
    have CT : C ≠ T := fun e => by rw [e, sG _ _ hT] at nC; cases nC
    have CG : C ≠ G := fun e => by rw [e, upd_same] at nC; cases nC
    have b3 := (b1.same sG).same sC
    have Gb : b ≠ G := fun e => b1.live (e ▸ nG)
    have Cb : b ≠ C := fun e => (b1.same sG).live (e ▸ nC)
    have nG0 : H G = none := by
      cases e : H G with
      | none => rfl
      | some o => rw [s1 G o (fun z => Gb (List.mem_singleton.mp z).symm) e] at nG; cases nG
    have nC0 : H C = none := by
      cases e : H C with
      | none => rfl
      | some o => rw [sG _ _ (s1 C o (fun z => Cb (List.mem_singleton.mp z).symm) e)] at nC; cases nC
    have lv3 : Live (C :: G :: T :: B) (upd (upd H1 G (.lst [])) C (.lst [.int 0])) := ((((lv1.same sG).cons (o := .lst []) upd_same)).same sC).cons hC2
    have hS3 := hS.same (e1.trans (e2.trans e3))
    have s3 : SameX [b] H (upd (upd H1 G (.lst [])) C (.lst [.int 0])) := s1.trans (SameX.of (sG.trans sC))
    show Ends.nx _ _ (upd (upd H1 G (.lst [])) C (.lst [.int 0]))
    generalize upd (upd H1 G (.lst [])) C (.lst [.int 0]) = H3 at hT2 hG2 hC2 b3 lv3 hS3 s3
    have bm : b ∈ C :: G :: T :: B := List.mem_cons_of_mem _ (List.mem_cons_of_mem _ (List.mem_cons_of_mem _ hb))
    have Tm : T ∈ C :: G :: T :: B := List.mem_cons_of_mem _ (List.mem_cons_of_mem _ List.mem_cons_self)
    have Gm : G ∈ C :: G :: T :: B := List.mem_cons_of_mem _ List.mem_cons_self
    refine ⟨_, rfl, _, rfl, _, rfl, _, rfl, C :: G :: T :: B, b, _, v, ps, ss, T, G, ws, [], 4, rfl, bm, Tm, Gm, TG, lv3, b3, by decide, by decide, by omega, hS3, hT2, hG2, wf, fun g z => absurd z List.not_mem_nil, by omega, by decide, fun v4 its ws4 H4 fin4 lm4 ew4 s4 b4 tn4 gn4 d4 => ⟨by show 2 ≤ sizeLine; decide, fun p5 n5 => ⟨by show 1 ≤ sizeLine; decide, fun D nD => ?_⟩⟩⟩
    have u5 := same_upd (o := HO.tup [V.str (Str.ofString "put"), v4]) n5
    have nD4 : H4 D = none := by
      cases e : H4 D with
      | none => rfl
      | some o => rw [u5 _ _ e] at nD; cases nD
    have Tb : T ≠ b := bTn.symm
    have s34 : SameX [b, T, G] H H4 := (s3.sub fun c hc => by rw [List.mem_singleton.mp hc]; exact List.mem_cons_self).trans s4
    have Db : D ≠ b := fun e => b4.live (e ▸ nD4)
    have DT : D ≠ T := fun e => nm_some tn4 (e ▸ nD4)
    have DG : D ≠ G := fun e => nm_some gn4 (e ▸ nD4)
    have nD0 : H D = none := by
      cases e : H D with
      | none => rfl
      | some o =>
        rw [s34 D o (fun z => by
          rcases List.mem_cons.mp z with z | z
          · exact Db z
          rcases List.mem_cons.mp z with z | z
          · exact DT z
          · exact DG (List.mem_singleton.mp z)) e] at nD4
        cases nD4
    have cn4 : H4 C = some (.lst [.int 0]) := s4 _ _ (fun z => by
      rcases List.mem_cons.mp z with z | z
      · exact Cb z.symm
      rcases List.mem_cons.mp z with z | z
      · exact CT z
      · exact CG (List.mem_singleton.mp z)) hC2
    have DC : D ≠ C := fun e => by rw [e, cn4] at nD4; cases nD4
    have hs3 : ∀ c ∈ [b, T, G], c ∈ C :: G :: T :: B := fun c hc => by
      simp only [List.mem_cons, List.not_mem_nil, or_false] at hc
      rcases hc with rfl | rfl | rfl
      · exact bm
      · exact Tm
      · exact Gm
    have lv4 : Live (C :: G :: T :: B) H4 := s4.live lv3 fun c hc => by
      simp only [List.mem_cons, List.not_mem_nil, or_false] at hc
      rcases hc with rfl | rfl | rfl
      · exact b4.live
      · exact nm_some tn4
      · exact nm_some gn4
    have k5 : Dp K (hide (C :: G :: T :: B) (upd H4 p5 (.tup [.str "put", v4]))) (.ref p5) (evD (.put its)) := dp_new lv4 n5 (.cons (.str _) (.cons d4 .nil))
    have oD : SOk (D :: C :: G :: T :: B) b T G C D H := ⟨List.mem_cons_of_mem _ bm, List.mem_cons_of_mem _ Tm, List.mem_cons_of_mem _ Gm, List.mem_cons_of_mem _ List.mem_cons_self, List.mem_cons_self, TG, CT, CG, DT, DG, DC, nT, nG0, nC0, nD0, hB.live⟩
    have uD := same_upd (o := HO.lst [V.ref p5]) nD
    have eD : Same (hide (C :: G :: T :: B) (upd H4 p5 (.tup [.str "put", v4]))) (hide (D :: C :: G :: T :: B) (upd (upd H4 p5 (.tup [.str "put", v4])) D (.lst [.ref p5]))) := SameX.enter (C := []) (sameX_upd List.mem_cons_self) (fun _ z => absurd z List.not_mem_nil) nD
    have u56 := u5.trans uD
    have sf0 : SF K (D :: C :: G :: T :: B) b T G C D v ps ss H (upd (upd H4 p5 (.tup [.str "put", v4])) D (.lst [.ref p5])) (n + 700) ws4 (scTags [.put its]) (scTime [.put its]) [.ref p5] ([Ev.put its].map evD) := by
      refine ⟨fun c o hc e => u56 _ _ (s34 c o (fun z => ?_) e), (b4.same u56).le (by omega), u56 _ _ tn4, ?_, u56 _ _ cn4, upd_same, .cons (dp_same eD k5) .nil, hS3.same ((s4.hide hs3).trans ((hide_of_same u5).trans eD)), ((lv4.same u5).same uD).cons (o := .lst [.ref p5]) upd_same⟩
      · simp only [List.mem_cons, List.not_mem_nil, or_false] at z hc
        rcases z with z | z | z
        · exact hc z
        · rw [z, nT] at e; cases e
        · rw [z, nG0] at e; cases e
      · have et : scTags [.put its] = [] ++ lotTags its := by
          show lotTags its ++ [] = _
          rw [List.append_nil]
          rfl
        rw [et]
        exact u56 _ _ gn4
    have so0 : ScOk ps ss.length [.put its] := by
      refine ⟨fun i x hx => ?_⟩
      cases i with
      | zero =>
        cases hx
        exact ⟨fin4, lm4⟩
      | succ i => cases hx
    have ew0 : ws = scTags [.put its] ++ ws4 := by
      show ws = (lotTags its ++ []) ++ ws4
      rw [List.append_nil]
      exact ew4
    show Ends.nx _ _ (upd (upd H4 p5 (.tup [.str "put", v4])) D (.lst [.ref p5]))
    generalize upd (upd H4 p5 (.tup [.str "put", v4])) D (.lst [.ref p5]) = H6 at sf0
    have mL : ∀ c ∈ [b], c ∈ D :: C :: G :: T :: B := fun c hc => by rw [List.mem_singleton.mp hc]; exact oD.hb
    refine ⟨_, rfl, _, rfl, _, _, rfl, rfl, b, _, _, rfl, by omega, by omega, sf0.bx, by omega, fun r H7 r0 r1 s7 b7 => ?_⟩
    have sf1 := sf0.box oD s7 b7
    refine ⟨r, rfl, by omega, by omega, for_range (lo := 0) (n := r.toNat) (fun i σ H' => ∃ (y7 : Option V) (evs : List Ev) (ws' : List Str) (xs : List V), σ = [some (.ref b), some v, some (.int m), some (.ref T), some (.ref G), some (.ref C), some (.ref D), y7] ∧
        SF K (D :: C :: G :: T :: B) b T G C D v ps ss H H' (n + 701 + 110 * i) ws' (scTags evs) (scTime evs) xs (evs.map evD) ∧ ScOk ps ss.length evs ∧ evs.length = i + 1 ∧ ws = scTags evs ++ ws')
      ⟨none, _, _, _, rfl, sf1, so0, rfl, ew0⟩ ?_ ?_⟩
    · rintro i σ H' hi ⟨y7, evs, ws', xs, rfl, sf, so, le, hw⟩
      have lw : ws.length = (scTags evs).length + ws'.length := by rw [hw, List.length_append]
      have lx := dps_len sf.dx
      rw [List.length_map] at lx
      have wall : ∀ g ∈ scTags evs, wordS g = true := fun g hg => wf g (by rw [hw]; exact List.mem_append_left _ hg)
      have wall2 : ∀ g ∈ ws', wordS g = true := fun g hg => wf g (by rw [hw]; exact List.mem_append_right _ hg)
      refine ⟨_, rfl, .inl ⟨rfl, _, .inl (.inl sf.bt)⟩, _, rfl, _, rfl, _, rfl, _, rfl, _, rfl, D :: C :: G :: T :: B, b, _, v, ps, ss, T, G, C, ws', scTags evs, scTime evs, rfl, oD.hb, oD.hT, oD.hG, oD.hC, TG, CT, CG, Cb.symm, sf.lv, sf.bx, by omega, sf.se, sf.tn, sf.gn, sf.cn, wall2, wall, by omega, by omega, fun v8 e ws2 H8 eok ew s8 b8 tn8 gn8 cn8 d8 => ?_⟩
      have sf8 := sf.step oD s8 b8 tn8 gn8 cn8
      have sf9 := sf8.list oD (dps_snoc sf8.dx d8)
      refine ⟨D, _, v8, rfl, rfl, sf8.bt, small1000 (by omega), ?_⟩
      refine ⟨_, evs ++ [e], ws2, xs ++ [v8], rfl, ?_, so.snoc eok, by rw [List.length_append, le]; rfl, by rw [scTags_snoc, hw, ew, List.append_assoc]⟩
      rw [scTags_snoc, scTime_snoc, List.map_append]
      exact sf9
    · rintro σ H' ⟨y7, evs, ws', xs, rfl, sf, so, le, hw⟩
      have lx := dps_len sf.dx
      rw [List.length_map] at lx
      have hne : evs ≠ [] := fun z => by rw [z] at le; cases le
      have hnd : (scTags evs).Nodup := by
        rw [hw] at nd
        exact (List.nodup_append.mp nd).1
      have wall : ∀ g ∈ scTags evs, wordS g = true := fun g hg => wf g (by rw [hw]; exact List.mem_append_left _ hg)
      have hr : r.toNat ≤ m := by omega
      show Ends.nx _ _ H'
      dsimp only
      refine seq_named (P := fun σ' H9 => ∃ (n' : Nat) (evs' : List Ev) (xs' : List V), σ' = [some (.ref b), some v, some (.int m), some (.ref T), some (.ref G), some (.ref C), some (.ref D), y7] ∧
        SF K (D :: C :: G :: T :: B) b T G C D v ps ss H H9 n' ws' (scTags evs) (scTime evs) xs' (evs'.map evD) ∧ n' ≤ n + 3900 ∧ ScFin ps ss.length evs' ∧ evs'.length ≤ m + 2 ∧ xs'.length ≤ 100) (fun hR => ?_) ?_
      · refine ⟨_, rfl, b, _, 6, rfl, by decide, by decide, sf.bx, by omega, fun r2 H9 r20 r21 s9 b9 => ⟨rfl, _, rfl, ite2 (fun e => ?_) (fun e => ?_)⟩⟩
        · have sf9 := sf.box oD s9 b9
          refine ⟨_, rfl, .inl ⟨rfl, _, .inl (.inl sf9.bt)⟩, _, rfl, _, rfl, D, _, rfl, .inl (SqL.of sf9.bt), _, _, rfl, rfl, b, _, _, rfl, by omega, by omega, sf9.bx, by omega, fun r3 H10 r30 r31 s10 b10 => ⟨by show 1 ≤ sizeLine; decide, fun p6 n6 => ?_⟩⟩
          have sf10 := sf9.box oD s10 b10
          have u6 := same_upd (o := HO.tup [V.str (Str.ofString "stop")]) n6
          have sf11 := sf10.alloc u6
          have k6 : Dp K (hide (D :: C :: G :: T :: B) (upd H10 p6 (.tup [.str "stop"]))) (.ref p6) (evD .stop) := dp_new sf10.lv n6 (.cons (.str _) .nil)
          have hk : r3.toNat ≤ evs.length := by omega
          have sf12 := sf11.list oD (dps_app (dps_app (dps_take r3.toNat sf11.dx) (.cons k6 .nil)) (dps_drop r3.toNat sf11.dx))
          refine ⟨D, _, r3, _, rfl, rfl, sf11.bt, small1000 (by omega), r30, by omega, ?_⟩
          refine hR _ _ ⟨n + 701 + 110 * r.toNat + 1 + 1, evs.take r3.toNat ++ .stop :: evs.drop r3.toNat, xs.take r3.toNat ++ [.ref p6] ++ xs.drop r3.toNat, rfl, ?_, ?_, ⟨evs, so, hne, hnd, wall, .inr ⟨r3.toNat, hk, rfl⟩⟩, ?_, ?_⟩
          · rw [List.map_append, List.map_cons, List.map_take, List.map_drop]
            rw [show (evs.map evD).take r3.toNat ++ evD .stop :: (evs.map evD).drop r3.toNat = (evs.map evD).take r3.toNat ++ [evD .stop] ++ (evs.map evD).drop r3.toNat by rw [List.append_assoc]; rfl]
            exact sf12
          · omega
          · rw [List.length_append, List.length_cons, List.length_take, List.length_drop]
            omega
          · rw [List.length_append, List.length_append, List.length_take, List.length_drop]
            show _ + 1 + _ ≤ 100
            omega
        · exact hR _ _ ⟨_, evs, xs, rfl, sf.box oD s9 b9, by omega, ⟨evs, so, hne, hnd, wall, .inl rfl⟩, by omega, by omega⟩
      · rintro σ9 H9 ⟨n9, evs', xs', rfl, sf9, hn9, hfin, hl9, hx9⟩
        refine ⟨_, rfl, D, _, rfl, .inl ⟨SqL.of sf9.bt, fun p7 n7 => ?_⟩⟩
        have u7 := same_upd (o := HO.tup xs') n7
        have leave : Same (hide (D :: C :: G :: T :: B) H9) (hide B H9) := hide_leave.trans (hide_leave.trans (hide_leave.trans hide_leave))
        have lvB : Live B H9 := sf9.lv.tail.tail.tail.tail
        exact q _ evs' _ hfin hl9 (sf9.sx.trans (SameX.of u7)) ((sf9.bx.same u7).le (by omega)) (dp_new lvB n7 (dps_same leave sf9.dx))
end
end KV

namespace KV
open PySem PySem.Spec PyProof.Rows L2 RZ
/-! ### what reads so, lists for tuples -/
/-- v reads as e, but for lists in the place of tuples -/
def VT (K : PySem.W.Frag) (H : Hp) (v : V) (e : PyData) : Prop := ∃ d, Dp K H v d ∧ tupD d = e
theorem VT.same {K : PySem.W.Frag} {H H' : Hp} {v : V} {e : PyData} (h : VT K H v e) (s : Same H H') : VT K H' v e := by
  obtain ⟨d, h1, h2⟩ := h
  exact ⟨d, dp_same s h1, h2⟩
theorem tup_inv {d : PyData} {es : List PyData} (h : tupD d = .tuple es) : ∃ ds, (d = .list ds ∨ d = .tuple ds) ∧ ds.map tupD = es := by
  cases d with
  | list xs =>
    simp only [tupD, PyData.tuple.injEq, tupDs_map] at h
    exact ⟨xs, .inl rfl, h⟩
  | tuple xs =>
    simp only [tupD, PyData.tuple.injEq, tupDs_map] at h
    exact ⟨xs, .inr rfl, h⟩
  | none => simp [tupD] at h
  | bool b => simp [tupD] at h
  | int i => simp [tupD] at h
  | str s => simp [tupD] at h
  | dict k => simp [tupD] at h
theorem VT.seq {K : PySem.W.Frag} {H : Hp} {v : V} {es : List PyData} (h : VT K H v (.tuple es)) : ∃ a xs, v = .ref a ∧ (SqL K H a xs ∨ SqT K H a xs) ∧ xs.length = es.length ∧ ∀ (i : Nat) (e : PyData), es[i]? = some e → ∃ x, xs[i]? = some x ∧ VT K H x e := by
  obtain ⟨d, h1, h2⟩ := h
  obtain ⟨ds, hk, hm⟩ := tup_inv h2
  have hs : isSeq d = true := by rcases hk with rfl | rfl <;> rfl
  obtain ⟨a, xs, ds', rfl, hq, hall⟩ := dp_seq h1 hs
  have e1 : ds' = ds := by
    rcases hk with rfl | rfl <;> rcases hq with ⟨_, e⟩ | ⟨_, e⟩ <;> cases e <;> rfl
  subst e1
  refine ⟨a, xs, rfl, hq.imp And.left And.left, by rw [← hm, List.length_map, dps_len hall], fun i e he => ?_⟩
  rw [← hm, List.getElem?_map, Option.map_eq_some_iff] at he
  obtain ⟨d', he, rfl⟩ := he
  obtain ⟨x, hx, hd⟩ := dps_get' hall he
  exact ⟨x, hx, d', hd, rfl⟩
theorem VT.str {K : PySem.W.Frag} {H : Hp} {v : V} {s : Str} (h : VT K H v (.str s)) : v = .str s := by
  obtain ⟨d, h1, h2⟩ := h
  cases d with
  | str x =>
    simp only [tupD, PyData.str.injEq] at h2
    subst h2
    cases h1
    rfl
  | list xs => simp [tupD] at h2
  | tuple xs => simp [tupD] at h2
  | none => simp [tupD] at h2
  | bool b => simp [tupD] at h2
  | int i => simp [tupD] at h2
  | dict k => simp [tupD] at h2
theorem ix_vt {K : PySem.W.Frag} {H : Hp} {a : Addr} {xs : List V} {i : Nat} {v : V} {Q : VK} (h : SqL K H a xs ∨ SqT K H a xs) (e : xs[i]? = some v) (q : Q v H) : rIx K (.ref a) (.int i) H Q := by
  rcases h with h | h
  · exact .inl ⟨a, xs, i, v, rfl, rfl, h, atI_nat e, q⟩
  · exact .inr (.inl ⟨a, xs, i, v, rfl, rfl, h, atI_nat e, q⟩)
/-! ### requests one behind the other, and their chains -/
structure Rq where
  tag : Str
  wd : Str
  rest : List PyData
  words : List Str
def rqD (r : Rq) : PyData := .tuple [.str r.tag, .tuple (.str r.wd :: r.rest), .tuple (r.words.map PyData.str)]
def isT (r : Rq) : Bool := decide (r.wd = Str.ofString "linktimeout")
def bindsR (r : Rq) : Bool := decide (Str.ofString "link" ∈ r.words) || decide (Str.ofString "hard" ∈ r.words)
abbrev Chn := List (Str × Option Str)
def pairD (x : Str × Option Str) : PyData := .tuple [.str x.1, oD x.2]
def chnD (c : Chn) : PyData := .tuple (c.map pairD)
def setL (c : Chn) (t : Str) : Chn := match c.getLast? with
  | none => c
  | some x => c.dropLast ++ [(x.1, some t)]
def progP : Chn → List Rq → List Chn
  | c, [] => if c = [] then [] else [c]
  | c, r :: rs => if isT r = true then progP (setL c r.tag) rs else if bindsR r = true then progP (c ++ [(r.tag, none)]) rs else (c ++ [(r.tag, none)]) :: progP [] rs
structure LS where
  f : List Chn
  t : Option Str
  rest : Chn
def lawS (s : LS) (r : Rq) : LS :=
  if isT r = true then ⟨s.f, some r.tag, s.rest⟩
  else if (!bindsR r && !decide (s.rest = [])) = true then ⟨s.rest :: s.f, none, [(r.tag, s.t)]⟩ else ⟨s.f, none, (r.tag, s.t) :: s.rest⟩
def lawL : List Rq → LS
  | [] => ⟨[], none, []⟩
  | r :: rs => lawS (lawL rs) r
def notT : List Rq → Bool
  | [] => true
  | r :: _ => !isT r
inductive WfR : Bool → List Rq → Prop
  | nil (b : Bool) : WfR b []
  | one {b : Bool} {r : Rq} {rs : List Rq} : isT r = false → bindsR r = true → WfR true rs → WfR b (r :: rs)
  | last {b : Bool} {r : Rq} {rs : List Rq} : isT r = false → bindsR r = false → notT rs = true → WfR false rs → WfR b (r :: rs)
  | timer {r : Rq} {rs : List Rq} : isT r = true → notT rs = true → WfR true rs → WfR true (r :: rs)
def setT (c : Chn) : Option Str → Chn
  | none => c
  | some t => setL c t
theorem setL_snoc (c : Chn) (x : Str × Option Str) (t : Str) : setL (c ++ [x]) t = c ++ [(x.1, some t)] := by
  unfold setL
  rw [List.getLast?_concat]
  show (c ++ [x]).dropLast ++ _ = _
  rw [List.dropLast_concat]
theorem notT_none : ∀ {rs : List Rq}, notT rs = true → (lawL rs).t = none
  | [], _ => rfl
  | r :: rs, h => by
    have h1 : (!isT r) = true := h
    rw [Bool.not_eq_true'] at h1
    show (lawS (lawL rs) r).t = none
    unfold lawS
    rw [h1, if_neg (by decide)]
    split <;> rfl
theorem rest_nil : ∀ {rs : List Rq}, (lawL rs).rest = [] → (lawL rs).f = []
  | [], _ => rfl
  | r :: rs, h => by
    have h1 : (lawS (lawL rs) r).rest = [] := h
    show (lawS (lawL rs) r).f = []
    unfold lawS at h1 ⊢
    by_cases h2 : isT r = true
    · rw [if_pos h2] at h1 ⊢
      exact rest_nil h1
    · rw [if_neg h2] at h1 ⊢
      split at h1 <;> cases h1
theorem chains_eq : ∀ {rs : List Rq} {b : Bool} (c : Chn), WfR b rs → (c = [] → b = false) →
    progP c rs = (if c = [] then (if (lawL rs).rest = [] then [] else (lawL rs).rest :: (lawL rs).f) else (setT c (lawL rs).t ++ (lawL rs).rest) :: (lawL rs).f)
  | [], b, c, h, hc => by
    show (if c = [] then [] else [c]) = _
    by_cases h1 : c = []
    · rw [if_pos h1, if_pos h1]
      rfl
    · rw [if_neg h1, if_neg h1]
      show [c] = [c ++ []]
      rw [List.append_nil]
  | r :: rs, b, c, h, hc => by
    cases h with
    | one h1 h2 h3 =>
      have ih := chains_eq (c ++ [(r.tag, none)]) h3 (fun z => by simp at z)
      rw [if_neg (by simp)] at ih
      have el : lawL (r :: rs) = ⟨(lawL rs).f, none, (r.tag, (lawL rs).t) :: (lawL rs).rest⟩ := by
        show lawS (lawL rs) r = _
        unfold lawS
        rw [h1, h2, if_neg (by decide), if_neg (by simp)]
      have ep : progP c (r :: rs) = progP (c ++ [(r.tag, none)]) rs := by
        show (if isT r = true then _ else if bindsR r = true then _ else _) = _
        rw [h1, h2, if_neg (by decide), if_pos rfl]
      have es : setT (c ++ [(r.tag, none)]) (lawL rs).t = c ++ [(r.tag, (lawL rs).t)] := by
        cases (lawL rs).t with
        | none => rfl
        | some t => exact setL_snoc c _ t
      rw [ep, ih, es, el]
      by_cases hn : c = []
      · rw [if_pos hn, if_neg (by simp), hn]
        rfl
      · rw [if_neg hn]
        show _ = (c ++ _) :: _
        rw [List.append_assoc]
        rfl
    | last h1 h2 h3 h4 =>
      have ih := chains_eq [] h4 (fun _ => rfl)
      rw [if_pos rfl] at ih
      have tn := notT_none h3
      have ep : progP c (r :: rs) = (c ++ [(r.tag, none)]) :: progP [] rs := by
        show (if isT r = true then _ else if bindsR r = true then _ else _) = _
        rw [h1, h2, if_neg (by decide), if_neg (by decide)]
      have el : lawL (r :: rs) = (if (lawL rs).rest = [] then ⟨(lawL rs).f, none, [(r.tag, none)]⟩ else ⟨(lawL rs).rest :: (lawL rs).f, none, [(r.tag, none)]⟩) := by
        show lawS (lawL rs) r = _
        unfold lawS
        rw [h1, h2, tn, if_neg (by decide)]
        by_cases hr : (lawL rs).rest = []
        · rw [decide_eq_true hr, if_neg (by decide), if_pos hr, hr]
        · rw [decide_eq_false hr, if_pos (by decide), if_neg hr]
      rw [ep, ih, el]
      by_cases hr : (lawL rs).rest = []
      · rw [if_pos hr, if_pos hr, rest_nil hr]
        by_cases hn : c = []
        · rw [if_pos hn, if_neg (by simp), hn]
          rfl
        · rw [if_neg hn]
          rfl
      · rw [if_neg hr, if_neg hr]
        by_cases hn : c = []
        · rw [if_pos hn, if_neg (by simp), hn]
          rfl
        · rw [if_neg hn]
          rfl
    | timer h1 h2 h3 =>
      have hn : c ≠ [] := fun z => by cases hc z
      have tn := notT_none h2
      have hne : setL c r.tag ≠ [] := by
        unfold setL
        cases hg : c.getLast? with
        | none => exact absurd (List.getLast?_eq_none_iff.mp hg) hn
        | some x => simp
      have ih := chains_eq (setL c r.tag) h3 (fun z => absurd z hne)
      rw [if_neg hne, tn] at ih
      have ep : progP c (r :: rs) = progP (setL c r.tag) rs := by
        show (if isT r = true then _ else _) = _
        rw [h1, if_pos rfl]
      have el : lawL (r :: rs) = ⟨(lawL rs).f, some r.tag, (lawL rs).rest⟩ := by
        show lawS (lawL rs) r = _
        unfold lawS
        rw [h1, if_pos rfl]
      rw [ep, ih, el, if_neg hn]
      rfl
end KV

namespace KV
open PySem PySem.Spec PyProof.Rows L2 RZ
def hdW : PyData → Str
  | .tuple (.str w :: _) => w
  | _ => ""
def tlW : PyData → List PyData
  | .tuple (_ :: r) => r
  | _ => []
def rqOf (it : It) : Rq := ⟨it.tag, hdW it.deed, tlW it.deed, itWords it⟩
def rqTm (t : Str × Int) : Rq := ⟨t.1, "linktimeout", [.int t.2], []⟩
def tmRqs : Option (Str × Int) → List Rq
  | none => []
  | some t => [rqTm t]
def itRqs (it : It) : List Rq := rqOf it :: tmRqs it.timer
def lotRqs (its : List It) : List Rq := its.flatMap itRqs
/-- what is asked of an item -/
structure ItWf (it : It) : Prop where
  deed : ∃ w, wordD w it.deed ∧ w ≠ Str.ofString "linktimeout"
  tm : it.timer.isSome = true → it.ln.isSome = true
theorem ItOk.wf {ps : List Str} {m : Nat} {gs : List Str} {it : It} (h : ItOk ps m gs it) : ItWf it := by
  refine ⟨h.deed.word, fun z => ?_⟩
  cases ht : it.timer with
  | none => rw [ht] at z; cases z
  | some t => exact (h.tm t ht).1
theorem LotOk.wf {ps : List Str} {m : Nat} {gs : List Str} {its : List It} (h : LotOk ps m gs its) : ∀ it ∈ its, ItWf it := by
  intro it hit
  obtain ⟨i, hi, e⟩ := List.getElem_of_mem hit
  exact (h.ok i it (by rw [List.getElem?_eq_getElem hi, e])).wf
theorem rq_it {it : It} (h : ItWf it) : (itRqs it).map rqD = itDs it := by
  obtain ⟨⟨w, ⟨rest, hd⟩, _⟩, _⟩ := h
  have e1 : rqD (rqOf it) = itD it := by
    unfold rqD rqOf itD
    rw [hd]
    rfl
  unfold itRqs itDs
  rw [List.map_cons, e1]
  cases it.timer <;> rfl
theorem rq_lot : ∀ {its : List It}, (∀ it ∈ its, ItWf it) → (lotRqs its).map rqD = lotDs its
  | [], _ => rfl
  | it :: its, h => by
    show (itRqs it ++ lotRqs its).map rqD = itDs it ++ lotDs its
    rw [List.map_append, rq_it (h it List.mem_cons_self), rq_lot fun x hx => h x (List.mem_cons_of_mem _ hx)]
theorem rq_tags : ∀ its : List It, (lotRqs its).map Rq.tag = lotTags its
  | [] => rfl
  | it :: its => by
    show (itRqs it ++ lotRqs its).map Rq.tag = itTags it ++ lotTags its
    rw [List.map_append, rq_tags its]
    congr 1
    unfold itRqs itTags
    cases it.timer <;> rfl
theorem bindF (dr pk si : Bool) (ln : Option Bool) : (decide (Str.ofString "link" ∈ wordsF dr pk si ln) || decide (Str.ofString "hard" ∈ wordsF dr pk si ln)) = ln.isSome := by
  rcases ln with _ | _ | _ <;> cases dr <;> cases pk <;> cases si <;> decide +kernel
theorem bind_it (it : It) : bindsR (rqOf it) = it.ln.isSome := bindF _ _ _ _
theorem isT_it {it : It} (h : ItWf it) : isT (rqOf it) = false := by
  obtain ⟨⟨w, ⟨rest, hd⟩, hw⟩, _⟩ := h
  show decide (hdW it.deed = _) = false
  rw [hd]
  exact decide_eq_false hw
theorem wf_lot : ∀ {its : List It}, (∀ it ∈ its, ItWf it) → (∀ b, WfR b (lotRqs its)) ∧ notT (lotRqs its) = true
  | [], _ => ⟨fun b => .nil b, rfl⟩
  | it :: its, h => by
    have hi := h it List.mem_cons_self
    obtain ⟨ih, nt⟩ := wf_lot (its := its) fun x hx => h x (List.mem_cons_of_mem _ hx)
    have h1 := isT_it hi
    have h2 := bind_it it
    have nt0 : notT (rqOf it :: (tmRqs it.timer ++ lotRqs its)) = true := by
      show (!isT (rqOf it)) = true
      rw [h1]
      rfl
    refine ⟨fun b => ?_, nt0⟩
    show WfR b (rqOf it :: (tmRqs it.timer ++ lotRqs its))
    cases ht : it.timer with
    | some t =>
      rw [hi.tm (by rw [ht]; rfl)] at h2
      refine .one h1 h2 ?_
      show WfR true (rqTm t :: lotRqs its)
      exact .timer (by unfold isT rqTm; exact decide_eq_true rfl) nt (ih true)
    | none =>
      cases hl : it.ln.isSome with
      | true =>
        rw [hl] at h2
        exact .one h1 h2 (ih true)
      | false =>
        rw [hl] at h2
        exact .last h1 h2 nt (ih false)
theorem lotRqs_ne {its : List It} (h : its ≠ []) : lotRqs its ≠ [] := by
  cases its with
  | nil => exact absurd rfl h
  | cons it its => exact fun z => by cases z
/-! ### the data of a lot is small -/
theorem okGet {lf : PyData → Bool} {L n : Nat} {ds : List PyData} {e : PyData} (h : gDs lf L ds n = true) (k : e ∈ ds) : gD lf L e n = true := by
  rw [gDs_all, List.all_eq_true] at h
  exact h e k
def nodesN (L : Nat) : Nat → Nat
  | 0 => 0
  | n + 1 => L * nodesN L n + 1
mutual
theorem gD_nodes {lf : PyData → Bool} {L : Nat} : ∀ (d : PyData) (n : Nat), gD lf L d n = true → nodesD d ≤ nodesN L n
  | .list xs, n, h => by
    obtain ⟨m, rfl, h1, h2⟩ := gD_seq (.inl rfl) h
    have h3 := gDs_nodes xs m h2
    have h4 := Nat.mul_le_mul_right (nodesN L m) h1
    simp only [nodesD, nodesN]
    omega
  | .tuple xs, n, h => by
    obtain ⟨m, rfl, h1, h2⟩ := gD_seq (.inr rfl) h
    have h3 := gDs_nodes xs m h2
    have h4 := Nat.mul_le_mul_right (nodesN L m) h1
    simp only [nodesD, nodesN]
    omega
  | .none, n, _ => Nat.zero_le _
  | .bool _, n, _ => Nat.zero_le _
  | .int _, n, _ => Nat.zero_le _
  | .str _, n, _ => Nat.zero_le _
  | .dict _, n, _ => Nat.zero_le _
theorem gDs_nodes {lf : PyData → Bool} {L : Nat} : ∀ (ds : List PyData) (n : Nat), gDs lf L ds n = true → nodesDs ds ≤ ds.length * nodesN L n
  | [], n, _ => Nat.zero_le _
  | d :: ds, n, h => by
    simp only [gDs, Bool.and_eq_true] at h
    have h1 := gD_nodes d n h.1
    have h2 := gDs_nodes ds n h.2
    simp only [nodesDs, List.length_cons, Nat.succ_mul]
    omega
end
theorem lotTags_word {ps : List Str} {m : Nat} {gs : List Str} {its : List It} (h : LotOk ps m gs its) : ∀ y ∈ lotTags its, wordS y = true := by
  intro y hy
  obtain ⟨it, hit, hy2⟩ := List.mem_flatMap.mp hy
  obtain ⟨i, hi, e⟩ := List.getElem_of_mem hit
  exact itTags_word (h.ok i it (by rw [List.getElem?_eq_getElem hi, e])) y hy2
theorem lot_good4 {ps : List Str} {m : Nat} {gs : List Str} {its : List It} (h : LotOk ps m gs its) (hm : m ≤ 5) (wp : ∀ p ∈ ps, wordS p = true) (wg : ∀ g ∈ gs, wordS g = true) : gDs lf4 5 (lotDs its) 4 = true := by
  rw [gDs_all, List.all_eq_true]
  intro e he
  obtain ⟨it, hit, he2⟩ := List.mem_flatMap.mp he
  obtain ⟨i, hi, ei⟩ := List.getElem_of_mem hit
  have hk := h.ok i it (by rw [List.getElem?_eq_getElem hi, ei])
  refine okGet (itD_good4 hk hm wp fun g hg => ?_) he2
  rcases List.mem_append.mp hg with hg | hg
  · exact wg g hg
  · refine lotTags_word h g ?_
    obtain ⟨x, hx, hgx⟩ := List.mem_flatMap.mp hg
    exact List.mem_flatMap.mpr ⟨x, List.mem_of_mem_take hx, hgx⟩
theorem lot_show {ps : List Str} {m : Nat} {gs : List Str} {its : List It} (h : LotOk ps m gs its) (hm : m ≤ 5) (wp : ∀ p ∈ ps, wordS p = true) (wg : ∀ g ∈ gs, wordS g = true) (hl : its.length ≤ 6) :
    (PyData.tuple (lotDs its)).showable = true ∧ (PyData.tuple (lotDs its)).hasDict = false ∧ (PyData.tuple (lotDs its)).depth ≤ 60 ∧ (PyData.tuple (lotDs its)).shown.length ≤ sizeLine ∧ okD (.tuple (lotDs its)) 5 = true ∧ nodesD (.tuple (lotDs its)) ≤ 2000 := by
  have g4 := lot_good4 h hm wp wg
  have ld := lotDs_len its
  have G4 : gD lf4 12 (.tuple (lotDs its)) 5 = true := (gD_mk (m := 4) (by omega) (gDs_mono (fun _ z => z) (by decide) _ 4 4 (Nat.le_refl 4) g4)).2
  have G2 : gD lf2 12 (.tuple (lotDs its)) 5 = true := gD_mono lf42 (Nat.le_refl _) _ 5 5 (Nat.le_refl 5) G4
  have fx := gD_facts _ 5 G2
  have g2 : gDs lf2 5 (lotDs its) 4 = true := gDs_mono lf42 (Nat.le_refl 5) _ 4 4 (Nat.le_refl 4) g4
  refine ⟨fx.1, fx.2.1, by have := gD_dep _ 5 G2; omega, ?_, gD_ok (by decide) _ 5 G2, ?_⟩
  · have h1 := PyData.shown_le_bulk 10 (by decide) (.tuple (lotDs its)) (gD_fact4 _ 5 G4)
    have h3 := gDs_bulk (lotDs its) 4 g2
    have h4 : bulkN 5 4 = 47640 := by decide +kernel
    rw [h4] at h3
    have h5 : (PyData.tuple (lotDs its)).bulk ≤ 1000000 := by
      simp only [PyData.bulk]
      omega
    rw [sizeLine_eq]
    omega
  · have h3 := gDs_nodes (lotDs its) 4 g4
    have h4 : nodesN 5 4 = 156 := by decide +kernel
    rw [h4] at h3
    simp only [nodesD]
    omega
end KV

namespace KV
open PySem PySem.Spec PyProof.Rows L2 RZ
abbrev sIsLt : Stmt := topS 1
abbrev sBinds : Stmt := topS 2
abbrev sChains : Stmt := topS 4
theorem vt_strs {K : PySem.W.Frag} {H : Hp} {v : V} {ws : List Str} (h : VT K H v (.tuple (ws.map PyData.str))) : ∃ a, v = .ref a ∧ (SqL K H a (ws.map V.str) ∨ SqT K H a (ws.map V.str)) := by
  obtain ⟨a, xs, rfl, hk, hl, hx⟩ := h.seq
  have e : xs = ws.map V.str := by
    refine List.ext_getElem? fun i => ?_
    cases hw : ws[i]? with
    | none =>
      rw [List.getElem?_map, hw]
      have h1 := List.getElem?_eq_none_iff.mp hw
      rw [List.length_map] at hl
      exact List.getElem?_eq_none_iff.mpr (by omega)
    | some y =>
      obtain ⟨x, h1, h2⟩ := hx i (.str y) (by rw [List.getElem?_map, hw]; rfl)
      rw [h1, List.getElem?_map, hw, h2.str]
      rfl
  subst e
  exact ⟨a, rfl, hk⟩
/-- walking a list or a tuple, which alone must stay -/
def SeqS (K : PySem.W.Frag) (a : Addr) (xs : List V) (S : Hp → Prop) : Prop := S = (fun H => SqL K H a xs) ∨ S = (fun H => SqT K H a xs)
theorem SeqS.of {K : PySem.W.Frag} {a : Addr} {xs : List V} {H : Hp} (h : SqL K H a xs ∨ SqT K H a xs) : ∃ S, SeqS K a xs S ∧ S H ∧ ∀ H1 H2, Same H1 H2 → S H1 → S H2 := by
  rcases h with h | h
  · exact ⟨_, .inl rfl, h, fun _ _ s z => s.seq z⟩
  · exact ⟨_, .inr rfl, h, fun _ _ s z => same_seqT s z⟩
def iDatG (K : PySem.W.Frag) (tl : TE) : TI := fun σ H R => tl σ H fun x H1 => ∃ a xs S, x = .ref a ∧ SeqS K a xs S ∧ S H1 ∧ ∀ J G, Walk J xs.length G (YAt xs) → (∀ H2, S H2 → G H2) → R J H1
theorem pi_datG {X : Cx} {tg l : Expr} {tl : TE} (hl : PE X l tl) : PI X tg l (iDatG X.K tl) := by
  refine ⟨fun pins s σ H R I h => ?_⟩
  refine thn (hl.run pins s σ H _ I h) fun v s1 hv => ?_
  obtain ⟨x, H1, I1, r1, a, xs, S, rfl, hS, hk, q⟩ := hv
  cases r1
  rcases hS with rfl | rfl
  · obtain ⟨its, rv, p, hz⟩ := I1.list hk
    refine wpAny_pyIter_list p.isList ?_
    refine ⟨s1.heap.objs.size, [s1.heap.objs.size], _, _, H1, rfl, I1.kept (t' := s1.toks) fun b o e => Heap.get?_push_of_some _ e, turn_list a _, ⟨_, Heap.get?_push_size _ rfl, rfl, rfl⟩, fun b hb => ?_, q _ _ (walk_list (xs := xs)) fun H2 h2 => h2⟩
    cases List.mem_singleton.mp hb
    exact I1.fpOk (Nat.le_refl _) (I1.hok.fresh (Nat.le_refl _))
  · obtain ⟨its, rv, p, hz⟩ := I1.tuple hk
    refine wpAny_pyIter_tuple (show s1.heap.IsTuple a its.toArray from p) ?_
    refine ⟨s1.heap.objs.size, [s1.heap.objs.size], _, _, H1, rfl, I1.kept (t' := s1.toks) fun b o e => Heap.get?_push_of_some _ e, turn_tuple a _, ⟨_, Heap.get?_push_size _ rfl, rfl, rfl⟩, fun b hb => ?_, q _ _ (walk_tup (xs := xs)) fun H2 h2 => h2⟩
    cases List.mem_singleton.mp hb
    exact I1.fpOk (Nat.le_refl _) (I1.hok.fresh (Nat.le_refl _))
theorem WfR.timer_inv {b : Bool} {r : Rq} {rs : List Rq} (h : WfR b (r :: rs)) (ht : isT r = true) : b = true ∧ WfR true rs := by
  cases h with
  | one z1 _ _ => rw [ht] at z1; cases z1
  | last z1 _ _ _ => rw [ht] at z1; cases z1
  | timer _ _ h3 => exact ⟨rfl, h3⟩
theorem WfR.inv {b : Bool} {r : Rq} {rs : List Rq} (h : WfR b (r :: rs)) (ht : isT r = false) : (bindsR r = true ∧ WfR true rs) ∨ (bindsR r = false ∧ WfR false rs) := by
  cases h with
  | one _ h2 h3 => exact .inl ⟨h2, h3⟩
  | last _ h2 _ h4 => exact .inr ⟨h2, h4⟩
  | timer z1 _ _ => rw [ht] at z1; cases z1
theorem dp_pair {K : PySem.W.Frag} {H : Hp} {v : V} {x : Str × Option Str} (h : Dp K H v (pairD x)) : ∃ (p : Addr) (y : V), v = .ref p ∧ SqT K H p [.str x.1, y] ∧ Dp K H y (oD x.2) := by
  cases h with
  | tup h1 h2 =>
    cases h2 with
    | cons a1 a2 =>
      cases a2 with
      | cons b1 b2 =>
        cases b2
        cases a1
        exact ⟨_, _, rfl, h1, b1⟩
theorem dec_str (a b : Str) : decide (V.str a = V.str b) = decide (a = b) := by
  by_cases h : a = b
  · rw [h, decide_eq_true rfl, decide_eq_true rfl]
  · rw [decide_eq_false h, decide_eq_false (fun z => h (V.str.inj z))]
/-- the three parts of a request -/
theorem rq_parts {K : PySem.W.Frag} {H : Hp} {v : V} {r : Rq} (h : VT K H v (rqD r)) : ∃ (a : Addr) (xs : List V) (x1 x2 : V), v = .ref a ∧ (SqL K H a xs ∨ SqT K H a xs) ∧ xs[0]? = some (.str r.tag) ∧ xs[1]? = some x1 ∧ xs[2]? = some x2 ∧ VT K H x1 (.tuple (.str r.wd :: r.rest)) ∧ VT K H x2 (.tuple (r.words.map PyData.str)) := by
  obtain ⟨a, xs, rfl, hk, _, hx⟩ := VT.seq h
  obtain ⟨x0, h0, v0⟩ := hx 0 (.str r.tag) rfl
  obtain ⟨x1, h1, v1⟩ := hx 1 _ rfl
  obtain ⟨x2, h2, v2⟩ := hx 2 _ rfl
  have := v0.str
  subst this
  exact ⟨a, xs, x1, x2, rfl, hk, h0, h1, h2, v1, v2⟩
section
variable {P : Program} {w : World} {K : PySem.W.Frag} {mg : Str → Option Value} {base : Heap}
def spIsLt (K : PySem.W.Frag) : Sp := fun vs H Q _ => ∃ (v : V) (r : Rq), vs = [v] ∧ VT K H v (rqD r) ∧ Q (.bl (isT r)) H
def spBinds (K : PySem.W.Frag) : Sp := fun vs H Q _ => ∃ (v : V) (r : Rq), vs = [v] ∧ VT K H v (rqD r) ∧ Q (.bl (bindsR r)) H
theorem scIsLt : FnScope ["request"] ["request"] (defScope sIsLt) :=
  ⟨rfl, rfl, rfl, by decide +kernel, rfl, by decide +kernel, by decide +kernel⟩
theorem scBinds : FnScope ["request"] ["request"] (defScope sBinds) :=
  ⟨rfl, rfl, rfl, by decide +kernel, rfl, by decide +kernel, by decide +kernel⟩
theorem ok_isLt {f : Addr} {fd : FuncData} {k : Nat} (F : Fun K "is_linktimeout" "is_linktimeout" sIsLt f fd) : FnOk P w K mg base CX0 (k + 1) f fd ["request"] (spIsLt K) := by
  refine F.ok scIsLt (fun vs H Q E h => ?_) (fun cdv A outer s H vs Q E hr h => ?_)
  · obtain ⟨v, r, rfl, _⟩ := h
    rfl
  · obtain ⟨v, r, rfl, hv, q⟩ := h
    refine ⟨_, pss_one (ps_ret (pe_cmpR op_eq (pe_ix ix_seq (pe_ix ix_seq (pv 0) pe_int (fun _ _ => rfl)) pe_int (fun _ _ => rfl)) pe_str (nomark _))), ?_⟩
    obtain ⟨a, xs, x1, x2, rfl, hk, h0, h1, h2, v1, v2⟩ := rq_parts hv
    obtain ⟨a1, xs1, rfl, hk1, _, hx1⟩ := v1.seq
    obtain ⟨y, hy, vy⟩ := hx1 0 _ rfl
    have := vy.str
    subst this
    refine ⟨_, rfl, ix_vt hk h1 (ix_vt hk1 hy ⟨rfl, ?_⟩)⟩
    rw [dec_str]
    exact q
theorem ok_binds {f : Addr} {fd : FuncData} {k : Nat} (F : Fun K "binds" "binds" sBinds f fd) : FnOk P w K mg base CX0 (k + 1) f fd ["request"] (spBinds K) := by
  refine F.ok scBinds (fun vs H Q E h => ?_) (fun cdv A outer s H vs Q E hr h => ?_)
  · obtain ⟨v, r, rfl, _⟩ := h
    rfl
  · obtain ⟨v, r, rfl, hv, q⟩ := h
    refine ⟨_, pss_one (ps_ret (pe_or (pe_cmpR (op_inK (K := K) rfl) pe_str (pe_ix ix_seq (pv 0) pe_int (fun _ _ => rfl)) (by rfl)) (pe_one (pe_cmpR (op_inK (K := K) rfl) pe_str (pe_ix ix_seq (pv 0) pe_int (fun _ _ => rfl)) (by rfl))))), ?_⟩
    obtain ⟨a, xs, x1, x2, rfl, hk, h0, h1, h2, v1, v2⟩ := rq_parts hv
    obtain ⟨a2, rfl, hk2⟩ := vt_strs v2
    refine ⟨_, rfl, ix_vt hk h2 ⟨a2, _, rfl, hk2, rfl, flat_strs _, ?_⟩⟩
    rw [in_strs, if_neg (by decide)]
    refine ⟨_, rfl, ?_⟩
    have eb : bindsR r = (decide (Str.ofString "link" ∈ r.words) || decide (Str.ofString "hard" ∈ r.words)) := rfl
    cases h : decide (Str.ofString "link" ∈ r.words) with
    | true =>
      rw [eb, h, Bool.true_or] at q
      exact iteT q
    | false =>
      rw [eb, h, Bool.false_or] at q
      refine iteF ⟨_, rfl, ix_vt hk h2 ⟨a2, _, rfl, hk2, rfl, flat_strs _, ?_⟩⟩
      rw [in_strs, if_neg (by decide)]
      exact q
/-! ### chains -/
def spChains (K : PySem.W.Frag) : Sp := fun vs H Q _ => ∃ (v : V) (rs : List Rq), vs = [v] ∧ VT K H v (.tuple (rs.map rqD)) ∧ WfR false rs ∧ rs.length ≤ 100 ∧
  ∀ (p : Addr) (xs : List V) (H' : Hp), Same H H' → H p = none → H' p = some (.lst xs) → DpAll K (hide [p] H') xs ((progP [] rs).map chnD) → Q (.ref p) H'
abbrev nChains : List Str := ["lot", "rows", "chain", "request", "owner", "_"]
theorem scChains : FnScope nChains ["lot"] (defScope sChains) :=
  ⟨rfl, rfl, rfl, by decide +kernel, rfl, by decide +kernel, by decide +kernel⟩
theorem ok_chains {f fI fB : Addr} {fd fdI fdB : FuncData} {k : Nat} (F : Fun K "chains" "chains" sChains f fd)
    (FI : Fun K "is_linktimeout" "is_linktimeout" sIsLt fI fdI) (bI : Binds K fdI ["request"] []) (mI : mg "is_linktimeout" = some (.ref fI))
    (FB : Fun K "binds" "binds" sBinds fB fdB) (bB : Binds K fdB ["request"] []) (mB : mg "binds" = some (.ref fB))
    (mt : mg "tuple" = none) (ml : mg "len" = none) : FnOk P w K mg base CX0 (k + 2) f fd ["lot"] (spChains K) := by
  have GI : FnOk P w K mg base CX0 (k + 1) fI fdI ["request"] (spIsLt K) := ok_isLt FI
  have GB : FnOk P w K mg base CX0 (k + 1) fB fdB ["request"] (spBinds K) := ok_binds FB
  refine F.ok scChains (fun vs H Q E h => ?_) (fun cdv A outer s H vs Q E hr h => ?_)
  · obtain ⟨v, rs, rfl, _⟩ := h
    rfl
  · obtain ⟨v, rs, rfl, hv, hwf, hlen, q⟩ := h
    refine ⟨_, pss_cons (ps_set (i := 1) scChains.nd rfl (.inl rfl) (pe_lst pa_nil))
      (pss_cons (ps_set (i := 2) scChains.nd rfl (.inl rfl) (pe_lst pa_nil))
      (pss_cons (ps_for PassesOwn.never rfl (pi_datG (pv 0)) (pg_name (i := 3) scChains.nd rfl (.inl rfl))
        (pss_cons (ps_if (pt_val (pe_call GI hr (by rfl) mI FI.kp bI .nil pass0 (pa_cons (pv 3) pa_nil)))
          (pss_cons (ps_asg (pe_ix ix_seq (pv 2) (pe_un un_neg pe_int) (fun _ _ => rfl)) (pg_tup rfl (pgs_cons (pg_name (i := 4) scChains.nd rfl (.inl rfl)) (pgs_cons (pg_name (i := 5) scChains.nd rfl (.inl rfl)) pgs_nil))))
          (pss_cons (ps_asg (pe_tup (pa_cons (pv 4) (pa_cons (pe_ix ix_seq (pv 3) pe_int (fun _ _ => rfl)) pa_nil))) (pg_sub (pv 2) (pe_un un_neg pe_int) set_list))
          (pss_one ps_continue))) pss_nil)
        (pss_cons (ps_expr (pe_bm PySem.F.plainAttrs_list PySem.F.slot_list_append PySem.F.type_list_append mt_append (pv 2) (pa_cons (pe_tup (pa_cons (pe_ix ix_seq (pv 3) pe_int (fun _ _ => rfl)) (pa_cons pe_non pa_nil))) pa_nil)))
        (pss_one (ps_if (pt_not (pt_val (pe_call GB hr (by rfl) mB FB.kp bB .nil pass0 (pa_cons (pv 3) pa_nil))))
          (pss_cons (ps_expr (pe_bm PySem.F.plainAttrs_list PySem.F.slot_list_append PySem.F.type_list_append mt_append (pv 1) (pa_cons (pe_callTy call_tuple_of (by rfl) mt PyProof.Rows.boot_tuple (pa_cons (pv 2) pa_nil)) pa_nil)))
          (pss_one (ps_set (i := 2) scChains.nd rfl (.inl rfl) (pe_lst pa_nil)))) pss_nil)))))
      (pss_cons (ps_if (pt_cmpR op_gt (pe_callB call_len_seq (by rfl) ml PySem.boot_len (pa_cons (pv 2) pa_nil)) pe_int (nomark _))
        (pss_one (ps_expr (pe_bm PySem.F.plainAttrs_list PySem.F.slot_list_append PySem.F.type_list_append mt_append (pv 1) (pa_cons (pe_callTy call_tuple_of (by rfl) mt PyProof.Rows.boot_tuple (pa_cons (pv 2) pa_nil)) pa_nil)))) pss_nil)
      (pss_one (ps_ret (pv 1)))))), ?_⟩
    refine ⟨by show 0 ≤ sizeLine; decide, fun Ra nR => ⟨by show 0 ≤ sizeLine; decide, fun Ca0 nC => ?_⟩⟩
    have sR : Same H (upd H Ra (.lst [])) := same_upd nR
    have sC := same_upd (o := HO.lst []) nC
    have nC0 : H Ca0 = none := by
      cases e : H Ca0 with
      | none => rfl
      | some o => rw [sR _ _ e] at nC; cases nC
    have RC : Ra ≠ Ca0 := fun e => by rw [← e, upd_same] at nC; cases nC
    have hR1 : (upd (upd H Ra (.lst [])) Ca0 (.lst [])) Ra = some (.lst []) := sC _ _ upd_same
    have hC1 : (upd (upd H Ra (.lst [])) Ca0 (.lst [])) Ca0 = some (.lst []) := upd_same
    have s1 := sR.trans sC
    show Ends.nx _ _ (upd (upd H Ra (.lst [])) Ca0 (.lst []))
    generalize upd (upd H Ra (.lst [])) Ca0 (.lst []) = H1 at hR1 hC1 s1
    obtain ⟨a, xs, rfl, hk, hl, hx⟩ := hv.seq
    rw [List.length_map] at hl
    obtain ⟨S, hS, hS0, hSs⟩ := SeqS.of hk
    refine ⟨_, rfl, a, xs, S, rfl, hS, hSs _ _ s1 hS0, fun J G wk hG => for_it wk (fun i σ H' => ∃ (R : List Chn) (c : Chn) (Ca : Addr) (rxs cxs : List V) (y3 y4 y5 : Option V), σ = [some (.ref a), some (.ref Ra), some (.ref Ca), y3, y4, y5] ∧ Same H H' ∧ H Ca = none ∧ Ra ≠ Ca ∧
        H' Ra = some (.lst rxs) ∧ H' Ca = some (.lst cxs) ∧ DpAll K (hide [Ca, Ra] H') rxs (R.map chnD) ∧ DpAll K (hide [Ca, Ra] H') cxs (c.map pairD) ∧ progP [] rs = R ++ progP c (rs.drop i) ∧ WfR (!decide (c = [])) (rs.drop i) ∧ R.length ≤ i ∧ c.length ≤ i)
      ⟨[], [], Ca0, [], [], none, none, none, rfl, s1, nC0, RC, hR1, hC1, .nil, .nil, rfl, hwf, Nat.le_refl 0, Nat.le_refl 0⟩ (fun i σ H' _ h => ?_) ?_ ?_⟩
    · obtain ⟨_, _, _, _, _, _, _, _, _, sm, _⟩ := h
      exact hG H' (hSs _ _ sm hS0)
    · rintro i x σ H' H'' hi ⟨R, c, Ca, rxs, cxs, y3, y4, y5, rfl, sm, nCa, RC', hRa, hCa, dR, dC, hp, hw, lR, lC⟩ ⟨rfl, hxi⟩
      have hir : i < rs.length := by omega
      have edrop : rs.drop i = rs[i] :: rs.drop (i + 1) := List.drop_eq_getElem_cons hir
      obtain ⟨x', hx', vx⟩ := hx i (rqD rs[i]) (by rw [List.getElem?_map, List.getElem?_eq_getElem hir]; rfl)
      have exx : x' = x := by rw [hxi] at hx'; exact (Option.some.inj hx').symm
      subst exx
      generalize rs[i] = r at edrop vx
      rw [edrop] at hp hw
      obtain ⟨ax, pxs, x1, x2, rfl, hkx, h0, h1, h2, v1, v2⟩ := rq_parts vx
      have lcx := dps_len dC
      have lrx := dps_len dR
      rw [List.length_map] at lcx lrx
      have mC : Ca ∈ [Ca, Ra] := List.mem_cons_self
      have mR : Ra ∈ [Ca, Ra] := List.mem_cons_of_mem _ List.mem_cons_self
      have lvv : ∀ {H2 : Hp}, H2 Ra ≠ none → H2 Ca ≠ none → Live [Ca, Ra] H2 := fun h1 h2 c hc => by
        rcases List.mem_cons.mp hc with rfl | hc
        · exact h2
        · rw [List.mem_singleton.mp hc]; exact h1
      have some_ne : ∀ {H2 : Hp} {p : Addr} {o : HO}, H2 p = some o → H2 p ≠ none := fun h z => by rw [z] at h; cases h
      refine ⟨_, rfl, .ref ax, r, rfl, vx.same sm, _, rfl, ?_⟩
      cases ht : isT r with
      | true =>
        refine iteT ?_
        obtain ⟨hcb, hwr⟩ := hw.timer_inv ht
        have hcn : c ≠ [] := fun z => by
          rw [decide_eq_true z] at hcb
          cases hcb
        rcases List.eq_nil_or_concat c with h00 | ⟨c0, x0, h00⟩
        · exact absurd h00 hcn
        rw [List.concat_eq_append] at h00
        subst h00
        rw [List.map_append] at dC
        obtain ⟨ys, zs, rfl, dy, dz⟩ := dps_split dC
        cases dz with
        | cons z1 z2 =>
        cases z2
        obtain ⟨pz, yz, rfl, Sz, Dz⟩ := dp_pair z1
        have Sz' := same_seqT (hide_same _ H'') Sz
        refine ⟨_, rfl, _, rfl, .inl ⟨Ca, _, -1, .ref pz, rfl, rfl, SqL.of hCa, atI_last _ _, ?_⟩⟩
        refine ⟨pz, _, rfl, Sz', rfl, _, _, rfl, _, _, rfl, rfl, ?_⟩
        refine ⟨_, rfl, _, rfl, ix_vt (hkx.imp sm.seq (same_seqT sm)) h0 ⟨by show 2 ≤ sizeLine; decide, fun p np => ?_⟩⟩
        have u1 := same_upd (o := HO.tup [.str x0.1, .str r.tag]) np
        have hC1' := u1 _ _ hCa
        refine ⟨_, rfl, _, rfl, Ca, _, -1, ys.length, rfl, rfl, hC1', ?_, ?_⟩
        · have hl2 : (ys ++ [V.ref pz]).length = ys.length + 1 := by simp
          unfold ixN
          rw [hl2]
          rw [if_neg (by decide), if_pos (by omega)]
          exact congrArg some (by omega)
        have es : (ys ++ [V.ref pz]).set ys.length (.ref p) = ys ++ [.ref p] := by simp
        rw [es]
        have k1 : Dp K (hide [Ca, Ra] (upd H'' p (.tup [.str x0.1, .str r.tag]))) (.ref p) (pairD (x0.1, some r.tag)) := dp_new (lvv (some_ne hRa) (some_ne hCa)) np (.cons (.str _) (.cons (.str _) .nil))
        have ep : progP (c0 ++ [x0]) (r :: rs.drop (i + 1)) = progP (c0 ++ [(x0.1, some r.tag)]) (rs.drop (i + 1)) := by
          show (if isT r = true then _ else _) = _
          rw [ht, if_pos rfl, setL_snoc]
        rw [ep] at hp
        refine ⟨R, c0 ++ [(x0.1, some r.tag)], Ca, rxs, ys ++ [.ref p], _, _, _, rfl, ?_, nCa, RC', lst_upd (u1 _ _ hRa) RC', upd_same, ?_, ?_, hp, ?_, by omega, ?_⟩
        · intro c o e
          have ne : c ≠ Ca := fun z => by rw [z, nCa] at e; cases e
          rw [upd_ne ne]
          exact u1 _ _ (sm c o e)
        · rw [hide_upd_in mC]
          exact dps_same (hide_of_same u1) dR
        · rw [hide_upd_in mC, List.map_append]
          exact dps_snoc (dps_same (hide_of_same u1) dy) k1
        · rw [decide_eq_false (by simp)]
          exact hwr
        · rw [List.length_append] at lC ⊢
          have e1 : [x0].length = 1 := rfl
          show c0.length + 1 ≤ i + 1
          omega
      | false =>
        refine iteF ?_
        refine ⟨_, rfl, .inl ⟨rfl, _, .inl (.inl hCa)⟩, _, rfl, ix_vt (hkx.imp sm.seq (same_seqT sm)) h0 ⟨by show 2 ≤ sizeLine; decide, fun p np => ⟨Ca, _, _, rfl, rfl, same_upd np _ _ hCa, small1000 (by omega), ?_⟩⟩⟩
        have u1 := same_upd (o := HO.tup [.str r.tag, .non]) np
        have k1 : Dp K (hide [Ca, Ra] (upd H'' p (.tup [.str r.tag, .non]))) (.ref p) (pairD (r.tag, none)) := dp_new (lvv (some_ne hRa) (some_ne hCa)) np (.cons (.str _) (.cons .non .nil))
        have nCaH : ∀ {H2 : Hp} {o : HO}, Same H H2 → Same H (upd H2 Ca o) := fun s c o e => by
          have ne : c ≠ Ca := fun z => by rw [z, nCa] at e; cases e
          rw [upd_ne ne]
          exact s c o e
        have nRaH : ∀ {H2 : Hp} {o : HO}, Same H H2 → Same H (upd H2 Ra o) := fun s c o e => by
          have ne : c ≠ Ra := fun z => by rw [z, nR] at e; cases e
          rw [upd_ne ne]
          exact s c o e
        have sm3 : Same H (upd (upd H'' p (.tup [.str r.tag, .non])) Ca (.lst (cxs ++ [.ref p]))) := nCaH (sm.trans u1)
        have hC3 : (upd (upd H'' p (.tup [.str r.tag, .non])) Ca (.lst (cxs ++ [.ref p]))) Ca = some (.lst (cxs ++ [.ref p])) := upd_same
        have hR3 : (upd (upd H'' p (.tup [.str r.tag, .non])) Ca (.lst (cxs ++ [.ref p]))) Ra = some (.lst rxs) := lst_upd (u1 _ _ hRa) RC'
        have dC3 : DpAll K (hide [Ca, Ra] (upd (upd H'' p (.tup [.str r.tag, .non])) Ca (.lst (cxs ++ [.ref p])))) (cxs ++ [.ref p]) ((c ++ [(r.tag, none)]).map pairD) := by
          rw [hide_upd_in mC, List.map_append]
          exact dps_snoc (dps_same (hide_of_same u1) dC) k1
        have dR3 : DpAll K (hide [Ca, Ra] (upd (upd H'' p (.tup [.str r.tag, .non])) Ca (.lst (cxs ++ [.ref p])))) rxs (R.map chnD) := by
          rw [hide_upd_in mC]
          exact dps_same (hide_of_same u1) dR
        show Ends.nx _ _ (upd (upd H'' p (.tup [.str r.tag, .non])) Ca (.lst (cxs ++ [.ref p])))
        generalize upd (upd H'' p (.tup [.str r.tag, .non])) Ca (.lst (cxs ++ [.ref p])) = H3 at sm3 hC3 hR3 dC3 dR3
        refine ⟨_, rfl, .ref ax, r, rfl, vx.same sm3, _, rfl, ?_⟩
        have ep : progP c (r :: rs.drop (i + 1)) = (if bindsR r = true then progP (c ++ [(r.tag, none)]) (rs.drop (i + 1)) else (c ++ [(r.tag, none)]) :: progP [] (rs.drop (i + 1))) := by
          show (if isT r = true then _ else _) = _
          rw [ht, if_neg (by decide)]
        rcases hw.inv ht with ⟨hb, hwr⟩ | ⟨hb, hwr⟩
        · rw [hb] at ep ⊢
          rw [ep, if_pos rfl] at hp
          refine iteF ⟨R, c ++ [(r.tag, none)], Ca, rxs, cxs ++ [.ref p], _, _, _, rfl, sm3, nCa, RC', hR3, hC3, dR3, dC3, hp, ?_, by omega, by rw [List.length_append]; show c.length + 1 ≤ i + 1; omega⟩
          rw [decide_eq_false (by simp)]
          exact hwr
        · rw [hb] at ep ⊢
          rw [ep, if_neg (by decide)] at hp
          have lr1 : rxs.length < sizeLine := small1000 (by omega)
          refine iteT ⟨_, rfl, .inl ⟨rfl, _, .inl (.inl hR3)⟩, _, rfl, Ca, _, rfl, .inl ⟨SqL.of hC3, fun p2 np2 => ⟨Ra, _, _, rfl, rfl, same_upd np2 _ _ hR3, lr1, ?_⟩⟩⟩
          have u2 := same_upd (o := HO.tup (cxs ++ [.ref p])) np2
          have k2 : Dp K (hide [Ca, Ra] (upd H3 p2 (.tup (cxs ++ [.ref p])))) (.ref p2) (chnD (c ++ [(r.tag, none)])) := dp_new (lvv (some_ne hR3) (some_ne hC3)) np2 dC3
          have sm4 : Same H (upd (upd H3 p2 (.tup (cxs ++ [.ref p]))) Ra (.lst (rxs ++ [.ref p2]))) := nRaH (sm3.trans u2)
          have hR4 : (upd (upd H3 p2 (.tup (cxs ++ [.ref p]))) Ra (.lst (rxs ++ [.ref p2]))) Ra = some (.lst (rxs ++ [.ref p2])) := upd_same
          have dR4 : DpAll K (hide [Ca, Ra] (upd (upd H3 p2 (.tup (cxs ++ [.ref p]))) Ra (.lst (rxs ++ [.ref p2])))) (rxs ++ [.ref p2]) ((R ++ [c ++ [(r.tag, none)]]).map chnD) := by
            rw [hide_upd_in mR, List.map_append]
            exact dps_snoc (dps_same (hide_of_same u2) dR3) k2
          show Ends.nx _ _ (upd (upd H3 p2 (.tup (cxs ++ [.ref p]))) Ra (.lst (rxs ++ [.ref p2])))
          generalize upd (upd H3 p2 (.tup (cxs ++ [.ref p]))) Ra (.lst (rxs ++ [.ref p2])) = H4 at sm4 hR4 dR4
          refine ⟨by show 0 ≤ sizeLine; decide, fun Cb nCb => ?_⟩
          have u5 := same_upd (o := HO.lst []) nCb
          have nCb0 : H Cb = none := by
            cases e : H Cb with
            | none => rfl
            | some o => rw [sm4 _ _ e] at nCb; cases nCb
          have RCb : Ra ≠ Cb := fun e => by rw [← e, hR4] at nCb; cases nCb
          have e5 : Same (hide [Ca, Ra] H4) (hide [Cb, Ra] (upd H4 Cb (.lst []))) := hide_leave.trans (SameX.enter (C := []) (sameX_upd List.mem_cons_self) (fun _ z => absurd z List.not_mem_nil) nCb)
          refine ⟨R ++ [c ++ [(r.tag, none)]], [], Cb, rxs ++ [.ref p2], [], _, _, _, rfl, sm4.trans u5, nCb0, RCb, u5 _ _ hR4, upd_same, dps_same e5 dR4, .nil, ?_, hwr, ?_, Nat.zero_le _⟩
          · rw [hp, List.append_assoc]
            rfl
          · rw [List.length_append]
            show R.length + 1 ≤ i + 1
            omega
    · rintro σ H' ⟨R, c, Ca, rxs, cxs, y3, y4, y5, rfl, sm, nCa, RC', hRa, hCa, dR, dC, hp, hw, lR, lC⟩
      have hdn : rs.drop xs.length = [] := List.drop_eq_nil_of_le (by omega)
      rw [hdn] at hp
      have lcx := dps_len dC
      have lrx := dps_len dR
      rw [List.length_map] at lcx lrx
      show Ends.nx _ _ H'
      refine ⟨_, rfl, Ca, _, rfl, .inl (SqL.of hCa), _, _, rfl, rfl, _, rfl, ?_⟩
      by_cases hc : c = []
      · subst hc
        have h0 : cxs.length = 0 := lcx
        rw [h0]
        refine iteF ⟨_, rfl, q Ra rxs H' sm nR hRa ?_⟩
        rw [hp]
        show DpAll K (hide [Ra] H') rxs ((R ++ []).map chnD)
        rw [List.append_nil]
        exact dps_same hide_leave dR
      · have h0 : 0 < c.length := List.length_pos_iff.mpr hc
        refine iteBT (decide_eq_true (by omega)) ?_
        refine ⟨_, rfl, .inl ⟨rfl, _, .inl (.inl hRa)⟩, _, rfl, Ca, _, rfl, .inl ⟨SqL.of hCa, fun p2 np2 => ⟨Ra, _, _, rfl, rfl, same_upd np2 _ _ hRa, small1000 (by omega), ?_⟩⟩⟩
        have u2 := same_upd (o := HO.tup cxs) np2
        have some_ne : ∀ {H2 : Hp} {p : Addr} {o : HO}, H2 p = some o → H2 p ≠ none := fun h z => by rw [z] at h; cases h
        have lv2 : Live [Ca, Ra] H' := fun c hc => by
          rcases List.mem_cons.mp hc with rfl | hc
          · exact some_ne hCa
          · rw [List.mem_singleton.mp hc]; exact some_ne hRa
        have k2 : Dp K (hide [Ca, Ra] (upd H' p2 (.tup cxs))) (.ref p2) (chnD c) := dp_new lv2 np2 dC
        refine ⟨_, rfl, q Ra (rxs ++ [.ref p2]) _ (fun c o e => ?_) nR upd_same ?_⟩
        · have ne : c ≠ Ra := fun z => by rw [z, nR] at e; cases e
          rw [upd_ne ne]
          exact u2 _ _ (sm c o e)
        · rw [hp]
          show DpAll K _ _ ((R ++ (if c = [] then [] else [c])).map chnD)
          rw [if_neg hc, List.map_append, hide_upd_in List.mem_cons_self]
          exact dps_snoc (dps_same hide_leave (dps_same (hide_of_same u2) dR)) (dp_same hide_leave k2)
end
end KV

namespace KV
open PySem PySem.Spec PyProof.Rows L2 RZ
/-! ### t[::-1] of a tuple -/
section
variable {prog : Program} {w : World} {A : Around} {E : Value → Shared → Prop} {s : Shared}
theorem sa_rev {sl : Addr} {vl vu vs : Value} {n : Nat} {Q : Int × Int × Nat → Shared → Prop} (hs : s.heap.IsSliceOf sl vl vu vs) (pl : IsPart vl none) (pu : IsPart vu none) (ps : IsPart vs (some (-1)))
    (h : Q ((n : Int) - 1, -1, n) s) : wpAny (model prog w) A (Builtin.Slice.sliceApplied (.ref sl) (pure (n : Int))) Q E s := by
  obtain ⟨os, hos, hcs, hds⟩ := id hs
  unfold Builtin.Slice.sliceApplied Builtin.Slice.sliceFields
  refine wpAny_bind (wpAny_bind (wpAny_field hos hds (x := vl) rfl (wpAny_bind (wpAny_field hos hds (x := vu) rfl (wpAny_bind (wpAny_field hos hds (x := vs) rfl (wpAny_pure ?_)))))))
  refine wpAny_bind (HT.slicePart_ ps ?_)
  show wpAny _ _ (if ((-1 : Int) == 0) = true then _ else _) _ _ s
  rw [if_neg (by decide)]
  refine wpAny_bind (HT.slicePart_ pl (wpAny_bind (HT.slicePart_ pu (wpAny_bind (wpAny_pure ?_)))))
  have e : Builtin.Slice.sliceAdjust none none (-1) (n : Int) = ((n : Int) - 1, -1) := by
    simp [Builtin.Slice.sliceAdjust]
  have e2 : Builtin.Slice.slicePlaces ((n : Int) - 1) (-1) (-1) = n := by
    unfold Builtin.Slice.slicePlaces
    simp
    omega
  show wpAny _ _ (match Builtin.Slice.sliceAdjust none none (-1) (n : Int) with | (lo, hi) => pure (lo, (-1 : Int), Builtin.Slice.slicePlaces lo hi (-1))) _ _ s
  rw [e]
  show wpAny _ _ (pure ((n : Int) - 1, (-1 : Int), Builtin.Slice.slicePlaces ((n : Int) - 1) (-1) (-1))) _ _ s
  rw [e2]
  exact wpAny_pure h
theorem fm_congr {α β : Type} {f g : α → Option β} : ∀ l : List α, (∀ x ∈ l, f x = g x) → l.filterMap f = l.filterMap g
  | [], _ => rfl
  | x :: l, h => by
    rw [List.filterMap_cons, List.filterMap_cons, h x List.mem_cons_self, fm_congr l fun y hy => h y (List.mem_cons_of_mem _ hy)]
theorem fm_all {α : Type} : ∀ l : List α, (List.range l.length).filterMap (fun k => l[k]?) = l
  | [] => rfl
  | x :: l => by
    rw [List.length_cons, List.range_succ_eq_map, List.filterMap_cons]
    show x :: (((List.range l.length).map Nat.succ).filterMap fun k => (x :: l)[k]?) = _
    rw [List.filterMap_map]
    exact congrArg (x :: ·) (fm_all l)
theorem pick_rev (xs : Array Value) : ((List.range xs.size).filterMap fun (k : Nat) => xs[((xs.size : Int) - 1 + (k : Int) * -1).toNat]?) = xs.toList.reverse := by
  have e1 : ((List.range xs.size).filterMap fun (k : Nat) => xs[((xs.size : Int) - 1 + (k : Int) * -1).toNat]?) = (List.range xs.size).filterMap fun (k : Nat) => xs.toList.reverse[k]? := by
    refine fm_congr _ fun k hk => ?_
    have hk := List.mem_range.mp hk
    have e : ((xs.size : Int) - 1 + (k : Int) * -1).toNat = xs.size - 1 - k := by omega
    rw [e, List.getElem?_reverse (by rw [Array.length_toList]; exact hk), Array.length_toList, Array.getElem?_toList]
  have hl : xs.size = xs.toList.reverse.length := by rw [List.length_reverse, Array.length_toList]
  rw [e1, hl]
  exact fm_all _
theorem gi_rev {t sl : Addr} {items : Array Value} {vl vu vs : Value} {Q : Value → Shared → Prop} (ht : IsTup s.heap t items) (hs : s.heap.IsSliceOf sl vl vu vs) (pl : IsPart vl none) (pu : IsPart vu none) (ps : IsPart vs (some (-1)))
    (h : Q (.ref s.heap.objs.size) { s with heap := s.heap.push { cls := .type "tuple", data := .seq items.toList.reverse.toArray } }) (hsz : items.size ≤ sizeLine) : wpAny (model prog w) A (getItem (.ref t) (.ref sl)) Q E s := by
  have hz : sizeOk (.seq items.toList.reverse.toArray) := by
    show items.toList.reverse.toArray.size ≤ sizeLine
    rw [List.size_toArray, List.length_reverse, Array.length_toList]
    exact hsz
  obtain ⟨os, hos, hcs, hds⟩ := id hs
  unfold getItem
  try with_reducible refine wpAny_holding ?_
  first | refine wpAny_bind (wpAny_pure ?_) | skip
  refine wpAny_bind (wpAny_sequenceKey ht.typeIs (by decide) ?_)
  refine wpAny_bind (wpAny_callSpecial?_slot (name := Str.ofString "__getitem__") ht.typeIs PyProof.Rows.slot_tuple_getitem (wpAny_call_entry PyProof.Rows.slot_tuple_getitem ht.typeIs entry_tuple_getitem ?_ (args_tuple_getitem _ _)))
  show wpAny _ _ (Builtin.Tuple.tupleItemsOf (.ref t) >>= _) _ _ s
  refine wpAny_bind (tupleItemsOf_ ht (wpAny_bind (wpAny_typeOf (T := "slice") ⟨os, hos, hcs⟩ ?_)))
  rw [if_pos (by decide)]
  refine wpAny_bind (sa_rev hs pl pu ps ?_)
  have no : ¬ (((items.size : Int) - 1 == 0 && (-1 : Int) == 1 && items.size == items.size) = true) := by
    rw [show ((-1 : Int) == 1) = false from rfl, Bool.and_false, Bool.false_and]
    exact Bool.false_ne_true
  show wpAny _ _ (if ((items.size : Int) - 1 == 0 && (-1 : Int) == 1 && items.size == items.size) = true then _ else _) _ _ s
  rw [if_neg no, pick_rev]
  first
    | exact wpAny_bind (m := Builtin.Tuple.tupleExact _) (wpAny_newObj_type (wpAny_pure ⟨_, rfl, wpAny_pure h⟩) hz)
    | exact wpAny_bind (m := Builtin.Tuple.tupleExact _) (wpAny_newObj_type (wpAny_bind (wpAny_pure (wpAny_pure ⟨_, rfl, wpAny_pure h⟩))) hz)
end
section
variable {X : Cx}
def tRevT (K : PySem.W.Frag) (te : TE) : TE := fun σ H Q => te σ H fun x H1 => ∃ a xs, x = .ref a ∧ SqT K H1 a xs ∧ ∀ p, H1 p = none → Q (.ref p) (upd H1 p (.tup xs.reverse))
theorem pe_revT {e : Expr} {te : TE} {k : Nat} {p1 p2 p3 pos : Pos} (he : PE X e te) : PE X (.Subscript e (.Slice none none (some (.UnaryOp .USub (.Constant (.int 1) k p1) p2)) p3) pos) (tRevT X.K te) := by
  refine ⟨fun pins s σ H Q I h => Subscript_ (thn (he.run pins s σ H _ I h) fun v s1 ⟨x, H1, I1, r1, a, xs, ex, hx, q⟩ => ?_)⟩
  subst ex
  cases r1
  have neg : PO X (some (.UnaryOp .USub (.Constant (.int 1) k p1) p2)) (tPart (tUn (rU fun i => .int (-i)) (tC (.int 1)))) := po_some (pe_un un_neg pe_int)
  refine wpAny_Slice (thn (po_none.run pins s1 σ H1 (fun o H2 => o = none ∧ H2 = H1) I1 ⟨rfl, rfl⟩) fun vl s2 ⟨l, H2, I2, pl, el, e2⟩ => ?_)
  subst el e2
  refine thn (po_none.run pins s2 σ H2 (fun o H3 => o = none ∧ H3 = H2) I2 ⟨rfl, rfl⟩) fun vu s3 ⟨u, H3, I3, pu, eu, e3⟩ => ?_
  subst eu e3
  refine thn (neg.run pins s3 σ H3 (fun o H4 => o = some (-1) ∧ H4 = H3) I3 ⟨1, rfl, -1, rfl, rfl, rfl⟩) fun vs s4 ⟨o, H4, I4, ps, eo, e4⟩ => ?_
  subst eo e4
  have I5 : Inv X pins σ H4 { s4 with heap := s4.heap.push { cls := .type "slice", data := .fields #[vl, vu, vs] } } := I4.kept (t' := s4.toks) fun b ob q => Heap.get?_push_of_some _ q
  obtain ⟨its, r, ht, hz⟩ := I5.tuple hx
  have hlen := r.length
  show wpAny (model X.prog X.w) X.A (subscriptTail e (.Slice none none (some (.UnaryOp .USub (.Constant (.int 1) k p1) p2)) p3) (.ref a) (.ref s4.heap.objs.size)) (EP X pins σ Q) X.xe { s4 with heap := s4.heap.push { cls := .type "slice", data := .fields #[vl, vu, vs] } }
  refine tail_any (ops := [.ref a, .ref s4.heap.objs.size]) ht.typeIs (PyProof.Rows.slot_tuple_getitem.lookup) (gi_rev (items := its.toArray) ht (Heap.IsSliceOf.new _ vl vu vs) pl pu ps ?_ (by rw [List.size_toArray]; omega)) (by with_unfolding_all rfl)
  refine ⟨.ref _, _, I5.laid (t' := s4.toks) (o := .tup xs.reverse) (fun b ob q => Heap.get?_push_of_some _ q) (Nat.le_refl _) ?_, rfl, q _ (I5.hok.fresh (Nat.le_refl _))⟩
  exact ⟨by rw [List.length_reverse]; exact hz, _, r.reverse, IsTup.new _ _⟩
end
end KV

namespace KV
open PySem PySem.Spec PyProof.Rows L2 RZ
abbrev sRows : Stmt := topS 23
def goodC (c : Chn) : Prop := ∀ x ∈ c, wordS x.1 = true ∧ ∀ t, x.2 = some t → wordS t = true
theorem pair_good {x : Str × Option Str} (h : wordS x.1 = true ∧ ∀ t, x.2 = some t → wordS t = true) : gD lf4 5 (pairD x) 1 = true := by
  refine tup_good (by show 2 ≤ 5; decide) (mem2 (word_good4 h.1) ?_)
  cases hx : x.2 with
  | none => simp only [oD, gD]
  | some t => exact word_good4 (h.2 t hx)
theorem goodC_gDs {c : Chn} (h : goodC c) : gDs lf4 5 (c.map pairD) 1 = true := by
  rw [gDs_all, List.all_eq_true]
  intro e he
  obtain ⟨x, hx, rfl⟩ := List.mem_map.mp he
  exact pair_good (h x hx)
theorem dp_newL {K : PySem.W.Frag} {B : List Addr} {H : Hp} {p : Addr} {xs : List V} {ds : List PyData} (lv : Live B H) (n : H p = none) (h : DpAll K (hide B H) xs ds) : Dp K (hide B (upd H p (.lst xs))) (.ref p) (.list ds) :=
  .lst (SqL.of (hide_new lv n)) (dps_same (hide_grow lv n) h)
theorem dp_opt {K : PySem.W.Frag} {H : Hp} : ∀ o : Option Str, Dp K H (oV o) (oD o)
  | none => .non
  | some x => .str x
theorem goodLS : ∀ {rs : List Rq}, (∀ r ∈ rs, wordS r.tag = true) → goodC (lawL rs).rest ∧ (∀ c ∈ (lawL rs).f, goodC c) ∧ (∀ t, (lawL rs).t = some t → wordS t = true)
  | [], _ => ⟨fun x hx => absurd hx List.not_mem_nil, fun x hx => absurd hx List.not_mem_nil, fun t h => by cases h⟩
  | r :: rs, h => by
    obtain ⟨h1, h2, h3⟩ := goodLS (rs := rs) fun x hx => h x (List.mem_cons_of_mem _ hx)
    have hr := h r List.mem_cons_self
    have one : goodC [(r.tag, (lawL rs).t)] := fun x hx => by
      rw [List.mem_singleton.mp hx]
      exact ⟨hr, h3⟩
    show goodC (lawS (lawL rs) r).rest ∧ (∀ c ∈ (lawS (lawL rs) r).f, goodC c) ∧ (∀ t, (lawS (lawL rs) r).t = some t → wordS t = true)
    unfold lawS
    by_cases ht : isT r = true
    · rw [if_pos ht]
      refine ⟨h1, h2, fun t e => ?_⟩
      cases e
      exact hr
    · rw [if_neg ht]
      split
      · refine ⟨one, fun c hc => ?_, fun t e => by cases e⟩
        rcases List.mem_cons.mp hc with rfl | hc
        · exact h1
        · exact h2 c hc
      · refine ⟨fun x hx => ?_, h2, fun t e => by cases e⟩
        rcases List.mem_cons.mp hx with rfl | hx
        · exact ⟨hr, h3⟩
        · exact h1 x hx
theorem lenLS : ∀ rs : List Rq, (lawL rs).f.length ≤ rs.length ∧ (lawL rs).rest.length ≤ rs.length
  | [] => ⟨Nat.le_refl 0, Nat.le_refl 0⟩
  | r :: rs => by
    obtain ⟨h1, h2⟩ := lenLS rs
    show (lawS (lawL rs) r).f.length ≤ rs.length + 1 ∧ (lawS (lawL rs) r).rest.length ≤ rs.length + 1
    unfold lawS
    by_cases ht : isT r = true
    · rw [if_pos ht]
      exact ⟨by show (lawL rs).f.length ≤ _; omega, by show (lawL rs).rest.length ≤ _; omega⟩
    · rw [if_neg ht]
      split
      · exact ⟨by show (lawL rs).f.length + 1 ≤ _; omega, by show 1 ≤ _; omega⟩
      · exact ⟨by show (lawL rs).f.length ≤ _; omega, by show (lawL rs).rest.length + 1 ≤ _; omega⟩
def lawOut (rs : List Rq) : List Chn := (lawL rs).rest :: (lawL rs).f
section
variable {P : Program} {w : World} {K : PySem.W.Frag} {mg : Str → Option Value} {base : Heap}
/-! ### _law_rows -/
def spRows (K : PySem.W.Frag) : Sp := fun vs H Q _ => ∃ (B : List Addr) (v : V) (rs : List Rq), vs = [v] ∧ Live B H ∧ Dp K (hide B H) v (.tuple (rs.map rqD)) ∧ (∀ r ∈ rs, wordS r.tag = true) ∧ rs.length ≤ 100 ∧
  ∀ (v' : V) (H' : Hp), Same H H' → Dp K (hide B H') v' (.list ((lawOut rs).map chnD)) → Q v' H'
abbrev nRows : List Str := ["_law_batch", "_law_found", "_law_timer_so", "_law_rest", "_law_tag_so", "_law_deed_so", "_law_words"]
theorem scRows : FnScope nRows ["_law_batch"] (defScope sRows) :=
  ⟨rfl, rfl, rfl, by decide +kernel, rfl, by decide +kernel, by decide +kernel⟩
theorem ok_rows {f : Addr} {fd : FuncData} {k : Nat} (F : Fun K "_law_rows" "_law_rows" sRows f fd) (mt : mg "tuple" = none) : FnOk P w K mg base CX0 (k + 1) f fd ["_law_batch"] (spRows K) := by
  refine F.ok scRows (fun vs H Q E h => ?_) (fun cdv A outer s H vs Q E hr h => ?_)
  · obtain ⟨B, v, rs, rfl, _⟩ := h
    rfl
  · obtain ⟨B, v, rs, rfl, lv, hd, hwd, hlen, q⟩ := h
    refine ⟨_, pss_cons (ps_par3 (i := 1) (j := 2) (l := 3) rfl scRows.nd rfl rfl rfl (by decide) (by decide) (by decide) rfl rfl rfl (pa_cons (pe_lst pa_nil) (pa_cons pe_non (pa_cons (pe_lst pa_nil) pa_nil))) (by rfl))
      (pss_cons (ps_for PassesOwn.never rfl (pi_tup (pe_revT (pv 0))) (pg_tup rfl (pgs_cons (pg_name (i := 4) scRows.nd rfl (.inl rfl)) (pgs_cons (pg_name (i := 5) scRows.nd rfl (.inl rfl)) (pgs_cons (pg_name (i := 6) scRows.nd rfl (.inl rfl)) pgs_nil))))
        (pss_one (ps_if (pt_cmpR op_eq (pe_ix ix_seq (pv 5) pe_int (fun _ _ => rfl)) pe_str (nomark _))
          (pss_one (ps_set (i := 2) scRows.nd rfl (.inl rfl) (pv 4)))
          (pss_cons (ps_if (PW.pt (pw_and (pt_cmpR (op_notInK (K := K) rfl) pe_str (pv 6) (by rfl)) (pw_and (pt_cmpR (op_notInK (K := K) rfl) pe_str (pv 6) (by rfl)) (pw_and1 (pt_cmpR (op_neDK (K := K) rfl hr.units) (pv 3) (pe_lst pa_nil) (by rfl))))))
            (pss_one (ps_par (i := 1) (j := 3) rfl scRows.nd rfl rfl (by decide) rfl rfl (pa_cons (pe_op op_cat (pe_lst (pa_cons (pe_callTy call_tuple_of (by rfl) mt PyProof.Rows.boot_tuple (pa_cons (pv 3) pa_nil)) pa_nil)) (pv 1)) (pa_cons (pe_lst pa_nil) pa_nil)) (by rfl))) pss_nil)
          (pss_one (ps_par (i := 3) (j := 2) rfl scRows.nd rfl rfl (by decide) rfl rfl (pa_cons (pe_op op_cat (pe_lst (pa_cons (pe_tup (pa_cons (pv 4) (pa_cons (pv 2) pa_nil))) pa_nil)) (pv 3)) (pa_cons pe_non pa_nil)) (by rfl)))))))
      (pss_one (ps_ret (pe_op op_cat (pe_lst (pa_cons (pe_callTy call_tuple_of (by rfl) mt PyProof.Rows.boot_tuple (pa_cons (pv 3) pa_nil)) pa_nil)) (pv 1))))), ?_⟩
    refine ⟨by show 0 ≤ sizeLine; decide, fun fp0 nf => ⟨by show 0 ≤ sizeLine; decide, fun rp0 nr => ⟨_, _, _, rfl, ?_⟩⟩⟩
    have sF : Same H (upd H fp0 (.lst [])) := same_upd nf
    have sR := same_upd (o := HO.lst []) nr
    have hF1 : (upd (upd H fp0 (.lst [])) rp0 (.lst [])) fp0 = some (.lst []) := sR _ _ upd_same
    have hR1 : (upd (upd H fp0 (.lst [])) rp0 (.lst [])) rp0 = some (.lst []) := upd_same
    have s1 := sF.trans sR
    show Ends.nx _ _ (upd (upd H fp0 (.lst [])) rp0 (.lst []))
    generalize upd (upd H fp0 (.lst [])) rp0 (.lst []) = H1 at hF1 hR1 s1
    obtain ⟨a, xs, rfl, hS, hall⟩ := dp_tupR hd
    have hl := dps_len hall
    rw [List.length_map] at hl
    refine ⟨_, rfl, a, xs, rfl, same_seqT s1 (same_seqT (hide_same B H) hS), fun p np => ⟨p, rfl, ⟨_, SqT.of upd_same⟩, ?_⟩⟩
    have u1 := same_upd (o := HO.tup xs.reverse) np
    have s2 := s1.trans u1
    have hF2 := u1 _ _ hF1
    have hR2 := u1 _ _ hR1
    have hp2 : (upd H1 p (.tup xs.reverse)) p = some (.tup xs.reverse) := upd_same
    generalize upd H1 p (.tup xs.reverse) = H2 at s2 hF2 hR2 hp2
    refine for_it (walk_tup (xs := xs.reverse)) (fun i σ H' => ∃ (fp rp : Addr) (fxs rxs : List V) (y4 y5 y6 : Option V), σ = [some (.ref a), some (.ref fp), some (oV (lawL (rs.drop (rs.length - i))).t), some (.ref rp), y4, y5, y6] ∧ Same H H' ∧ H' p = some (.tup xs.reverse) ∧
        H' fp = some (.lst fxs) ∧ H' rp = some (.lst rxs) ∧ DpAll K (hide B H') fxs ((lawL (rs.drop (rs.length - i))).f.map chnD) ∧ DpAll K (hide B H') rxs ((lawL (rs.drop (rs.length - i))).rest.map pairD))
      ⟨fp0, rp0, [], [], none, none, none, ?_, s2, hp2, hF2, hR2, ?_, ?_⟩ (fun i σ H' _ h => ?_) ?_ ?_
    · rw [Nat.sub_zero, List.drop_length]
      rfl
    · rw [Nat.sub_zero, List.drop_length]
      exact .nil
    · rw [Nat.sub_zero, List.drop_length]
      exact .nil
    · obtain ⟨_, _, _, _, _, _, _, _, _, hp, _⟩ := h
      exact SqT.of hp
    · rintro i x σ H' H'' hi ⟨fp, rp, fxs, rxs, y4, y5, y6, rfl, sm, hp, hF, hR, dF, dR⟩ ⟨rfl, hxi⟩
      rw [List.length_reverse] at hi
      have hj : rs.length - (i + 1) < rs.length := by omega
      have ej : rs.length - (i + 1) + 1 = rs.length - i := by omega
      have edrop : rs.drop (rs.length - (i + 1)) = rs[rs.length - (i + 1)] :: rs.drop (rs.length - i) := by
        rw [List.drop_eq_getElem_cons hj, ej]
      rw [List.getElem?_reverse hi] at hxi
      have exi : xs.length - 1 - i = rs.length - (i + 1) := by omega
      rw [exi] at hxi
      obtain ⟨d, hd1, hd2⟩ := dps_get hall hxi
      rw [List.getElem?_map, List.getElem?_eq_getElem hj] at hd1
      cases hd1
      have hw1 : wordS (rs[rs.length - (i + 1)]).tag = true := hwd _ (List.getElem_mem hj)
      have lz := lenLS (rs.drop (rs.length - i))
      have gz := goodLS (rs := rs.drop (rs.length - i)) fun r hr => hwd r (List.mem_of_mem_drop hr)
      rw [List.length_drop] at lz
      generalize rs[rs.length - (i + 1)] = r at edrop hd2 hw1
      have eL : lawL (rs.drop (rs.length - (i + 1))) = lawS (lawL (rs.drop (rs.length - i))) r := by rw [edrop]; rfl
      rw [eL]
      generalize lawL (rs.drop (rs.length - i)) = st at *
      obtain ⟨pr, x0, x1, x2, rfl, Sp, e0, e1, e2⟩ := dp_three hd2
      obtain ⟨a2, xs2, rfl, S2, A2⟩ := dp_tupR e1
      obtain ⟨a3, xs3, rfl, S3, A3⟩ := dp_tupR e2
      have := dps_strI A3
      subst this
      cases e0
      cases A2 with
      | cons f1 f2 =>
      cases f1
      have up : ∀ {b : Addr} {ys : List V}, SqT K (hide B H) b ys → ∀ {H3 : Hp}, Same H H3 → SqT K H3 b ys := fun h _ s => same_seqT s (same_seqT (hide_same B H) h)
      refine ⟨pr, _, rfl, up Sp sm, rfl, _, _, rfl, _, _, rfl, _, _, rfl, rfl, ?_⟩
      refine ⟨_, rfl, .inr (.inl ⟨a2, _, 0, _, rfl, rfl, up S2 sm, atI_nat (j := 0) rfl, rfl, _, rfl, ?_⟩)⟩
      rw [dec_str]
      show if isT r = true then _ else _
      cases ht : isT r with
      | true =>
        have es : lawS st r = ⟨st.f, some r.tag, st.rest⟩ := by
          unfold lawS
          rw [ht, if_pos rfl]
        rw [es]
        exact iteT ⟨_, rfl, fp, rp, fxs, rxs, _, _, _, rfl, sm, hp, hF, hR, dF, dR⟩
      | false =>
        refine iteF ?_
        have lf1 := dps_len dF
        have lr1 := dps_len dR
        rw [List.length_map] at lf1 lr1
        refine seq_named (P := fun σ' H3 => ∃ (fp' rp' : Addr) (fxs' rxs' : List V) (cnd : Bool), cnd = (!bindsR r && !decide (st.rest = [])) ∧ σ' = [some (.ref a), some (.ref fp'), some (oV st.t), some (.ref rp'), some (.str r.tag), some (.ref a2), some (.ref a3)] ∧ Same H H3 ∧ H3 p = some (.tup xs.reverse) ∧
          H3 fp' = some (.lst fxs') ∧ H3 rp' = some (.lst rxs') ∧ DpAll K (hide B H3) fxs' ((if cnd = true then st.rest :: st.f else st.f).map chnD) ∧ DpAll K (hide B H3) rxs' ((if cnd = true then [] else st.rest).map pairD) ∧ rxs'.length ≤ 200) (fun hR' => ?_) ?_
        · have eb : bindsR r = (decide (Str.ofString "link" ∈ r.words) || decide (Str.ofString "hard" ∈ r.words)) := rfl
          have no : ∀ {H3 : Hp}, Same H'' H3 → bindsR r = true ∨ st.rest = [] → (∃ (fp' rp' : Addr) (fxs' rxs' : List V) (cnd : Bool), cnd = (!bindsR r && !decide (st.rest = [])) ∧ [some (V.ref a), some (.ref fp), some (oV st.t), some (.ref rp), some (.str r.tag), some (.ref a2), some (.ref a3)] = [some (.ref a), some (.ref fp'), some (oV st.t), some (.ref rp'), some (.str r.tag), some (.ref a2), some (.ref a3)] ∧ Same H H3 ∧ H3 p = some (.tup xs.reverse) ∧
              H3 fp' = some (.lst fxs') ∧ H3 rp' = some (.lst rxs') ∧ DpAll K (hide B H3) fxs' ((if cnd = true then st.rest :: st.f else st.f).map chnD) ∧ DpAll K (hide B H3) rxs' ((if cnd = true then [] else st.rest).map pairD) ∧ rxs'.length ≤ 200) := by
            intro H3 s3 hor
            refine ⟨fp, rp, fxs, rxs, false, ?_, rfl, sm.trans s3, s3 _ _ hp, s3 _ _ hF, s3 _ _ hR, dps_same (hide_of_same s3) dF, dps_same (hide_of_same s3) dR, by omega⟩
            rcases hor with h | h
            · rw [h]; rfl
            · rw [h, decide_eq_true rfl]
              simp
          refine ⟨_, rfl, ?_⟩
          refine ⟨a3, _, rfl, .inr (up S3 sm), rfl, flat_strs _, _, rfl, ?_⟩
          rw [in_strs, if_pos rfl]
          cases h1 : decide (Str.ofString "link" ∈ r.words) with
          | true => exact iteF (iteF (hR' _ _ (no (Same.refl _) (.inl (by rw [eb, h1, Bool.true_or])))))
          | false =>
            refine iteT ⟨_, rfl, a3, _, rfl, .inr (up S3 sm), rfl, flat_strs _, _, rfl, ?_⟩
            rw [in_strs, if_pos rfl]
            cases h2 : decide (Str.ofString "hard" ∈ r.words) with
            | true => exact iteF (iteF (hR' _ _ (no (Same.refl _) (.inl (by rw [eb, h1, h2]; rfl)))))
            | false =>
              refine iteT ⟨_, rfl, by show 0 ≤ sizeLine; decide, fun p2 n2 => ?_⟩
              have u2 := same_upd (o := HO.lst []) n2
              have gg : gD lf2 100 (.list (st.rest.map pairD)) 2 = true := (gD_mk (m := 1) (by rw [List.length_map]; omega) (gDs_mono lf42 (by decide) _ 1 1 (Nat.le_refl 1) (goodC_gDs gz.1))).1
              refine ⟨.list (st.rest.map pairD), .list [], .lst (SqL.of (u2 _ _ hR)) (dps_same u2 (dps_same (hide_same B H'') dR)), .lst (SqL.of upd_same) .nil, shaped_gD gg (by decide), by decide, _, rfl, ?_⟩
              rw [eqv_emptyL]
              by_cases hr' : st.rest = []
              · rw [decide_eq_true (by rw [hr']; rfl)]
                exact iteF (hR' _ _ (no u2 (.inr hr')))
              · rw [decide_eq_false (fun z => hr' (List.map_eq_nil_iff.mp z))]
                refine iteT ?_
                have hR2' := u2 _ _ hR
                have lvx : ∀ {H3 : Hp}, Same H H3 → Live B H3 := fun s => lv.same s
                refine ⟨_, rfl, rp, _, rfl, .inl ⟨SqL.of hR2', fun p3 n3 => ⟨by show 1 ≤ sizeLine; decide, fun p4 n4 => ?_⟩⟩⟩
                have u3 := same_upd (o := HO.tup rxs) n3
                have u4 := same_upd (o := HO.lst [V.ref p3]) n4
                have k3 : Dp K (hide B _) (.ref p3) (chnD st.rest) := dp_new (lvx (sm.trans u2)) n3 (dps_same (hide_of_same u2) dR)
                refine ⟨_, rfl, p4, fp, _, _, rfl, rfl, upd_same, u4 _ _ (u3 _ _ (u2 _ _ hF)), Nat.le_of_lt (small1000 (by show 1 + fxs.length ≤ 1000; omega)), fun p5 n5 => ⟨by show 0 ≤ sizeLine; decide, fun p6 n6 => ⟨_, _, rfl, ?_⟩⟩⟩
                have u5 := same_upd (o := HO.lst ([V.ref p3] ++ fxs)) n5
                have u6 := same_upd (o := HO.lst []) n6
                have u35 := (u4.trans u5).trans u6
                have uall := ((u2.trans u3).trans u4).trans (u5.trans u6)
                refine hR' _ _ ⟨p5, p6, [V.ref p3] ++ fxs, [], true, ?_, rfl, sm.trans uall, uall _ _ hp, u6 _ _ upd_same, upd_same, ?_, .nil, by decide⟩
                · rw [eb, h1, h2, decide_eq_false hr']
                  rfl
                · exact .cons (dp_same (hide_of_same u35) k3) (dps_same (hide_of_same uall) dF)
        · rintro σ' H3 ⟨fp', rp', fxs', rxs', cnd, hc, rfl, s3, hp3, hF3, hR3, dF3, dR3, l3⟩
          refine ⟨_, rfl, _, rfl, by show 2 ≤ sizeLine; decide, fun p7 n7 => ⟨by show 1 ≤ sizeLine; decide, fun p8 n8 => ?_⟩⟩
          have u7 := same_upd (o := HO.tup [.str r.tag, oV st.t]) n7
          have u8 := same_upd (o := HO.lst [V.ref p7]) n8
          have k7 : Dp K (hide B _) (.ref p7) (pairD (r.tag, st.t)) := dp_new (lv.same s3) n7 (.cons (.str _) (.cons (dp_opt st.t) .nil))
          refine ⟨_, rfl, p8, rp', _, _, rfl, rfl, upd_same, u8 _ _ (u7 _ _ hR3), Nat.le_of_lt (small1000 (by show 1 + rxs'.length ≤ 1000; omega)), fun p9 n9 => ⟨_, _, rfl, ?_⟩⟩
          have u9 := same_upd (o := HO.lst ([V.ref p7] ++ rxs')) n9
          have u79 := (u7.trans u8).trans u9
          have es : lawS st r = ⟨(if cnd = true then st.rest :: st.f else st.f), none, (r.tag, st.t) :: (if cnd = true then [] else st.rest)⟩ := by
            unfold lawS
            rw [ht, if_neg (by decide), ← hc]
            cases cnd <;> rfl
          rw [es]
          exact ⟨fp', p9, fxs', [V.ref p7] ++ rxs', _, _, _, rfl, s3.trans u79, u79 _ _ hp3, u79 _ _ hF3, upd_same, dps_same (hide_of_same u79) dF3, .cons (dp_same (hide_of_same (u8.trans u9)) k7) (dps_same (hide_of_same u79) dR3)⟩
    · rintro σ H' ⟨fp, rp, fxs, rxs, y4, y5, y6, rfl, sm, hp, hF, hR, dF, dR⟩
      have e0 : rs.length - xs.reverse.length = 0 := by rw [List.length_reverse]; omega
      rw [e0, List.drop_zero] at dF dR
      have lz := lenLS rs
      have lf1 := dps_len dF
      rw [List.length_map] at lf1
      refine ⟨_, rfl, rp, _, rfl, .inl ⟨SqL.of hR, fun p3 n3 => ⟨by show 1 ≤ sizeLine; decide, fun p4 n4 => ?_⟩⟩⟩
      have u3 := same_upd (o := HO.tup rxs) n3
      have u4 := same_upd (o := HO.lst [V.ref p3]) n4
      have k3 : Dp K (hide B _) (.ref p3) (chnD (lawL rs).rest) := dp_new (lv.same sm) n3 dR
      refine ⟨_, rfl, p4, fp, _, _, rfl, rfl, upd_same, u4 _ _ (u3 _ _ hF), Nat.le_of_lt (small1000 (by show 1 + fxs.length ≤ 1000; omega)), fun p5 n5 => ?_⟩
      have u5 := same_upd (o := HO.lst ([V.ref p3] ++ fxs)) n5
      exact q _ _ (((sm.trans u3).trans u4).trans u5) (dp_newL (lv.same ((sm.trans u3).trans u4)) n5 (.cons (dp_same (hide_of_same u4) k3) (dps_same (hide_of_same (u3.trans u4)) dF)))
end
end KV

namespace KV
open PySem PySem.Spec PyProof.Rows L2 RZ
abbrev sTags : Stmt := topS 5
theorem ix_seqK {X : Cx} {K : PySem.W.Frag} (h : X.K = K) : IxR X (rIx K) := by
  subst h
  exact ix_seq
theorem pi_datGK {X : Cx} {K : PySem.W.Frag} {tg l : Expr} {tl : TE} (h : X.K = K) (hl : PE X l tl) : PI X tg l (iDatG K tl) := by
  subst h
  exact pi_datG hl
/-! ### a comprehension of two walks -/
theorem lcO_it {J : L2.It} {n : Nat} {G : Hp → Prop} {Y : Nat → Hp → V → Hp → Prop} (w : Walk J n G Y) {g : TG} {tt : TT} {vs : List Nat} {σ : L2.St} {H1 : Hp} {D : Addr} {Qd : Hp → Prop} {In : (Hp → Prop) → L2.St → Hp → Prop} (Pv : Nat → Hp → Prop) (h0 : Pv 0 (upd H1 D (.lst []))) (hG : ∀ i H, i ≤ n → Pv i H → G H)
    (hs : ∀ i x H H', i < n → Pv i H → Y i H x H' → g x (wipe σ vs) H' fun σ2 H2 => wipe σ2 vs = wipe σ vs ∧ tt σ2 H2 fun b H3 => if b = true then In (Pv (i + 1)) σ2 H3 else Pv (i + 1) H3) (hd : ∀ H, Pv n H → Qd H) :
    ∃ W : Nat → Nat → Hp → Prop, (∃ m, W 0 m (upd H1 D (.lst []))) ∧ ∀ i m H, W i m H →
      (J.stop i H ∧ Qd H) ∨ (J.go i H ∧ ∃ Nx : Hp → Prop, (∀ H', Nx H' → ∃ m', m' < m ∧ W (i + 1) m' H') ∧ ∀ x H', J.yld i H x H' → g x (wipe σ vs) H' fun σ2 H2 => wipe σ2 vs = wipe σ vs ∧ tt σ2 H2 fun b H3 =>
        if b = true then In Nx σ2 H3 else Nx H3) := by
  refine ⟨fun i m H => m = n - i ∧ i ≤ n ∧ Pv i H, ⟨n, by simp, Nat.zero_le _, h0⟩, ?_⟩
  rintro i m H ⟨rfl, hi, p⟩
  have q := hG i H hi p
  by_cases hlt : i < n
  · refine .inr ⟨w.goes i H hlt q, Pv (i + 1), fun H' p' => ⟨n - (i + 1), by omega, rfl, hlt, p'⟩, fun x H' y => hs i x H H' hlt p (w.yields i H x H' hlt q y)⟩
  · have e : i = n := by omega
    subst e
    exact .inl ⟨w.stops H q, hd H p⟩
theorem lcI_it {J : L2.It} {n : Nat} {G : Hp → Prop} {Y : Nat → Hp → V → Hp → Prop} (w : Walk J n G Y) {g : TG} {tt : TT} {te : TE} {vs : List Nat} {σ : L2.St} {H1 : Hp} {D : Addr} {Nx : Hp → Prop} (Pv : Nat → Hp → Prop) (h0 : Pv 0 H1) (hG : ∀ i H, i ≤ n → Pv i H → G H)
    (hs : ∀ i x H H', i < n → Pv i H → Y i H x H' → g x (wipe σ vs) H' fun σ2 H2 => wipe σ2 vs = wipe σ vs ∧ tt σ2 H2 fun b H3 =>
      if b = true then te σ2 H3 fun y H4 => ∃ acc, H4 D = some (.lst acc) ∧ acc.length < sizeLine ∧ Pv (i + 1) (upd H4 D (.lst (acc ++ [y]))) else Pv (i + 1) H3) (hd : ∀ H, Pv n H → Nx H) :
    ∃ W : Nat → Nat → Hp → Prop, (∃ m, W 0 m H1) ∧ ∀ i m H, W i m H →
      (J.stop i H ∧ Nx H) ∨ (J.go i H ∧ ∃ Nx1 : Hp → Prop, (∀ H', Nx1 H' → ∃ m', m' < m ∧ W (i + 1) m' H') ∧ ∀ x H', J.yld i H x H' → g x (wipe σ vs) H' fun σ2 H2 => wipe σ2 vs = wipe σ vs ∧ tt σ2 H2 fun b H3 =>
        if b = true then te σ2 H3 fun y H4 => ∃ acc, H4 D = some (.lst acc) ∧ acc.length < sizeLine ∧ Nx1 (upd H4 D (.lst (acc ++ [y]))) else Nx1 H3) := by
  refine ⟨fun i m H => m = n - i ∧ i ≤ n ∧ Pv i H, ⟨n, by simp, Nat.zero_le _, h0⟩, ?_⟩
  rintro i m H ⟨rfl, hi, p⟩
  have q := hG i H hi p
  by_cases hlt : i < n
  · refine .inr ⟨w.goes i H hlt q, Pv (i + 1), fun H' p' => ⟨n - (i + 1), by omega, rfl, hlt, p'⟩, fun x H' y => hs i x H H' hlt p (w.yields i H x H' hlt q y)⟩
  · have e : i = n := by omega
    subst e
    exact .inl ⟨w.stops H q, hd H p⟩
theorem All2.get {α β : Type} {R : α → β → Prop} : ∀ {as : List α} {bs : List β}, All2 R as bs → ∀ (i : Nat) (a : α), as[i]? = some a → ∃ b, bs[i]? = some b ∧ R a b
  | _, _, .nil, i, a, h => by cases h
  | _, _, .cons h1 h2, i, a, h => by
    cases i with
    | zero =>
      cases h
      exact ⟨_, rfl, h1⟩
    | succ i => exact h2.get i a h
theorem All2.len {α β : Type} {R : α → β → Prop} : ∀ {as : List α} {bs : List β}, All2 R as bs → as.length = bs.length
  | _, _, .nil => rfl
  | _, _, .cons _ h2 => congrArg (· + 1) h2.len
theorem flatTake {α β : Type} (f : α → List β) (l : List α) (j : Nat) : ((l.take j).flatMap f).length ≤ (l.flatMap f).length := by
  have e : l.flatMap f = (l.take j).flatMap f ++ (l.drop j).flatMap f := by rw [← List.flatMap_append, List.take_append_drop]
  rw [e, List.length_append]
  omega
theorem flat_snoc {α β : Type} (f : α → List β) {l : List α} {j : Nat} {e : α} (h : l[j]? = some e) : (l.take (j + 1)).flatMap f = (l.take j).flatMap f ++ f e := by
  rw [take_snoc h, List.flatMap_append]
  show _ ++ (f e ++ []) = _
  rw [List.append_nil]
/-- an event's word and what stands behind it; of a put, its requests -/
structure Eg where
  wd : Str
  rest : List PyData
  rs : List Rq
def egD (e : Eg) : PyData := .tuple (.str e.wd :: e.rest)
def isPut (e : Eg) : Bool := decide (e.wd = Str.ofString "put")
def tagsOf (es : List Eg) : List Str := (es.filter isPut).flatMap fun e => e.rs.map Rq.tag
def EgOk (e : Eg) : Prop := isPut e = true → e.rest = [.tuple (e.rs.map rqD)]
section
variable {P : Program} {w : World} {K : PySem.W.Frag} {mg : Str → Option Value} {base : Heap}
def spTags (K : PySem.W.Frag) : Sp := fun vs H Q _ => ∃ (v : V) (es : List Eg), vs = [v] ∧ VT K H v (.tuple (es.map egD)) ∧ (∀ e ∈ es, EgOk e) ∧ es.length ≤ 100 ∧ (tagsOf es).length ≤ 900 ∧
  ∀ (p : Addr) (H' : Hp), Same H H' → H p = none → H' p = some (.tup ((tagsOf es).map V.str)) → Q (.ref p) H'
abbrev nTags : List Str := ["script", "lots", "event", "lot", "request"]
theorem scTagsD : FnScope nTags ["script"] (defScope sTags) :=
  ⟨rfl, rfl, rfl, by decide +kernel, rfl, by decide +kernel, by decide +kernel⟩
theorem ok_tags {f : Addr} {fd : FuncData} {k : Nat} (F : Fun K "tags" "tags" sTags f fd) (mt : mg "tuple" = none) : FnOk P w K mg base CX0 (k + 1) f fd ["script"] (spTags K) := by
  refine F.ok scTagsD (fun vs H Q E h => ?_) (fun cdv A outer s H vs Q E hr h => ?_)
  · obtain ⟨v, es, rfl, _⟩ := h
    rfl
  · obtain ⟨v, es, rfl, hv, hok, hlen, htl, q⟩ := h
    refine ⟨_, pss_cons (ps_setLc (i := 1) (own := [("event", 2)]) (g := gName 2) rfl scTagsD.nd rfl rfl (sw_true rfl rfl rfl (by decide +kernel))
          (pi_datG (pv 0)) (blkOk_by (N := nTags) (sc := defScope sTags) (by decide +kernel))
          (fun _ _ _ _ _ => pg_name (i := 2) scTagsD.nd rfl (Or.inl rfl)) (fun _ _ _ _ _ => pts_one (pt_cmpR op_eq (pe_ix (ix_seqK (K := K) rfl) (pv 2) pe_int (fun _ _ => rfl)) pe_str (nomark _))) (fun _ _ _ _ _ => pe_ix (ix_seqK (K := K) rfl) (pv 2) pe_int (fun _ _ => rfl)))
      (pss_one (ps_ret (pe_callTy call_tuple_of (by rfl) mt PyProof.Rows.boot_tuple (pa_cons
          (pe_lc2 (own := [("lot", 3), ("request", 4)]) (vs1 := [4]) (g := gName 3) (tt := tYes) (g1 := gName 4) (tt1 := tYes) rfl scTagsD.nd (pi_list (pv 1)) (blkOk_by (N := nTags) (sc := defScope sTags) (by decide +kernel)) (by decide)
            (fun _ _ _ _ _ => pg_name (i := 3) scTagsD.nd rfl (Or.inl rfl)) (fun _ _ _ _ _ => pts_nil)
            (fun _ _ _ _ _ => pi_datGK (K := K) rfl (pv 3)) (fun _ _ _ _ _ => pg_name (i := 4) scTagsD.nd rfl (Or.inl rfl)) (fun _ _ _ _ _ => pts_nil) (fun _ _ _ _ _ => pe_ix (ix_seqK (K := K) rfl) (pv 4) pe_int (fun _ _ => rfl))) pa_nil)))), ?_⟩
    obtain ⟨a, xs, rfl, hk, hl, hx⟩ := hv.seq
    rw [List.length_map] at hl
    obtain ⟨S, hS, hS0, hSs⟩ := SeqS.of hk
    refine ⟨_, rfl, a, xs, S, rfl, hS, hS0, fun J G wk hG D nD => lc_it wk (fun j H5 => SameX [D] H H5 ∧ ∃ acc, H5 D = some (.lst acc) ∧ acc.length ≤ j ∧ All2 (fun y e => VT K H y (.tuple (e.rs.map rqD))) acc ((es.take j).filter isPut))
      ⟨sameX_upd List.mem_cons_self, [], upd_same, Nat.le_refl 0, .nil⟩ (fun j H5 _ z => hG H5 (hSs _ _ (fun c o e => z.1 c o (fun y => ne_of_none e nD (List.mem_singleton.mp y)) e) hS0)) ?_ ?_⟩
    · rintro j x H5 H5' hj ⟨s5, acc, hD, la, al⟩ ⟨rfl, hxj⟩
      have hje : j < es.length := by omega
      obtain ⟨x', hx', vx⟩ := hx j (egD es[j]) (by rw [List.getElem?_map, List.getElem?_eq_getElem hje]; rfl)
      have exx : x' = x := by rw [hxj] at hx'; exact (Option.some.inj hx').symm
      subst exx
      have hgj : es[j]? = some es[j] := List.getElem?_eq_getElem hje
      have hoe := hok _ (List.getElem_mem hje)
      generalize es[j] = e at *
      have s05 : Same H H5' := fun c o e => s5 c o (fun y => ne_of_none e nD (List.mem_singleton.mp y)) e
      obtain ⟨a1, ys, rfl, hk1, _, hy⟩ := VT.seq vx
      obtain ⟨y0, hy0, vy0⟩ := hy 0 (.str e.wd) rfl
      have := vy0.str
      subst this
      have hk5 := hk1.imp s05.seq (same_seqT s05)
      refine ⟨rfl, _, rfl, ix_vt hk5 hy0 ⟨rfl, _, rfl, ?_⟩⟩
      rw [dec_str]
      show if isPut e = true then _ else _
      have ef : (es.take (j + 1)).filter isPut = (es.take j).filter isPut ++ (if isPut e = true then [e] else []) := by
        rw [take_snoc hgj, List.filter_append, List.filter_cons, List.filter_nil]
      cases hp : isPut e with
      | true =>
        rw [hp] at ef
        obtain ⟨z, hz, vz⟩ := hy 1 (.tuple (e.rs.map rqD)) (by rw [hoe hp]; rfl)
        refine iteT ⟨_, rfl, ix_vt hk5 hz ⟨acc, hD, small1000 (by omega), s5.trans (sameX_upd List.mem_cons_self), acc ++ [z], upd_same, by rw [List.length_append]; show acc.length + 1 ≤ j + 1; omega, ?_⟩⟩
        rw [ef]
        exact al.snoc vz
      | false =>
        rw [hp] at ef
        refine iteF ⟨s5, acc, hD, by omega, ?_⟩
        rw [ef]
        show All2 _ _ (_ ++ [])
        rw [List.append_nil]
        exact al
    · rintro H5 ⟨s5, acc, hD, la, al⟩
      have s05 : Same H H5 := fun c o e => s5 c o (fun y => ne_of_none e nD (List.mem_singleton.mp y)) e
      rw [hl, List.take_length] at al
      have lal := al.len
      have ht0 : tagsOf es = (es.filter isPut).flatMap fun e => e.rs.map Rq.tag := rfl
      have hwf : ∀ e ∈ es.filter isPut, e ∈ es := fun e he => (List.mem_filter.mp he).1
      generalize es.filter isPut = pu at *
      rw [ht0] at htl
      refine ⟨_, rfl, D, rfl, ⟨acc, SqL.of hD⟩, fun D2 nD2 => lcO_it (walk_list (xs := acc)) (fun j H6 => SameX [D2] H5 H6 ∧ H6 D2 = some (.lst (((pu.take j).flatMap fun e => e.rs.map Rq.tag).map V.str)))
        ⟨sameX_upd List.mem_cons_self, upd_same⟩ (fun j H6 _ z => ?_) ?_ ?_⟩
      · exact SqL.of (z.1 D _ (fun y => by rw [List.mem_singleton.mp y, nD2] at hD; cases hD) hD)
      · rintro j x H6 H6' hj ⟨s6, hD2⟩ ⟨rfl, hxj⟩
        obtain ⟨e, he, vx⟩ := al.get j x hxj
        have s06 : Same H H6' := s05.trans fun c o e => s6 c o (fun y => ne_of_none e nD2 (List.mem_singleton.mp y)) e
        obtain ⟨a3, xs3, rfl, hk3, hl3, hx3⟩ := vx.seq
        rw [List.length_map] at hl3
        obtain ⟨S3, hS3, hS30, hSs3⟩ := SeqS.of hk3
        have eF := flat_snoc (fun e => e.rs.map Rq.tag) he
        have lF := flatTake (fun e : Eg => e.rs.map Rq.tag) pu (j + 1)
        rw [eF, List.length_append, List.length_map] at lF
        refine ⟨rfl, tYes_ok ⟨_, rfl, a3, xs3, S3, rfl, hS3, hSs3 _ _ s06 hS30, fun J3 G3 wk3 hG3 => lcI_it wk3 (fun k H7 => SameX [D2] H5 H7 ∧ H7 D2 = some (.lst ((((pu.take j).flatMap fun e => e.rs.map Rq.tag) ++ (e.rs.take k).map Rq.tag).map V.str)))
          ⟨s6, by rw [hD2]; simp⟩ (fun k H7 _ z => hG3 H7 (hSs3 _ _ (s05.trans fun c o e => z.1 c o (fun y => ne_of_none e nD2 (List.mem_singleton.mp y)) e) hS30)) ?_ ?_⟩⟩
        · rintro k y H7 H7' hk' ⟨s7, hD7⟩ ⟨rfl, hyk⟩
          have hke : k < e.rs.length := by omega
          obtain ⟨y', hy', vy⟩ := hx3 k (rqD e.rs[k]) (by rw [List.getElem?_map, List.getElem?_eq_getElem hke]; rfl)
          have eyy : y' = y := by rw [hyk] at hy'; exact (Option.some.inj hy').symm
          subst eyy
          have hgk : e.rs[k]? = some e.rs[k] := List.getElem?_eq_getElem hke
          have s07 : Same H H7' := s05.trans fun c o e => s7 c o (fun y => ne_of_none e nD2 (List.mem_singleton.mp y)) e
          generalize e.rs[k] = r at *
          obtain ⟨ax, pxs, x1, x2, rfl, hkx, h0, h1, h2, v1, v2⟩ := rq_parts vy
          refine ⟨rfl, tYes_ok ⟨_, rfl, ix_vt (hkx.imp s07.seq (same_seqT s07)) h0 ⟨_, hD7, small1000 ?_, s7.trans (sameX_upd List.mem_cons_self), ?_⟩⟩⟩
          · rw [List.length_map, List.length_append, List.length_map, List.length_take]
            have := Nat.min_le_left k e.rs.length
            have := Nat.min_le_right k e.rs.length
            omega
          · rw [upd_same, take_snoc hgk]
            simp only [List.map_append, List.append_assoc]
            rfl
        · rintro H7 ⟨s7, hD7⟩
          refine ⟨s7, ?_⟩
          rw [hl3, List.take_length] at hD7
          rw [hD7, eF]
      · rintro H6 ⟨s6, hD2⟩
        rw [lal, List.take_length] at hD2
        have s06 : Same H H6 := s05.trans fun c o e => s6 c o (fun y => ne_of_none e nD2 (List.mem_singleton.mp y)) e
        refine ⟨D2, _, rfl, .inl ⟨SqL.of hD2, fun p np => q p _ (s06.trans (same_upd np)) ?_ ?_⟩⟩
        · cases e : H p with
          | none => rfl
          | some o => rw [s06 _ _ e] at np; cases np
        · rw [upd_same, ht0]
end
end KV

namespace KV
open PySem PySem.Spec PyProof.Rows L2 RZ
abbrev sMixed : Stmt := topS 17
section
variable {P : Program} {w : World} {K : PySem.W.Frag} {mg : Str → Option Value} {base : Heap}
/-! ### _law_mixed -/
def spMixed (K : PySem.W.Frag) (m : Nat) : Sp := fun vs H Q _ => ∃ (B : List Addr) (b : Addr) (n : Nat) (v : V) (d : PyData), vs = [.ref b, v] ∧ b ∈ B ∧ Live B H ∧ BoxAt H b n ∧ n + nodesD d ≤ 2 ^ 40 ∧ Dp K (hide B H) v d ∧ okD d m = true ∧
  ∀ (v' : V) (d' : PyData) (H' : Hp), tupD d' = tupD d → okD d' m = true → SameX [b] H H' → BoxAt H' b (n + nodesD d) → Dp K (hide B H') v' d' → Q v' H'
theorem scMixed : FnScope ["_law_box_here", "_law_matter", "_law_some", "_law_bit"] ["_law_box_here", "_law_matter"] (defScope sMixed) :=
  ⟨rfl, rfl, rfl, by decide +kernel, rfl, by decide +kernel, by decide +kernel⟩
theorem ok_mixed {f fT : Addr} {fd fdT : FuncData} (F : Fun K "_law_mixed" "_law_mixed" sMixed f fd) (bF : Binds K fd ["_law_box_here", "_law_matter"] []) (mF : mg "_law_mixed" = some (.ref f))
    (FT : Fun K "_law_take" "_law_take" sTake fT fdT) (bT : Binds K fdT ["_law_box_here", "_law_below"] []) (mT : mg "_law_take" = some (.ref fT))
    (mn : mg "int" = none) (mi : mg "isinstance" = none) (ml : mg "list" = none) (mt : mg "tuple" = none) :
    ∀ m : Nat, FnOk P w K mg base CX0 (m + 2) f fd ["_law_box_here", "_law_matter"] (spMixed K m) := by
  have GT : FnOk P w K mg base CX0 1 fT fdT ["_law_box_here", "_law_below"] spTake := ok_take FT mn
  intro m
  induction m with
  | zero =>
    refine F.ok scMixed (fun vs H Q E h => ?_) (fun cdv A outer s H vs Q E hr h => ?_)
    · obtain ⟨B, b, n, v, d, rfl, _⟩ := h
      rfl
    · obtain ⟨B, b, n, v, d, rfl, hb, lv, hB, hn, hd, hok, q⟩ := h
      have ha := ok_atom hok
      refine ⟨_, pss_cons (ps_if (pt_not (pt_val (pe_callB cr_isSeq (by rfl) mi boot_isinstance (pa_cons (pv 1) (pa_cons (pe_tup (pa_cons (pe_bltn (v := .ty "list") (by rfl) ml (by decide +kernel) rfl) (pa_cons (pe_bltn (v := .ty "tuple") (by rfl) mt (by decide +kernel) rfl) pa_nil))) pa_nil)))))
        (pss_one (ps_ret (pv 1))) pss_nil) pss_never, ?_⟩
      refine ⟨_, rfl, by show 2 ≤ sizeLine; decide, fun t nt => ⟨_, _, d, rfl, upd_same, dp_same (same_upd nt) (dp_same (hide_same B H) hd), _, rfl, ?_⟩⟩
      rw [ha]
      refine iteT ⟨_, rfl, q _ d _ rfl hok (SameX.of (same_upd nt)) ((hB.same (same_upd nt)).le (Nat.le_add_right _ _)) ?_⟩
      exact dp_same (hide_of_same (same_upd nt)) hd
  | succ m ih =>
    refine F.ok scMixed (fun vs H Q E h => ?_) (fun cdv A outer s H vs Q E hr h => ?_)
    · obtain ⟨B, b, n, v, d, rfl, _⟩ := h
      rfl
    · obtain ⟨B, b, n, v, d, rfl, hb, lv, hB, hn, hd, hok, q⟩ := h
      refine ⟨_, pss_cons (ps_if (pt_not (pt_val (pe_callB cr_isSeq (by rfl) mi boot_isinstance (pa_cons (pv 1) (pa_cons (pe_tup (pa_cons (pe_bltn (v := .ty "list") (by rfl) ml (by decide +kernel) rfl) (pa_cons (pe_bltn (v := .ty "tuple") (by rfl) mt (by decide +kernel) rfl) pa_nil))) pa_nil)))))
        (pss_one (ps_ret (pv 1))) pss_nil)
        (pss_cons (ps_setLc (i := 2) (own := [("_law_bit", 3)]) (g := gName 3) (tt := tYes) rfl scMixed.nd rfl rfl (sw_true rfl rfl rfl (by decide +kernel)) (pi_dat B (pv 1)) (blkOk_by (N := ["_law_box_here", "_law_matter", "_law_some", "_law_bit"]) (sc := defScope sMixed) (by decide +kernel))
          (fun _ _ _ _ _ => pg_name (i := 3) scMixed.nd rfl (Or.inl rfl)) (fun _ _ _ _ _ => pts_nil) (fun _ _ _ _ _ => pe_call ih hr (by rfl) mF F.kp bF .nil pass0 (pa_cons (pv 0) (pa_cons (pv 3) pa_nil))))
        (pss_one (ps_ret (pe_ifExp (pt_cmpR op_eq (pe_call GT (hr.mono (by omega)) (by rfl) mT FT.kp bT .nil pass0 (pa_cons (pv 0) (pa_cons pe_int pa_nil))) pe_int (nomark _)) (pv 2)
          (pe_callTy call_tuple_of (by rfl) mt PyProof.Rows.boot_tuple (pa_cons (pv 2) pa_nil)))))), ?_⟩
      refine ⟨_, rfl, by show 2 ≤ sizeLine; decide, fun t nt => ⟨_, _, d, rfl, upd_same, dp_same (same_upd nt) (dp_same (hide_same B H) hd), _, rfl, ?_⟩⟩
      have s1 : Same H (upd H t (.tup [.ty "list", .ty "tuple"])) := same_upd nt
      have hd1 : Dp K (hide B (upd H t (.tup [.ty "list", .ty "tuple"]))) v d := dp_same (hide_of_same s1) hd
      have lv1 := lv.same s1
      have hB1 := hB.same s1
      generalize upd H t (.tup [.ty "list", .ty "tuple"]) = H1 at s1 hd1 lv1 hB1
      cases ha : isSeq d with
      | false => exact iteT ⟨_, rfl, q _ d _ rfl hok (SameX.of s1) (hB1.le (Nat.le_add_right _ _)) hd1⟩
      | true =>
        refine iteF ?_
        obtain ⟨a, xs, ds, rfl, hk, hall⟩ := dp_seq hd1 ha
        have hkk : d = .list ds ∨ d = .tuple ds := hk.imp And.right And.right
        obtain ⟨m', hm, hlen, hok2⟩ := ok_seq hkk hok
        have em : m' = m := by omega
        subst em
        have enod : nodesD d = nodesDs ds + 1 := by
          rcases hkk with rfl | rfl <;> simp only [nodesD]
        have etup : tupD d = .tuple (ds.map tupD) := by
          rcases hkk with rfl | rfl <;> simp only [tupD, tupDs_map]
        have hl := dps_len hall
        have hkB : SqL K (hide B H1) a xs ∨ SqT K (hide B H1) a xs := hk.imp And.left And.left
        have bne : ∀ {H2 : Hp} {k : Nat}, BoxAt H2 b k → H2 b ≠ none := fun {H2 k} z e => by
          obtain ⟨_, _, _, z1, _⟩ := z
          rw [z1] at e
          cases e
        refine ⟨_, rfl, a, xs, rfl, hkB, fun J G wk hG D nD => lc_dp (K := K) wk (ds := ds) (B := B) (C := [b]) (i := 3) hall lv1 (fun c hc => by rw [List.mem_singleton.mp hc]; exact hb) nD (by omega) hG
            (fun j H2 => BoxAt H2 b (n + nodesDs (ds.take j))) (by simpa only [List.take_zero, nodesDs, Nat.add_zero] using hB1) (fun j H2 o _ z => ?_) (fun j H2 z c hc => by rw [List.mem_singleton.mp hc]; exact bne z) (fun e e' => tupD e' = tupD e ∧ okD e' m' = true)
            (fun j x e H2 Q2 _ he lv2 z hdp2 k2 => ⟨_, rfl, _, rfl, D :: B, b, _, x, e, rfl, List.mem_cons_of_mem _ hb, lv2, z, ?_, hdp2, okDs_get hok2 he, fun y e' H3 et eo s3 hB3 hd3 => k2 y H3 e' s3 ⟨et, eo⟩ hd3 ?_⟩)
            (fun H2 acc ds' s2 lv2 z hD2 hacc h2 => ?_)⟩
        · obtain ⟨x1, y1, c1, z1, z2⟩ := z
          have nbD : b ≠ D := fun e => lv1.new nD (e ▸ hb)
          exact ⟨x1, y1, c1, by rw [upd_ne nbD]; exact z1, z2⟩
        · have h1 := nodes_le ds (j + 1)
          rw [nodes_take he] at h1
          omega
        · rw [nodes_take he, ← Nat.add_assoc]
          exact hB3
        · -- the draw
          have nDB : D ∉ B := lv1.new nD
          have nbD : D ≠ b := fun e => nDB (e ▸ hb)
          rw [hl, List.take_length] at z
          obtain ⟨ht2, hok3⟩ := all2_tup h2
          have hl3 := all2_len h2
          refine ⟨_, rfl, b, _, 2, rfl, by decide, by decide, z, by omega, fun r H3 r0 r1 s3 hB3 => ?_⟩
          have hD3 : H3 D = some (.lst acc) := s3 D _ (fun e => nbD (List.mem_singleton.mp e)) hD2
          have s23 : SameX [b] H H3 := fun c o e1 e2 => by
            have e3 := s1 c o e2
            have cD : c ≠ D := ne_of_none e3 nD
            exact s3 c o e1 (s2 c o (fun z => (List.mem_cons.mp z).elim cD e1) e3)
          have acc3 : DpAll K (hide B H3) acc ds' := dps_same (hide_leave.trans (s3.hide fun c hc => by rw [List.mem_singleton.mp hc]; exact hb)) hacc
          have hB4 : BoxAt H3 b (n + nodesD d) := hB3.le (by omega)
          have lv3 : Live B H3 := s3.live lv2.tail fun c hc => by rw [List.mem_singleton.mp hc]; exact bne hB3
          refine ⟨rfl, _, rfl, ite2 (fun e => ?_) (fun e => ?_)⟩
          · refine ⟨_, rfl, q _ (.list ds') _ ?_ (ok_mk (by omega) hok3).1 s23 hB4 (.lst (SqL.of (by rw [hide_out nDB]; exact hD3)) acc3)⟩
            rw [etup, ← ht2]
            simp only [tupD, tupDs_map]
          · refine ⟨_, rfl, _, _, rfl, .inl ⟨SqL.of hD3, fun l nl => q _ (.tuple ds') _ ?_ (ok_mk (by omega) hok3).2 ?_ (hB4.same (same_upd nl)) (.tup (SqT.of (hide_new lv3 nl)) (dps_same (hide_grow lv3 nl) acc3))⟩⟩
            · rw [etup, ← ht2]
              simp only [tupD, tupDs_map]
            · exact s23.trans (SameX.of (same_upd nl))
end
end KV

namespace KV
open PySem PySem.Spec PyProof.Rows L2 RZ
/-! ### nothing but tuples -/
theorem tup_words (ws : List Str) : tupD (.tuple (ws.map PyData.str)) = .tuple (ws.map PyData.str) := by
  simp only [tupD, PyData.tuple.injEq, tupDs_map, List.map_map]
  exact List.map_congr_left fun x _ => by show tupD (.str x) = .str x; simp only [tupD]
theorem where_flat {ps : List Str} {m : Nat} {d : PyData} (h : WhereD ps m d) : tupD d = d := by
  rcases h with ⟨i, _, rfl⟩ | ⟨x, _, rfl⟩ <;> simp only [tupD, tupDs]
theorem deed_flat {ps : List Str} {m : Nat} {gs : List Str} {d : PyData} (h : DeedD ps m gs d) : tupD d = d := by
  cases h with
  | read h1 _ _ => simp only [tupD, tupDs, where_flat h1]
  | reads h1 _ _ => simp only [tupD, tupDs, where_flat h1]
  | write h1 _ _ => simp only [tupD, tupDs, where_flat h1]
  | shut h1 => simp only [tupD, tupDs, where_flat h1]
  | update h1 h2 =>
    rcases h2 with rfl | ⟨p, _, rfl⟩ <;> simp only [tupD, tupDs]
  | _ => simp only [tupD, tupDs]
theorem it_flat {ps : List Str} {m : Nat} {gs : List Str} {it : It} (h : ItOk ps m gs it) : ∀ e ∈ itDs it, tupD e = e := by
  intro e he
  unfold itDs at he
  rcases List.mem_cons.mp he with rfl | he
  · unfold itD
    have h1 := tup_words (itWords it)
    simp only [tupD, PyData.tuple.injEq] at h1
    simp only [tupD, tupDs, deed_flat h.deed, h1]
  · cases ht : it.timer with
    | none => rw [ht] at he; exact absurd he List.not_mem_nil
    | some t =>
      rw [ht] at he
      rw [List.mem_singleton.mp he]
      unfold tmD
      simp only [tupD, tupDs]
theorem flat_of {ds : List PyData} (h : ∀ e ∈ ds, tupD e = e) : tupD (.tuple ds) = .tuple ds := by
  simp only [tupD, PyData.tuple.injEq, tupDs_map]
  have := List.map_congr_left (f := tupD) (g := id) (l := ds) fun x hx => h x hx
  rw [this, List.map_id]
theorem lot_flat {ps : List Str} {m : Nat} {gs : List Str} {its : List It} (h : LotOk ps m gs its) : tupD (.tuple (lotDs its)) = .tuple (lotDs its) := by
  refine flat_of fun e he => ?_
  obtain ⟨it, hit, he2⟩ := List.mem_flatMap.mp he
  obtain ⟨i, hi, ei⟩ := List.getElem_of_mem hit
  exact it_flat (h.ok i it (by rw [List.getElem?_eq_getElem hi, ei])) e he2
theorem lot_okD {ps : List Str} {m : Nat} {gs : List Str} {its : List It} (h : LotOk ps m gs its) (hm : m ≤ 5) (wp : ∀ p ∈ ps, wordS p = true) (wg : ∀ g ∈ gs, wordS g = true) (hl : its.length ≤ 6) : ∀ n, 5 ≤ n → okD (.tuple (lotDs its)) n = true := by
  intro n hn
  have g4 := lot_good4 h hm wp wg
  have ld := lotDs_len its
  exact gD_ok (L := 12) (by decide) _ n (gD_mono lf42 (Nat.le_refl _) _ 5 n hn (gD_mk (m := 4) (by omega) (gDs_mono (fun _ z => z) (by decide) _ 4 4 (Nat.le_refl 4) g4)).2)
/-! ### events -/
def egOf : Ev → Eg
  | .put its => ⟨"put", [.tuple (lotDs its)], lotRqs its⟩
  | .give p x => ⟨"give", [.str p, .str x], []⟩
  | .take p k => ⟨"take", [.str p, .int k], []⟩
  | .reap k => ⟨"reap", [.int k], []⟩
  | .clock t => ⟨"clock", [.int t], []⟩
  | .lend k => ⟨"lend", [.int k], []⟩
  | .quiet => ⟨"quiet", [], []⟩
  | .stop => ⟨"stop", [], []⟩
theorem notPut {w : Str} {rest : List PyData} {rs : List Rq} (h : w ≠ Str.ofString "put") : ¬ isPut ⟨w, rest, rs⟩ = true := fun z => h (of_decide_eq_true z)
theorem eg_ev (e : Ev) : egD (egOf e) = evD e := by cases e <;> rfl
theorem egs_evs (evs : List Ev) : (evs.map egOf).map egD = evs.map evD := by
  rw [List.map_map]
  exact List.map_congr_left fun e _ => eg_ev e
theorem eg_tags (evs : List Ev) : tagsOf (evs.map egOf) = scTags evs := by
  unfold tagsOf scTags
  induction evs with
  | nil => rfl
  | cons e evs ih =>
    rw [List.map_cons, List.filter_cons, List.flatMap_cons]
    cases e with
    | put its =>
      have h : isPut (egOf (.put its)) = true := by unfold isPut egOf; exact decide_eq_true rfl
      rw [if_pos h, List.flatMap_cons, ih]
      show (lotRqs its).map Rq.tag ++ _ = lotTags its ++ _
      rw [rq_tags]
    | give p x => rw [if_neg (notPut (by show Str.ofString "give" ≠ _; decide)), ih]; rfl
    | take p k => rw [if_neg (notPut (by show Str.ofString "take" ≠ _; decide)), ih]; rfl
    | reap k => rw [if_neg (notPut (by show Str.ofString "reap" ≠ _; decide)), ih]; rfl
    | clock t => rw [if_neg (notPut (by show Str.ofString "clock" ≠ _; decide)), ih]; rfl
    | lend k => rw [if_neg (notPut (by show Str.ofString "lend" ≠ _; decide)), ih]; rfl
    | quiet => rw [if_neg (notPut (by show Str.ofString "quiet" ≠ _; decide)), ih]; rfl
    | stop => rw [if_neg (notPut (by show Str.ofString "stop" ≠ _; decide)), ih]; rfl
/-- what is asked of an event's data -/
structure EvFit (e : Ev) : Prop where
  ok : okD (evD e) 6 = true
  nodes : nodesD (evD e) ≤ 3000
  flat : tupD (evD e) = evD e
  eg : EgOk (egOf e)
  lot : ∀ its, e = .put its → (∀ it ∈ its, ItWf it) ∧ its.length ≤ 4
theorem ev_fit {ps : List Str} {m : Nat} {gs : List Str} {t : Int} {e : Ev} (h : EvOk ps m gs t e ∨ e = .stop) (hm : m ≤ 5) (wp : ∀ p ∈ ps, wordS p = true) (wg : ∀ g ∈ gs, wordS g = true) : EvFit e := by
  cases e with
  | put its =>
    rcases h with h | h
    · obtain ⟨h1, h2⟩ := h
      have hl := h1.lot
      have h5 := lot_okD hl hm wp wg (by omega) 5 (Nat.le_refl 5)
      have sh := lot_show hl hm wp wg (by omega)
      refine ⟨?_, ?_, ?_, ?_, ?_⟩
      · refine (ok_mk (m := 5) (by show 2 ≤ 1000; decide) ?_).2
        simp only [okDs, okD, Bool.true_and, Bool.and_true]
        exact h5
      · have := sh.2.2.2.2.2
        show nodesD (.tuple [.str "put", .tuple (lotDs its)]) ≤ 3000
        simp only [nodesD, nodesDs] at this ⊢
        omega
      · show tupD (.tuple [.str "put", .tuple (lotDs its)]) = _
        have h3 := lot_flat hl
        exact flat_of (mem2 (by simp only [tupD]) h3)
      · intro _
        show [PyData.tuple (lotDs its)] = [.tuple ((lotRqs its).map rqD)]
        rw [rq_lot hl.wf]
      · intro its' e
        cases e
        exact ⟨hl.wf, h2⟩
    · cases h
  | give p x => exact ⟨by simp [evD, okD, okDs], by simp [evD, nodesD, nodesDs], by simp only [evD, tupD, tupDs], fun h => absurd h (notPut (by decide)), fun _ e => by cases e⟩
  | take p k => exact ⟨by simp [evD, okD, okDs], by simp [evD, nodesD, nodesDs], by simp only [evD, tupD, tupDs], fun h => absurd h (notPut (by decide)), fun _ e => by cases e⟩
  | reap k => exact ⟨by simp [evD, okD, okDs], by simp [evD, nodesD, nodesDs], by simp only [evD, tupD, tupDs], fun h => absurd h (notPut (by decide)), fun _ e => by cases e⟩
  | clock t => exact ⟨by simp [evD, okD, okDs], by simp [evD, nodesD, nodesDs], by simp only [evD, tupD, tupDs], fun h => absurd h (notPut (by decide)), fun _ e => by cases e⟩
  | lend k => exact ⟨by simp [evD, okD, okDs], by simp [evD, nodesD, nodesDs], by simp only [evD, tupD, tupDs], fun h => absurd h (notPut (by decide)), fun _ e => by cases e⟩
  | quiet => exact ⟨by simp [evD, okD, okDs], by simp [evD, nodesD, nodesDs], by simp only [evD, tupD, tupDs], fun h => absurd h (notPut (by decide)), fun _ e => by cases e⟩
  | stop => exact ⟨by simp [evD, okD, okDs], by simp [evD, nodesD, nodesDs], by simp only [evD, tupD, tupDs], fun h => absurd h (notPut (by decide)), fun _ e => by cases e⟩
theorem sc_fit {ps : List Str} {m : Nat} {evs : List Ev} (h : ScFin ps m evs) (hm : m ≤ 5) (wp : ∀ p ∈ ps, wordS p = true) : ∀ e ∈ evs, EvFit e := by
  obtain ⟨evs0, h0, _, _, hw, hor⟩ := h
  have base : ∀ e ∈ evs0, EvFit e := by
    intro e he
    obtain ⟨i, hi, ei⟩ := List.getElem_of_mem he
    refine ev_fit (.inl (h0.ok i e (by rw [List.getElem?_eq_getElem hi, ei]))) hm wp fun g hg => hw g ?_
    obtain ⟨x, hx, hgx⟩ := List.mem_flatMap.mp hg
    exact List.mem_flatMap.mpr ⟨x, List.mem_of_mem_take hx, hgx⟩
  intro e he
  rcases hor with rfl | ⟨i, _, rfl⟩
  · exact base e he
  · rcases List.mem_append.mp he with he | he
    · exact base e (List.mem_of_mem_take he)
    · rcases List.mem_cons.mp he with rfl | he
      · exact ev_fit (ps := ps) (m := m) (gs := []) (t := 0) (.inr rfl) hm wp fun g hg => absurd hg List.not_mem_nil
      · exact base e (List.mem_of_mem_drop he)
theorem sc_ok {evs : List Ev} (h : ∀ e ∈ evs, EvFit e) (hl : evs.length ≤ 20) : okD (.tuple (evs.map evD)) 7 = true ∧ nodesD (.tuple (evs.map evD)) ≤ 70000 ∧ tupD (.tuple (evs.map evD)) = .tuple (evs.map evD) ∧ (∀ e ∈ evs.map egOf, EgOk e) ∧ (scTags evs).length ≤ 8 * evs.length := by
  refine ⟨?_, ?_, ?_, ?_, ?_⟩
  · refine (ok_mk (m := 6) (by rw [List.length_map]; omega) ?_).2
    rw [okDs_all, List.all_eq_true]
    intro e he
    obtain ⟨x, hx, rfl⟩ := List.mem_map.mp he
    exact (h x hx).ok
  · have : ∀ l : List Ev, (∀ e ∈ l, EvFit e) → nodesDs (l.map evD) ≤ 3000 * l.length := by
      intro l hl
      induction l with
      | nil => exact Nat.le_refl 0
      | cons e l ih =>
        have h1 := (hl e List.mem_cons_self).nodes
        have h2 := ih fun x hx => hl x (List.mem_cons_of_mem _ hx)
        simp only [List.map_cons, nodesDs, List.length_cons]
        omega
    have h3 := this evs h
    simp only [nodesD]
    omega
  · refine flat_of fun e he => ?_
    obtain ⟨x, hx, rfl⟩ := List.mem_map.mp he
    exact (h x hx).flat
  · intro e he
    obtain ⟨x, hx, rfl⟩ := List.mem_map.mp he
    exact (h x hx).eg
  · have : ∀ l : List Ev, (∀ e ∈ l, EvFit e) → (scTags l).length ≤ 8 * l.length := by
      intro l hl
      induction l with
      | nil => exact Nat.le_refl 0
      | cons e l ih =>
        have h2 := ih fun x hx => hl x (List.mem_cons_of_mem _ hx)
        have h1 : (evTags e).length ≤ 8 := by
          cases e with
          | put its =>
            have := ((hl _ List.mem_cons_self).lot its rfl).2
            have := tagsLen its
            show (lotTags its).length ≤ 8
            omega
          | _ => exact Nat.zero_le _
        show (evTags e ++ scTags l).length ≤ _
        rw [List.length_append, List.length_cons]
        omega
    exact this evs h
/-- the chains of a lot, read in both ways -/
theorem chains_lot {its : List It} (h : ∀ it ∈ its, ItWf it) (ne : its ≠ []) : progP [] (lotRqs its) = lawOut (lotRqs its) := by
  have hw := (wf_lot h).1 false
  have e := chains_eq [] hw (fun _ => rfl)
  rw [if_pos rfl] at e
  have hr : (lawL (lotRqs its)).rest ≠ [] := by
    cases its with
    | nil => exact absurd rfl ne
    | cons it its =>
      show (lawS (lawL (tmRqs it.timer ++ lotRqs its)) (rqOf it)).rest ≠ []
      unfold lawS
      rw [isT_it (h it List.mem_cons_self), if_neg (by decide)]
      split <;> simp
  rw [if_neg hr] at e
  exact e
end KV

namespace KV
open PySem PySem.Spec PyProof.Rows L2 RZ
abbrev sRight : Stmt := topS 24
abbrev nRight : List Str := ["_law_box_here", "_law_setup_so", "_law_turn", "_law_some", "_law_due", "_law_soft", "_law_shown", "_law_told", "_law_story", "_law_part", "_law_wish"]
theorem scRight : FnScope nRight ["_law_box_here"] (defScope sRight) :=
  ⟨rfl, rfl, rfl, by decide +kernel, rfl, by decide +kernel, by decide +kernel⟩
theorem out_good {rs : List Rq} (h : ∀ r ∈ rs, wordS r.tag = true) (hl : rs.length ≤ 100) : gD lf4 101 (.list ((lawOut rs).map chnD)) 3 = true := by
  obtain ⟨g1, g2, _⟩ := goodLS h
  obtain ⟨l1, l2⟩ := lenLS rs
  have rowlen : ∀ c ∈ lawOut rs, c.length ≤ 101 := by
    have key : ∀ rs : List Rq, (lawL rs).rest.length ≤ rs.length ∧ ∀ c ∈ (lawL rs).f, c.length ≤ rs.length := by
      intro rs
      induction rs with
      | nil => exact ⟨Nat.le_refl 0, fun c hc => absurd hc List.not_mem_nil⟩
      | cons r rs ih =>
        obtain ⟨i1, i2⟩ := ih
        show (lawS (lawL rs) r).rest.length ≤ rs.length + 1 ∧ ∀ c ∈ (lawS (lawL rs) r).f, c.length ≤ rs.length + 1
        unfold lawS
        by_cases ht : isT r = true
        · rw [if_pos ht]
          exact ⟨by show (lawL rs).rest.length ≤ _; omega, fun c hc => by have := i2 c hc; omega⟩
        · rw [if_neg ht]
          split
          · refine ⟨by show 1 ≤ _; omega, fun c hc => ?_⟩
            rcases List.mem_cons.mp hc with rfl | hc
            · omega
            · have := i2 c hc
              omega
          · exact ⟨by show (lawL rs).rest.length + 1 ≤ _; omega, fun c hc => by have := i2 c hc; omega⟩
    obtain ⟨k1, k2⟩ := key rs
    intro c hc
    rcases List.mem_cons.mp hc with rfl | hc
    · omega
    · have := k2 c hc
      omega
  refine (gD_mk (m := 2) ?_ ?_).1
  · rw [List.length_map]
    show (lawL rs).f.length + 1 ≤ 101
    omega
  · rw [gDs_all, List.all_eq_true]
    intro e he
    obtain ⟨c, hc, rfl⟩ := List.mem_map.mp he
    have gc : goodC c := by
      rcases List.mem_cons.mp hc with rfl | hc
      · exact g1
      · exact g2 c hc
    exact (gD_mk (m := 1) (by rw [List.length_map]; exact rowlen c hc) (gDs_mono (fun _ z => z) (by decide) _ 1 1 (Nat.le_refl 1) (goodC_gDs gc))).2
section
variable {P : Program} {w : World} {K : PySem.W.Frag} {mg : Str → Option Value} {base : Heap}
def spRight : Sp := fun vs H Q _ => ∃ (b : Addr) (n : Nat), vs = [.ref b] ∧ BoxAt H b n ∧ n ≤ 2 ^ 22 ∧ ∀ H', SameX [b] H H' → BoxAt H' b (n + 400000) → Q (.bl true) H'
theorem ok_right {f fD fM fN fA fR fX fC fL fS fY fG : Addr} {fd fdD fdM fdN fdA fdR fdX fdC fdL fdS fdY fdG : FuncData} (F : Fun K "_law_right" "_law_right" sRight f fd)
    (FD : Fun K "_law_named_setup" "_law_named_setup" sNamed fD fdD) (bD : Binds K fdD ["_law_box_here", "_law_least_so"] []) (mD : mg "_law_named_setup" = some (.ref fD)) (GD : FnOk P w K mg base CX0 9 fD fdD ["_law_box_here", "_law_least_so"] (spNamed K))
    (FM : Fun K "_law_lot" "_law_lot" sLot fM fdM) (bM : Binds K fdM ["_law_box_here", "_law_setup_so", "_law_tags_so", "_law_gone", "_law_many_so"] []) (mM : mg "_law_lot" = some (.ref fM)) (GM : FnOk P w K mg base CX0 9 fM fdM ["_law_box_here", "_law_setup_so", "_law_tags_so", "_law_gone", "_law_many_so"] (spLot K))
    (FN : Fun K "_law_names" "_law_names" sNames fN fdN) (bN : Binds K fdN ["_law_box_here", "_law_many_so"] []) (mN : mg "_law_names" = some (.ref fN)) (GN : FnOk P w K mg base CX0 9 fN fdN ["_law_box_here", "_law_many_so"] (spNames K))
    (FA : Fun K "_law_name" "_law_name" sName fA fdA) (bA : Binds K fdA ["_law_box_here"] []) (mA : mg "_law_name" = some (.ref fA)) (GA : FnOk P w K mg base CX0 9 fA fdA ["_law_box_here"] (spName K))
    (FR : Fun K "_law_rows" "_law_rows" sRows fR fdR) (bR : Binds K fdR ["_law_batch"] []) (mR : mg "_law_rows" = some (.ref fR)) (GR : FnOk P w K mg base CX0 9 fR fdR ["_law_batch"] (spRows K))
    (FX : Fun K "_law_mixed" "_law_mixed" sMixed fX fdX) (bX : Binds K fdX ["_law_box_here", "_law_matter"] []) (mX : mg "_law_mixed" = some (.ref fX)) (GX : FnOk P w K mg base CX0 9 fX fdX ["_law_box_here", "_law_matter"] (spMixed K 7))
    (FC : Fun K "chains" "chains" sChains fC fdC) (bC : Binds K fdC ["lot"] []) (kC : KBinds K fdC ["lot"] ["lot"] (fun us ws => us ++ ws) (fun vs zs => vs ++ zs)) (mC : mg "chains" = some (.ref fC)) (GC : FnOk P w K mg base CX0 9 fC fdC ["lot"] (spChains K))
    (FL : Fun K "_law_lists" "_law_lists" sLists fL fdL) (bL : Binds K fdL ["_law_matter"] []) (mL : mg "_law_lists" = some (.ref fL)) (GL : FnOk P w K mg base CX0 8 fL fdL ["_law_matter"] (spLists K 7))
    (FS : Fun K "_law_same" "_law_same" sSame fS fdS) (bS : Binds K fdS ["_law_found", "_law_due"] []) (mS : mg "_law_same" = some (.ref fS)) (GS : FnOk P w K mg base CX0 8 fS fdS ["_law_found", "_law_due"] (spSame K 8))
    (FY : Fun K "_law_named_script" "_law_named_script" sScriptN fY fdY) (bY : Binds K fdY ["_law_box_here", "_law_setup_so", "_law_many_so"] []) (mY : mg "_law_named_script" = some (.ref fY)) (GY : FnOk P w K mg base CX0 9 fY fdY ["_law_box_here", "_law_setup_so", "_law_many_so"] (spScriptN K))
    (FG : Fun K "tags" "tags" sTags fG fdG) (bG : Binds K fdG ["script"] []) (mG : mg "tags" = some (.ref fG)) (GG : FnOk P w K mg base CX0 9 fG fdG ["script"] (spTags K))
    (zr : mg "range" = none) (zt : mg "tuple" = none) (zp : mg "repr" = none) : FnG P w K mg base 10 f fd ["_law_box_here"] spRight := by
  refine okG F scRight (fun vs H Q E h => ?_) (fun cdv A outer s H vs Q E hgd hr h => ?_)
  · obtain ⟨b, n, rfl, _⟩ := h
    rfl
  · obtain ⟨b, n, rfl, hB, hn, q⟩ := h
    have hr8 : Room 8 _ := hr.mono (by decide)
    refine ⟨_, pss_cons (ps_set (i := 1) scRight.nd rfl (.inl rfl) (pe_call GD hr (by rfl) mD FD.kp bD .nil pass0 (pa_cons (pv 0) (pa_cons pe_int pa_nil))))
      (pss_cons (ps_for PassesOwn.never rfl (pi_range1 (by rfl) zr (pa_cons pe_int pa_nil)) (pg_name (i := 2) scRight.nd rfl (.inl rfl))
        (pss_cons (ps_set (i := 3) scRight.nd rfl (.inl rfl) (pe_call GM hr (by rfl) mM FM.kp bM .nil pass0 (pa_cons (pv 0) (pa_cons (pv 1) (pa_cons (pe_call GN hr (by rfl) mN FN.kp bN .nil pass0 (pa_cons (pv 0) (pa_cons pe_int pa_nil)))
            (pa_cons (pe_lst (pa_cons (pe_call GA hr (by rfl) mA FA.kp bA .nil pass0 (pa_cons (pv 0) pa_nil)) pa_nil)) (pa_cons pe_int pa_nil)))))))
        (pss_cons (ps_par3 (i := 4) (j := 5) (l := 6) rfl scRight.nd rfl rfl rfl (by decide) (by decide) (by decide) rfl rfl rfl
            (pa_cons (pe_call GR hr (by rfl) mR FR.kp bR .nil pass0 (pa_cons (pv 3) pa_nil)) (pa_cons (pe_call GX hr (by rfl) mX FX.kp bX .nil pass0 (pa_cons (pv 0) (pa_cons (pv 3) pa_nil))) (pa_cons (pe_callB (cr_repr hgd hr.units) (by rfl) zp boot_repr (pa_cons (pv 3) pa_nil)) pa_nil))) (by rfl))
        (pss_cons (ps_set (i := 7) scRight.nd rfl (.inl rfl) (pe_lst (pa_cons (pe_call GC hr (by rfl) mC FC.kp bC .nil pass0 (pa_cons (pv 3) pa_nil))
            (pa_cons (pe_callK0 GC hr (by rfl) mC FC.kp kC (pk_cons (pe_call GL hr8 (by rfl) mL FL.kp bL .nil pass0 (pa_cons (pv 3) pa_nil)) pk_nil))
            (pa_cons (pe_call GC hr (by rfl) mC FC.kp bC .nil pass0 (pa_cons (pv 5) pa_nil)) pa_nil)))))
        (pss_cons (ps_if (PW.pt (pw_or (pt_not (pt_val (pe_call GS hr8 (by rfl) mS FS.kp bS .nil pass0 (pa_cons (pv 7) (pa_cons (pe_op op_rep (pe_lst (pa_cons (pv 4) pa_nil)) pe_int) pa_nil)))))
            (pw_or1 (pt_cmpR op_ne (pe_callB (cr_repr hgd hr.units) (by rfl) zp boot_repr (pa_cons (pv 3) pa_nil)) (pv 6) (nomark _))))) (pss_one (ps_ret pe_bl)) pss_nil)
        (pss_cons (ps_expr (pe_bm PySem.F.plainAttrs_list PySem.F.slot_list_append PySem.F.type_list_append mt_append (pe_ix ix_seq (pv 7) pe_int (fun _ _ => rfl)) (pa_cons pe_str pa_nil)))
        (pss_cons (ps_if (pt_not (pt_val (pe_call GS hr8 (by rfl) mS FS.kp bS .nil pass0 (pa_cons (pe_call GC hr (by rfl) mC FC.kp bC .nil pass0 (pa_cons (pv 3) pa_nil)) (pa_cons (pv 4) pa_nil))))) (pss_one (ps_ret pe_bl)) pss_nil)
        (pss_cons (ps_set (i := 8) scRight.nd rfl (.inl rfl) (pe_call GY hr (by rfl) mY FY.kp bY .nil pass0 (pa_cons (pv 0) (pa_cons (pv 1) (pa_cons pe_int pa_nil)))))
        (pss_cons (ps_set (i := 4) scRight.nd rfl (.inl rfl) (pe_lst pa_nil))
        (pss_cons (ps_for PassesOwn.never rfl (pi_tup (pv 8)) (pg_name (i := 9) scRight.nd rfl (.inl rfl))
          (pss_one (ps_set (i := 4) scRight.nd rfl (.inl rfl) (pe_op op_cat (pv 4) (pe_ifExp (pt_cmpR op_eq (pe_ix ix_seq (pv 9) pe_int (fun _ _ => rfl)) pe_str (nomark _))
            (pe_lc (own := [("_law_wish", 10)]) (g := gName 10) (tt := tYes) rfl scRight.nd (pi_tup (pe_ix ix_seq (pv 9) pe_int (fun _ _ => rfl))) (blkOk_by (N := nRight) (sc := defScope sRight) (by decide +kernel))
              (fun _ _ _ _ _ => pg_name (i := 10) scRight.nd rfl (Or.inl rfl)) (fun _ _ _ _ _ => pts_nil) (fun _ _ _ _ _ => pe_ix (ix_seqK (K := K) rfl) (pv 10) pe_int (fun _ _ => rfl))) (pe_lst pa_nil))))))
        (pss_one (ps_if (pt_not (pt_val (pe_call GS hr8 (by rfl) mS FS.kp bS .nil pass0 (pa_cons (pe_lst (pa_cons (pe_call GG hr (by rfl) mG FG.kp bG .nil pass0 (pa_cons (pv 8) pa_nil))
            (pa_cons (pe_call GG hr (by rfl) mG FG.kp bG .nil pass0 (pa_cons (pe_call GX hr (by rfl) mX FX.kp bX .nil pass0 (pa_cons (pv 0) (pa_cons (pv 8) pa_nil))) pa_nil)) pa_nil)))
            (pa_cons (pe_op op_rep (pe_lst (pa_cons (pe_callTy call_tuple_of (by rfl) zt PyProof.Rows.boot_tuple (pa_cons (pv 4) pa_nil)) pa_nil)) pe_int) pa_nil))))) (pss_one (ps_ret pe_bl)) pss_nil))))))))))))
      (pss_one (ps_ret (pe_call GS hr8 (by rfl) mS FS.kp bS .nil pass0 (pa_cons (pe_lst (pa_cons (pe_call GG hr (by rfl) mG FG.kp bG .nil pass0 (pa_cons (pe_tup pa_nil) pa_nil))
          (pa_cons (pe_call GG hr (by rfl) mG FG.kp bG .nil pass0 (pa_cons (pe_tup (pa_cons (pe_tup (pa_cons pe_str pa_nil)) (pa_cons (pe_tup (pa_cons pe_str pa_nil)) pa_nil))) pa_nil)) pa_nil)))
          (pa_cons (pe_lst (pa_cons (pe_tup pa_nil) (pa_cons (pe_tup pa_nil) pa_nil))) pa_nil)))))), ?_⟩
    have lvB : Live [b] H := fun c hc => by rw [List.mem_singleton.mp hc]; exact hB.live
    refine ⟨_, rfl, [b], b, n, 1, rfl, by decide, List.mem_singleton.mpr rfl, lvB, hB, by omega, fun v d H1 hd s1 b1 d1 => ?_⟩
    obtain ⟨ps, ss, hS⟩ := SetH.of hd (by decide) d1
    show Ends.nx _ _ H1
    refine ⟨4, rfl, by decide, by decide, for_range (lo := 0) (n := 4) (fun i σ H' => ∃ y2 y3 y4 y5 y6 y7 y8 y9, σ = [some (.ref b), some v, y2, y3, y4, y5, y6, y7, y8, y9, none] ∧ SameX [b] H1 H' ∧ BoxAt H' b (n + 400 + 90000 * i))
      ⟨none, none, none, none, none, none, none, none, rfl, SameX.refl _ _, b1⟩ ?_ ?_⟩
    · rintro i σ H' hi ⟨y2, y3, y4, y5, y6, y7, y8, y9, rfl, sx, bx⟩
      have lvOf : ∀ {H2 : Hp} {m : Nat}, BoxAt H2 b m → Live [b] H2 := fun h c hc => by rw [List.mem_singleton.mp hc]; exact h.live
      have hmem : ∀ c ∈ [b], c ∈ [b] := fun _ h => h
      refine ⟨_, rfl, _, rfl, _, rfl, b, _, 12, rfl, by decide, bx, by omega, fun T ws H2 s2 nT hT nd wf hlen b2 => ⟨_, rfl, b, _, rfl, b2, by omega, fun nm H3 wnm s3 b3 => ⟨by show 1 ≤ sizeLine; decide, fun G nG => ?_⟩⟩⟩
      have Tb : T ≠ b := fun e => bx.live (e ▸ nT)
      have tn3 : NmAt H3 T ws := NmAt.up hT b2 s3
      have TG : T ≠ G := fun e => nm_some tn3 (e ▸ nG)
      have Gb : G ≠ b := fun e => b3.live (e ▸ nG)
      have sG := same_upd (o := HO.lst [V.str nm]) nG
      have e1 : Same (hide [b] H') (hide [T, b] H2) := SameX.enter (C := [b]) (s2.sub fun c hc => List.mem_cons_of_mem _ hc) hmem nT
      have e2 : Same (hide [T, b] H2) (hide [T, b] H3) := s3.hide fun c hc => List.mem_cons_of_mem _ hc
      have e3 : Same (hide [T, b] H3) (hide [G, T, b] (upd H3 G (.lst [.str nm]))) := SameX.enter (C := []) (sameX_upd List.mem_cons_self) (fun _ z => absurd z List.not_mem_nil) nG
      have hS4 := hS.same ((sx.hide hmem).trans (e1.trans (e2.trans e3)))
      have lv4 : Live [G, T, b] (upd H3 G (.lst [.str nm])) := ((((lvOf b3).cons (o := .lst (ws.map V.str)) tn3)).same sG).cons (o := .lst [.str nm]) upd_same
      refine ⟨[G, T, b], b, _, v, ps, ss, T, G, ws, [nm], 6, rfl, by simp, by simp, by simp, TG, lv4, b3.same sG, by decide, by decide, by omega, hS4, sG _ _ tn3, upd_same, wf, fun g hg => by rw [List.mem_singleton.mp hg]; exact wnm, by omega, by show 1 ≤ 50; decide, fun v5 its ws5 H5 fin lm ew s5 b5 tn5 gn5 d5 => ?_⟩
      have sx5 : SameX [b] H1 H5 := fun c o hc e => by
        have c' := sx c o hc e
        have c2 := s2 c o hc c'
        have c3 := s3 c o hc c2
        refine s5 c o (fun z => ?_) (sG _ _ c3)
        simp only [List.mem_cons, List.not_mem_nil, or_false] at z hc
        rcases z with z | z | z
        · exact hc z
        · rw [z, nT] at c'; cases c'
        · rw [z, nG] at c3; cases c3
      have hS5 := hS.same (sx5.hide hmem)
      have d5b : Dp K (hide [b] H5) v5 (.tuple (lotDs its)) := dp_same (hide_leave.trans hide_leave) d5
      have lo := fin.lot
      have wfi := lo.wf
      have wgs : ∀ g ∈ [nm], wordS g = true := fun g hg => by rw [List.mem_singleton.mp hg]; exact wnm
      have sh := lot_show lo hS.lss hS.wps wgs lm
      have ok7 := lot_okD lo hS.lss hS.wps wgs lm 7 (by decide)
      have flat := lot_flat lo
      have rqe := rq_lot wfi
      have ce := chains_lot wfi fin.ne
      have wfR := (wf_lot wfi).1 false
      have lrs : (lotRqs its).length ≤ 12 := by
        have h1 := lotDs_len its
        rw [← rqe, List.length_map] at h1
        omega
      have wtag : ∀ r ∈ lotRqs its, wordS r.tag = true := fun r hr => lotTags_word lo _ (by rw [← rq_tags]; exact List.mem_map.mpr ⟨r, hr, rfl⟩)
      rw [← rqe] at d5b sh ok7 flat
      generalize lotRqs its = rs at *
      obtain ⟨a5, xs5, rfl, _, _⟩ := dp_tupR d5b
      clear d5 tn5 gn5 lv4 hS4 e1 e2 e3 tn3
      -- rows, mixed, repr
      refine ⟨_, rfl, [b], .ref a5, rs, rfl, lvOf b5, d5b, wtag, by omega, fun v6 H6 s6 d6 => ?_⟩
      have d56 := dp_same (hide_of_same s6) d5b
      have b6 := b5.same s6
      have nodes := sh.2.2.2.2.2
      refine ⟨_, rfl, _, rfl, [b], b, _, .ref a5, _, rfl, List.mem_singleton.mpr rfl, lvOf b6, b6, by omega, d56, ok7, fun v7 d7 H7 et ok7' s7 b7 d7p => ?_⟩
      have d57 := dp_same (s7.hide hmem) d56
      have d67 := dp_same (s7.hide hmem) d6
      refine ⟨_, rfl, .ref a5, _, rfl, ⟨a5, rfl⟩, dp_same (hide_same _ _) d57, sh.1, sh.2.1, sh.2.2.1, sh.2.2.2.1, _, _, _, rfl, ?_⟩
      -- told
      refine ⟨_, rfl, .ref a5, rs, rfl, ⟨_, dp_same (hide_same _ _) d57, flat⟩, wfR, by omega, fun c1 x1 H8 s8 n8 hc1 k1 => ?_⟩
      have d58 := dp_same (hide_of_same s8) d57
      have b8 := b7.same s8
      refine ⟨_, rfl, [b], .ref a5, _, rfl, lvOf b8, d58, ok7, fun v9 H9 s9 d9 => ?_⟩
      refine ⟨v9, rs, rfl, ⟨_, dp_same (hide_same _ _) d9, (tup_lst _).trans flat⟩, wfR, by omega, fun c2 x2 H10 s10 n10 hc2 k2 => ?_⟩
      have d7q := dp_same ((hide_same _ _).trans (s8.trans (s9.trans s10))) d7p
      refine ⟨_, rfl, v7, rs, rfl, ⟨d7, d7q, et.trans flat⟩, wfR, by omega, fun c3 x3 H11 s11 n11 hc3 k3 => ⟨by show 3 ≤ sizeLine; decide, fun p12 n12 => ?_⟩⟩
      rw [ce] at k1 k2 k3
      have lx1 : x1.length ≤ 101 := by
        have h1 := dps_len k1
        rw [List.length_map] at h1
        have h2 := lenLS rs
        have h3 : (lawOut rs).length = (lawL rs).f.length + 1 := rfl
        omega
      have og := out_good wtag (by omega)
      have og7 : ∀ m, 3 ≤ m → okD (.list ((lawOut rs).map chnD)) m = true := fun m hm => gD_ok (L := 101) (by decide) _ m (gD_mono lf42 (Nat.le_refl _) _ 3 m hm og)
      have u12 := same_upd (o := HO.lst [V.ref c1, V.ref c2, V.ref c3]) n12
      have s8c := s9.trans (s10.trans (s11.trans u12))
      have s10c := s11.trans u12
      have hp12 : (upd H11 p12 (.lst [.ref c1, .ref c2, .ref c3])) p12 = some (.lst [.ref c1, .ref c2, .ref c3]) := upd_same
      have t1 : Dp K (upd H11 p12 (.lst [.ref c1, .ref c2, .ref c3])) (.ref c1) (.list ((lawOut rs).map chnD)) := .lst (SqL.of (s8c _ _ hc1)) (dps_same s8c (dps_same (hide_same _ _) k1))
      have t2 : Dp K (upd H11 p12 (.lst [.ref c1, .ref c2, .ref c3])) (.ref c2) (.list ((lawOut rs).map chnD)) := .lst (SqL.of (s10c _ _ hc2)) (dps_same s10c (dps_same (hide_same _ _) k2))
      have t3 : Dp K (upd H11 p12 (.lst [.ref c1, .ref c2, .ref c3])) (.ref c3) (.list ((lawOut rs).map chnD)) := .lst (SqL.of (u12 _ _ hc3)) (dps_same u12 (dps_same (hide_same _ _) k3))
      have s7c := s8.trans s8c
      have hc1c := s8c _ _ hc1
      show Ends.nx _ _ (upd H11 p12 (.lst [.ref c1, .ref c2, .ref c3]))
      generalize upd H11 p12 (.lst [.ref c1, .ref c2, .ref c3]) = H12 at hp12 t1 t2 t3 s7c hc1c
      clear s8c s10c u12 n12 k1 k2 k3 hc1 hc2 hc3 n10 n11 s9 s10 s11 d9 d7q
      refine ⟨_, rfl, _, rfl, by show 1 ≤ sizeLine; decide, fun l13 n13 => ⟨l13, 3, [v6], rfl, rfl, upd_same, by decide, by decide, by show 1 * 3 ≤ sizeLine; decide, fun l14 n14 => ?_⟩⟩
      have u13 := same_upd (o := HO.lst [v6]) n13
      have u14 := same_upd (o := HO.lst (List.replicate (3 : Int).toNat [v6]).flatten) n14
      have u1314 := u13.trans u14
      have d6c := dp_same ((hide_same _ _).trans (s7c.trans u1314)) d67
      refine ⟨7, .ref p12, .ref l14, .list [.list ((lawOut rs).map chnD), .list ((lawOut rs).map chnD), .list ((lawOut rs).map chnD)], rfl, rfl, .lst (SqL.of (u1314 _ _ hp12)) (.cons (dp_same u1314 t1) (.cons (dp_same u1314 t2) (.cons (dp_same u1314 t3) .nil))),
        .lst (SqL.of upd_same) (.cons d6c (.cons d6c (.cons d6c .nil))), (ok_mk (m := 6) (by show 3 ≤ 1000; decide) (by simp only [okDs, og7 6 (by decide), Bool.and_self])).1, fun H15 s15 => ⟨_, rfl, iteF ?_⟩⟩
      have s7f := s7c.trans (u1314.trans s15)
      refine ⟨_, rfl, .ref a5, _, rfl, ⟨a5, rfl⟩, dp_same ((hide_same _ _).trans s7f) d57, sh.1, sh.2.1, sh.2.2.1, sh.2.2.2.1, _, rfl, rfl, _, rfl, iteNS rfl ?_⟩
      have hp15 := s15 _ _ (u1314 _ _ hp12)
      have hc15 := s15 _ _ (u1314 _ _ hc1c)
      refine ⟨_, rfl, .inl ⟨p12, _, 0, .ref c1, rfl, rfl, SqL.of hp15, atI_nat (j := 0) rfl, .inl ⟨rfl, _, .inl (.inl hc15)⟩, c1, _, .str "more", rfl, rfl, hc15, small1000 (by omega), ?_⟩⟩
      have bc : b ≠ c1 := fun e => b7.live (e ▸ n8)
      have e17 : Same (hide [b] H7) (hide [c1, b] (upd H15 c1 (.lst (x1 ++ [.str "more"])))) := SameX.enter (C := []) ((SameX.of s7f).trans (sameX_upd List.mem_cons_self)) (fun _ z => absurd z List.not_mem_nil) n8
      have e17b := e17.trans (hide_leave (B := [b]) (D := c1))
      have b17 := box_upd (o := HO.lst (x1 ++ [.str "more"])) (b7.same s7f) bc
      have sx7 : SameX [b] H1 H7 := (sx5.trans (SameX.of s6)).trans s7
      have nc1 : H1 c1 = none := by
        cases e : H1 c1 with
        | none => rfl
        | some o => rw [sx7 c1 o (fun z => bc (List.mem_singleton.mp z).symm) e] at n8; cases n8
      have sx17 : SameX [b] H1 (upd H15 c1 (.lst (x1 ++ [.str "more"]))) := sameX_old (D := c1) (B := [b]) (((sx7.trans (SameX.of s7f)).sub fun c hc => List.mem_cons_of_mem _ hc).trans (sameX_upd List.mem_cons_self)) nc1
      have d5g := dp_same e17b d57
      have d6g := dp_same e17b d67
      have hS17 := hS5.same ((hide_of_same s6).trans ((s7.hide hmem).trans e17b))
      show Ends.nx _ _ (upd H15 c1 (.lst (x1 ++ [.str "more"])))
      generalize upd H15 c1 (.lst (x1 ++ [.str "more"])) = H17 at b17 sx17 d5g d6g hS17
      clear e17 e17b
      refine ⟨_, rfl, .ref a5, rs, rfl, ⟨_, dp_same (hide_same _ _) d5g, flat⟩, wfR, by omega, fun c4 x4 H18 s18 n18 hc4 k4 => ?_⟩
      rw [ce] at k4
      refine ⟨_, rfl, 7, .ref c4, v6, .list ((lawOut rs).map chnD), rfl, rfl, .lst (SqL.of hc4) (dps_same (hide_same _ _) k4), dp_same ((hide_same _ _).trans s18) d6g, og7 7 (by decide), fun H19 s19 => ⟨_, rfl, iteF ?_⟩⟩
      have s1719 := s18.trans s19
      have b19 := b17.same s1719
      have hS19 := hS17.same (hide_of_same s1719)
      have sx19 := sx17.trans (SameX.of (B := [b]) s1719)
      show Ends.nx _ _ H19
      refine ⟨_, rfl, _, rfl, [b], b, _, v, ps, ss, 9, rfl, List.mem_singleton.mpr rfl, lvOf b19, b19, by decide, by omega, hS19, fun v20 evs H20 sfin le20 s20 b20 d20 => ?_⟩
      have sx20 := sx19.trans s20
      obtain ⟨ast, xst, rfl, Sst, Ast⟩ := dp_tupR d20
      have lst := dps_len Ast
      rw [List.length_map] at lst
      have fit := sc_fit sfin hS.lss hS.wps
      obtain ⟨sok, snod, sflat, seg, stl⟩ := sc_ok fit (by omega)
      clear d5g d6g hS17 hS19 sx17 sx19 s1719 k4 hc4 n18 t1 t2 t3
      refine ⟨by show 0 ≤ sizeLine; decide, fun q1 nq1 => ?_⟩
      have uq := same_upd (o := HO.lst []) nq1
      have hq1 : (upd H20 q1 (.lst [])) q1 = some (.lst []) := upd_same
      have Ast1 := dps_same (hide_of_same uq) Ast
      have Sst1 := same_seqT (hide_of_same (B := [b]) uq) Sst
      have d21 := dp_same (hide_of_same uq) d20
      have b21 := b20.same uq
      have sx21 := sx20.trans (SameX.of (B := [b]) uq)
      show Ends.nx _ _ (upd H20 q1 (.lst []))
      generalize upd H20 q1 (.lst []) = H21 at hq1 Ast1 Sst1 d21 b21 sx21
      refine ⟨_, rfl, ast, rfl, ⟨_, same_seqT (hide_same _ _) Sst1⟩, for_it (walk_tup (xs := xst)) (fun j σ H22 => ∃ (dq : Addr) (z9 : Option V), σ = [some (.ref b), some v, some (.int (0 + (i : Int))), some (.ref a5), some (.ref dq), some v7, some (.str (PyData.tuple (rs.map rqD)).shown), some (.ref p12), some (.ref ast), z9, none] ∧ Same H21 H22 ∧ H22 dq = some (.lst ((scTags (evs.take j)).map V.str)))
        ⟨q1, y9, rfl, Same.refl _, hq1⟩ (fun j σ H22 _ h => ?_) ?_ ?_⟩
      · obtain ⟨_, _, _, s22, _⟩ := h
        exact same_seqT s22 (same_seqT (hide_same _ _) Sst1)
      · rintro j x σ H22 H22' hj ⟨dq, z9, rfl, s22, hdq⟩ ⟨rfl, hxj⟩
        have hje : j < evs.length := by omega
        obtain ⟨d, hd1, hd2⟩ := dps_get Ast1 hxj
        have hgj : evs[j]? = some evs[j] := List.getElem?_eq_getElem hje
        rw [List.getElem?_map, hgj] at hd1
        cases hd1
        have fitj := fit _ (List.getElem_mem hje)
        have stj := flatTake evTags evs (j + 1)
        generalize evs[j] = e at *
        have tsn : scTags (evs.take (j + 1)) = scTags (evs.take j) ++ evTags e := flat_snoc evTags hgj
        have tl9 : (scTags (evs.take j)).length + (evTags e).length ≤ 200 := by
          have h1 : (scTags (evs.take (j + 1))).length ≤ (scTags evs).length := stj
          rw [tsn, List.length_append] at h1
          omega
        have hd3 := dp_same ((hide_same _ _).trans s22) hd2
        rw [← eg_ev] at hd3
        obtain ⟨ax, xsx, rfl, Sx, Ax⟩ := dp_tupR (es := .str (egOf e).wd :: (egOf e).rest) hd3
        cases Ax with
        | cons f1 f2 =>
        cases f1
        refine ⟨_, rfl, _, rfl, .inr (.inl ⟨ax, _, 0, _, rfl, rfl, Sx, atI_nat (j := 0) rfl, rfl, _, rfl, ?_⟩)⟩
        rw [dec_str]
        have other : isPut (egOf e) = false → evTags e = [] := fun h => by
          cases e with
          | put its => exact absurd h (by show ¬ decide (Str.ofString "put" = Str.ofString "put") = false; decide)
          | _ => rfl
        show if isPut (egOf e) = true then _ else _
        cases hp : isPut (egOf e) with
        | false =>
          refine iteF ⟨by show 0 ≤ sizeLine; decide, fun D nD => ?_⟩
          have uD := same_upd (o := HO.lst []) nD
          refine ⟨dq, D, _, _, rfl, rfl, uD _ _ hdq, upd_same, Nat.le_of_lt (small1000 (by rw [List.length_map]; show (scTags (evs.take j)).length + 0 ≤ 1000; omega)), fun p np => ?_⟩
          refine ⟨p, _, rfl, s22.trans (uD.trans (same_upd np)), ?_⟩
          rw [upd_same, tsn, other hp, List.append_nil, List.append_nil]
        | true =>
          obtain ⟨its, rfl⟩ : ∃ its, e = .put its := by
            cases e with
            | put its => exact ⟨its, rfl⟩
            | give p x => exact absurd hp (notPut (by show Str.ofString "give" ≠ _; decide))
            | take p x => exact absurd hp (notPut (by show Str.ofString "take" ≠ _; decide))
            | reap x => exact absurd hp (notPut (by show Str.ofString "reap" ≠ _; decide))
            | clock x => exact absurd hp (notPut (by show Str.ofString "clock" ≠ _; decide))
            | lend x => exact absurd hp (notPut (by show Str.ofString "lend" ≠ _; decide))
            | quiet => exact absurd hp (notPut (by show Str.ofString "quiet" ≠ _; decide))
            | stop => exact absurd hp (notPut (by show Str.ofString "stop" ≠ _; decide))
          obtain ⟨wf2, _⟩ := fitj.lot its rfl
          have rq2 := rq_lot wf2
          have tg2 := rq_tags its
          cases f2 with
          | cons g1 g2 =>
          rename_i vp vps
          have g1' : Dp K H22' vp (.tuple ((lotRqs its).map rqD)) := by rw [rq2]; exact g1
          obtain ⟨al, lxs, rfl, Sl, Al⟩ := dp_tupR g1'
          have ll := dps_len Al
          rw [List.length_map] at ll
          have lt9 : (lotRqs its).length = (evTags (.put its)).length := by
            show _ = (lotTags its).length
            rw [← tg2, List.length_map]
          refine iteT ⟨_, rfl, .inr (.inl ⟨ax, _, 1, .ref al, rfl, rfl, Sx, atI_nat (j := 1) rfl, al, rfl, ⟨_, Sl⟩, fun D nD => lc_it (walk_tup (xs := lxs)) (fun k H5 => SameX [D] H22' H5 ∧ H5 D = some (.lst ((((lotRqs its).take k).map Rq.tag).map V.str)))
            ⟨sameX_upd List.mem_cons_self, upd_same⟩ (fun k H5 _ z => same_seqT (fun c o e => z.1 c o (fun y => ne_of_none e nD (List.mem_singleton.mp y)) e) Sl) ?_ ?_⟩)⟩
          · rintro k y H5 H5' hk ⟨s5, hD5⟩ ⟨rfl, hyk⟩
            have hkr : k < (lotRqs its).length := by omega
            obtain ⟨d, hd1, hd2⟩ := dps_get Al hyk
            have hgk : (lotRqs its)[k]? = some (lotRqs its)[k] := List.getElem?_eq_getElem hkr
            rw [List.getElem?_map, hgk] at hd1
            cases hd1
            have s55 : Same H22' H5' := fun c o e => s5 c o (fun y => ne_of_none e nD (List.mem_singleton.mp y)) e
            obtain ⟨ap, w0, w1, w2, rfl, Sp, w0d, _, _⟩ := dp_three hd2
            cases w0d
            refine ⟨rfl, tYes_ok ⟨_, rfl, .inr (.inl ⟨ap, _, 0, _, rfl, rfl, same_seqT s55 Sp, atI_nat (j := 0) rfl, _, hD5, small1000 (by rw [List.length_map, List.length_map, List.length_take]; omega), s5.trans (sameX_upd List.mem_cons_self), ?_⟩)⟩⟩
            rw [upd_same, take_snoc hgk, List.map_append, List.map_append]
            rfl
          · rintro H5 ⟨s5, hD5⟩
            rw [ll, List.take_length, tg2] at hD5
            have s55 : Same H22' H5 := fun c o e => s5 c o (fun y => ne_of_none e nD (List.mem_singleton.mp y)) e
            refine ⟨dq, D, _, _, rfl, rfl, s55 _ _ hdq, hD5, Nat.le_of_lt (small1000 (by rw [List.length_map, List.length_map]; have : (lotTags its).length = (evTags (.put its)).length := rfl; omega)), fun p np => ?_⟩
            refine ⟨p, _, rfl, s22.trans (s55.trans (same_upd np)), ?_⟩
            rw [upd_same, tsn, List.map_append]
            rfl
      · rintro σ H22 ⟨dq, z9, rfl, s22, hdq⟩
        rw [lst, List.take_length] at hdq
        have d22 := dp_same (hide_of_same s22) d21
        have b22 := b21.same s22
        have vt1 : VT K H22 (.ref ast) (.tuple ((evs.map egOf).map egD)) := ⟨_, dp_same (hide_same _ _) d22, by rw [egs_evs]; exact sflat⟩
        have tlen : (tagsOf (evs.map egOf)).length ≤ 900 := by rw [eg_tags]; omega
        show Ends.nx _ _ H22
        refine ⟨_, rfl, .ref ast, evs.map egOf, rfl, vt1, seg, by rw [List.length_map]; omega, tlen, fun g1 H23 s23 n23 hg1 => ?_⟩
        have d23 := dp_same (hide_of_same s23) d22
        have b23 := b22.same s23
        refine ⟨_, rfl, _, rfl, [b], b, _, .ref ast, _, rfl, List.mem_singleton.mpr rfl, lvOf b23, b23, by omega, d23, sok, fun v24 d24 H24 et2 ok24 s24 b24 dp24 => ?_⟩
        have vt2 : VT K H24 v24 (.tuple ((evs.map egOf).map egD)) := ⟨d24, dp_same (hide_same _ _) dp24, by rw [et2, egs_evs]; exact sflat⟩
        refine ⟨v24, evs.map egOf, rfl, vt2, seg, by rw [List.length_map]; omega, tlen, fun g2 H25 s25 n25 hg2 => ⟨by show 2 ≤ sizeLine; decide, fun p26 n26 => ?_⟩⟩
        rw [eg_tags] at hg1 hg2
        have g1b : g1 ≠ b := fun e => by
          obtain ⟨_, _, _, z, _⟩ := b23
          rw [e, z] at hg1
          cases hg1
        have hg1' : H25 g1 = some (.tup ((scTags evs).map V.str)) := s25 _ _ (s24 _ _ (fun z => g1b (List.mem_singleton.mp z)) hg1)
        have dqb : dq ≠ b := fun e => by
          have h1 := NmAt.ne_box (gs := scTags evs) (a := dq) hdq b22
          exact h1 e
        have hdq25 : H25 dq = some (.lst ((scTags evs).map V.str)) := s25 _ _ (s24 _ _ (fun z => dqb (List.mem_singleton.mp z)) (s23 _ _ hdq))
        have u26 := same_upd (o := HO.lst [V.ref g1, V.ref g2]) n26
        refine ⟨_, rfl, dq, _, rfl, .inl ⟨SqL.of (u26 _ _ hdq25), fun p27 n27 => ⟨by show 1 ≤ sizeLine; decide, fun l28 n28 => ⟨l28, 2, [.ref p27], rfl, rfl, upd_same, by decide, by decide, by show 1 * 2 ≤ sizeLine; decide, fun l29 n29 => ?_⟩⟩⟩⟩
        have u27 := same_upd (o := HO.tup ((scTags evs).map V.str)) n27
        have u28 := same_upd (o := HO.lst [V.ref p27]) n28
        have u29 := same_upd (o := HO.lst (List.replicate (2 : Int).toNat [V.ref p27]).flatten) n29
        have u2729 := (u27.trans u28).trans u29
        have td : ∀ {H2 : Hp} {p : Addr}, H2 p = some (.tup ((scTags evs).map V.str)) → Dp K H2 (.ref p) (.tuple ((scTags evs).map PyData.str)) := fun h => .tup (SqT.of h) (dps_strs _)
        have p27t : Dp K _ (.ref p27) (.tuple ((scTags evs).map PyData.str)) := td ((u28.trans u29) _ _ (upd_same (a := p27)))
        have okt : okD (.tuple ((scTags evs).map PyData.str)) 6 = true := (ok_mk (m := 5) (by rw [List.length_map]; omega) (by
          rw [okDs_all, List.all_eq_true]
          intro e he
          obtain ⟨x, _, rfl⟩ := List.mem_map.mp he
          simp only [okD])).2
        refine ⟨7, .ref p26, .ref l29, .list [.tuple ((scTags evs).map PyData.str), .tuple ((scTags evs).map PyData.str)], rfl, rfl, .lst (SqL.of (u2729 _ _ upd_same)) (.cons (td (u2729 _ _ (u26 _ _ hg1'))) (.cons (td (u2729 _ _ (u26 _ _ hg2))) .nil)),
          .lst (SqL.of upd_same) (.cons p27t (.cons p27t .nil)), (ok_mk (m := 6) (by show 2 ≤ 1000; decide) (by simp only [okDs, okt, Bool.and_self])).1, fun H30 s30 => ⟨_, rfl, iteF ?_⟩⟩
        have s2530 := u26.trans (u2729.trans s30)
        have sx30 : SameX [b] H1 H30 := ((sx21.trans (SameX.of (s22.trans s23))).trans s24).trans (SameX.of (s25.trans s2530))
        exact ⟨_, _, _, _, _, _, _, _, rfl, sx30, (b24.same (s25.trans s2530)).le (by omega)⟩
    · rintro σ H' ⟨y2, y3, y4, y5, y6, y7, y8, y9, rfl, sx, bx⟩
      have fin : ∀ H2, Same H' H2 → Q (.bl true) H2 := fun H2 s2 => q H2 (s1.trans (sx.trans (SameX.of s2))) ((bx.same s2).le (by omega))
      show Ends.nx _ _ H'
      refine ⟨by show 0 ≤ sizeLine; decide, fun p1 n1 => ?_⟩
      have u1 := same_upd (o := HO.tup []) n1
      refine ⟨.ref p1, [], rfl, ⟨.tuple [], .tup (SqT.of upd_same) .nil, by simp only [tupD, tupDs]; rfl⟩, fun e z => absurd z List.not_mem_nil, by decide, by decide, fun g1 H2 s2 ng1 hg1 => ?_⟩
      refine ⟨by show 1 ≤ sizeLine; decide, fun p3 n3 => ⟨by show 1 ≤ sizeLine; decide, fun p4 n4 => ⟨by show 2 ≤ sizeLine; decide, fun p5 n5 => ?_⟩⟩⟩
      have u3 := same_upd (o := HO.tup [V.str (Str.ofString "quiet")]) n3
      have u4 := same_upd (o := HO.tup [V.str (Str.ofString "stop")]) n4
      have u5 := same_upd (o := HO.tup [V.ref p3, V.ref p4]) n5
      have k3 : Dp K _ (.ref p3) (.tuple [.str "quiet"]) := .tup (SqT.of (u5 _ _ (u4 _ _ (upd_same (a := p3))))) (.cons (.str _) .nil)
      have k4 : Dp K _ (.ref p4) (.tuple [.str "stop"]) := .tup (SqT.of (u5 _ _ (upd_same (a := p4)))) (.cons (.str _) .nil)
      refine ⟨.ref p5, [egOf .quiet, egOf .stop], rfl, ⟨.tuple [.tuple [.str "quiet"], .tuple [.str "stop"]], .tup (SqT.of upd_same) (.cons k3 (.cons k4 .nil)), by simp only [tupD, tupDs]; rfl⟩, ?_, by show 2 ≤ 100; decide, by decide, fun g2 H6 s6 ng2 hg2 => ?_⟩
      · intro e he
        rcases List.mem_cons.mp he with rfl | he
        · exact fun h => absurd h (notPut (by show Str.ofString "quiet" ≠ _; decide))
        · rw [List.mem_singleton.mp he]
          exact fun h => absurd h (notPut (by show Str.ofString "stop" ≠ _; decide))
      have hg1' := s6 _ _ (u5 _ _ (u4 _ _ (u3 _ _ hg1)))
      refine ⟨by show 2 ≤ sizeLine; decide, fun l7 n7 => ⟨by show 0 ≤ sizeLine; decide, fun t8 n8 => ⟨by show 0 ≤ sizeLine; decide, fun t9 n9 => ⟨by show 2 ≤ sizeLine; decide, fun l10 n10 => ?_⟩⟩⟩⟩
      have u7 := same_upd (o := HO.lst [V.ref g1, V.ref g2]) n7
      have u8 := same_upd (o := HO.tup []) n8
      have u9 := same_upd (o := HO.tup []) n9
      have u10 := same_upd (o := HO.lst [V.ref t8, V.ref t9]) n10
      have ul := (u8.trans u9).trans u10
      have em : ∀ {H2 : Hp} {p : Addr}, H2 p = some (.tup []) → Dp K H2 (.ref p) (.tuple []) := fun h => .tup (SqT.of h) .nil
      refine ⟨7, .ref l7, .ref l10, .list [.tuple [], .tuple []], rfl, rfl, .lst (SqL.of (ul _ _ upd_same)) (.cons (em (ul _ _ (u7 _ _ hg1'))) (.cons (em (ul _ _ (u7 _ _ hg2))) .nil)),
        .lst (SqL.of upd_same) (.cons (em (u10 _ _ (u9 _ _ upd_same))) (.cons (em (u10 _ _ upd_same)) .nil)), by decide, fun H11 s11 => fin H11 ?_⟩
      exact u1.trans (s2.trans (((u3.trans u4).trans u5).trans (s6.trans (u7.trans (ul.trans s11)))))
end
end KV

namespace KV
open PySem PySem.Spec PyProof.Rows L2 RZ
abbrev sLaw : Stmt := topS 25
section
variable {P : Program} {w : World} {K : PySem.W.Frag} {mg : Str → Option Value} {base : Heap}
def spLaw (K : PySem.W.Frag) : Sp := fun vs H Q _ => ∃ (a : Addr) (ns : List Int), vs = [.ref a] ∧ SqL K H a (ns.map V.int) ∧ ns.length ≤ 63 ∧ ∀ H', Q (.bl true) H'
theorem scLaw : FnScope ["_law_script", "_law_k", "_law_box_here", "_law_turn"] ["_law_script"] (defScope sLaw) :=
  ⟨rfl, rfl, rfl, by decide +kernel, rfl, by decide +kernel, by decide +kernel⟩
theorem ok_law {f fR fB : Addr} {fd fdR fdB : FuncData} (F : Fun K "law" "law" sLaw f fd) (FR : Fun K "_law_right" "_law_right" sRight fR fdR) (bR : Binds K fdR ["_law_box_here"] []) (mR : mg "_law_right" = some (.ref fR))
    (GR : FnG P w K mg base 10 fR fdR ["_law_box_here"] spRight)
    (FB : Fun K "_law_box" "_law_box" sBox fB fdB) (bB : Binds K fdB ["_law_script", "_law_k"] []) (mB : mg "_law_box" = some (.ref fB)) (zInt : mg "int" = none) (zLen : mg "len" = none) (zAbs : mg "abs" = none) (zMin : mg "min" = none) (zRange : mg "range" = none) (zAll : mg "all" = none) : FnG P w K mg base 11 f fd ["_law_script"] (spLaw K) := by
  have GB : FnOk P w K mg base CX0 1 fB fdB ["_law_script", "_law_k"] (spBox K) := ok_box FB zInt zLen zAbs
  refine okG F scLaw (fun vs H Q E h => ?_) (fun cdv A outer s H vs Q E hgd hr h => ?_)
  · obtain ⟨a, ns, rfl, _⟩ := h
    rfl
  · obtain ⟨a, ns, rfl, hS, hlen, q⟩ := h
    have hr1 : Room 1 _ := hr.mono (by decide)
    refine ⟨_, pss_cons (ps_for PassesOwn.never rfl (pi_range1 (by rfl) zRange (pa_cons (pe_op op_add pe_int (pe_callB (call_min2 rfl) (by rfl) zMin boot_min (pa_cons pe_int (pa_cons (pe_callB call_len_seq (by rfl) zLen PySem.boot_len (pa_cons (pv 0) pa_nil)) pa_nil)))) pa_nil)) (pg_name (i := 1) scLaw.nd rfl (.inl rfl))
        (pss_cons (ps_set (i := 2) scLaw.nd rfl (.inr rfl) (pe_call GB hr1 (by rfl) mB FB.kp bB .nil pass0 (pa_cons (pv 0) (pa_cons (pv 1) pa_nil))))
        (pss_one (ps_if (pt_not (pt_val (pe_callB (cr_all rfl) (by rfl) zAll boot_all (pa_cons
          (pe_lc (own := [("_law_turn", 3)]) (g := gName 3) (tt := tYes) rfl scLaw.nd (pi_range1 (by rfl) zRange (pa_cons pe_int pa_nil)) (blkOk_by (N := ["_law_script", "_law_k", "_law_box_here", "_law_turn"]) (sc := defScope sLaw) (by decide +kernel))
            (fun _ _ _ _ _ => pg_name (i := 3) scLaw.nd rfl (Or.inl rfl)) (fun _ _ _ _ _ => pts_nil) (fun _ _ _ _ _ => pe_callG GR hgd hr (by rfl) mR FR.kp bR (pa_cons (pv 2) pa_nil))) pa_nil)))) (pss_one (ps_ret pe_bl)) pss_nil))))
      (pss_one (ps_ret pe_bl)), ?_⟩
    refine ⟨_, rfl, a, _, rfl, .inl hS, _, _, rfl, _, _, rfl, rfl, _, rfl, ?_, ?_, for_range (lo := 0) (n := _) (fun i σ H' => ∃ y1 y2, σ = [some (.ref a), y1, y2, none] ∧ Same H H') ⟨none, none, rfl, Same.refl _⟩ ?_ ?_⟩
    · split <;> omega
    · split <;> omega
    · rintro i σ H' hi ⟨y1, y2, rfl, sm⟩
      have hi10 : i < 10 := by
        rw [List.length_map] at hi
        split at hi <;> omega
      refine ⟨_, rfl, _, rfl, a, ns, i, by rw [Int.zero_add]; rfl, sm.seq hS, hi10, hlen, fun p H2 s2 n2 b2 => ?_⟩
      refine ⟨2, rfl, by decide, by decide, fun D nD => lc_it (walk_range (lo := 0) (n := 2)) (fun j H3 => SameX [D, p] H2 H3 ∧ BoxAt H3 p (400000 * j) ∧ H3 D = some (.lst ((List.replicate j true).map V.bl))) ⟨?_, ?_, upd_same⟩ (fun _ _ _ _ => trivial) ?_ ?_⟩
      · exact sameX_upd List.mem_cons_self
      · have pD : p ≠ D := fun e => by
          obtain ⟨_, _, _, z, _⟩ := b2
          rw [e, nD] at z
          cases z
        obtain ⟨x, y, c, z, z2⟩ := b2
        exact ⟨x, y, c, by rw [upd_ne pD]; exact z, z2⟩
      · rintro j x H3 H3' hj ⟨s3, b3, hD3⟩ ⟨rfl, rfl⟩
        refine ⟨rfl, tYes_ok ⟨_, rfl, p, _, rfl, b3, by omega, fun H4 s4 b4 => ?_⟩⟩
        have pD : D ≠ p := fun e => by
          obtain ⟨_, _, _, z, _⟩ := b2
          rw [← e, nD] at z
          cases z
        have hD4 : H4 D = some (.lst ((List.replicate j true).map V.bl)) := s4 D _ (fun z => pD (List.mem_singleton.mp z)) hD3
        refine ⟨_, hD4, by rw [List.length_map, List.length_replicate]; exact small1000 (by omega), ?_, ?_, ?_⟩
        · exact s3.trans ((s4.sub fun c hc => List.mem_cons_of_mem _ hc).trans (sameX_upd List.mem_cons_self))
        · obtain ⟨x, y, c, z, z2⟩ := b4
          exact ⟨x, y, c, by rw [upd_ne pD.symm]; exact z, by omega⟩
        · rw [upd_same, List.replicate_succ', List.map_append]
          rfl
      · rintro H3 ⟨s3, b3, hD3⟩
        refine ⟨D, List.replicate 2 true, rfl, SqL.of hD3, _, rfl, iteBF (by rw [rep_all]; rfl) ?_⟩
        refine ⟨_, _, rfl, fun c o e => ?_⟩
        have e1 := sm c o e
        have e2 := s2 c o e1
        refine s3 c o (fun z => ?_) e2
        rcases List.mem_cons.mp z with z | z
        · exact ne_of_none e2 nD z
        · exact ne_of_none e1 n2 (List.mem_singleton.mp z)
    · rintro σ H' _
      exact q H'
end
/-! ### the head -/
theorem all_mk {l : PySem.W.OpenLaw} {w : World} {K : PySem.W.Frag} {h : Heap} {mg : Str → Option Value} {fa : Addr} (X : K.In h) (G : h.Ns mainGlobals mg) (hfa : mg "law" = some (.ref fa))
    {f0 : Addr} {od0 an0 : Option Addr} {sl0 : Array (Option Value)} {oc0 kV0 dc0 pm0 cd0 ct0 : Value} {f1 : Addr} {od1 an1 : Option Addr} {sl1 : Array (Option Value)} {oc1 kV1 dc1 pm1 cd1 ct1 : Value} {f2 : Addr} {od2 an2 : Option Addr} {sl2 : Array (Option Value)} {oc2 kV2 dc2 pm2 cd2 ct2 : Value} {f3 : Addr} {od3 an3 : Option Addr} {sl3 : Array (Option Value)} {oc3 kV3 dc3 pm3 cd3 ct3 : Value} {f4 : Addr} {od4 an4 : Option Addr} {sl4 : Array (Option Value)} {oc4 kV4 dc4 pm4 cd4 ct4 : Value} {f5 : Addr} {od5 an5 : Option Addr} {sl5 : Array (Option Value)} {oc5 kV5 dc5 pm5 cd5 ct5 : Value} {f6 : Addr} {od6 an6 : Option Addr} {sl6 : Array (Option Value)} {oc6 kV6 dc6 pm6 cd6 ct6 : Value} {f7 : Addr} {od7 an7 : Option Addr} {sl7 : Array (Option Value)} {oc7 kV7 dc7 pm7 cd7 ct7 : Value} {f8 : Addr} {od8 an8 : Option Addr} {sl8 : Array (Option Value)} {oc8 kV8 dc8 pm8 cd8 ct8 : Value} {f9 : Addr} {od9 an9 : Option Addr} {sl9 : Array (Option Value)} {oc9 kV9 dc9 pm9 cd9 ct9 : Value} {f10 : Addr} {od10 an10 : Option Addr} {sl10 : Array (Option Value)} {oc10 kV10 dc10 pm10 cd10 ct10 : Value} {f11 : Addr} {od11 an11 : Option Addr} {sl11 : Array (Option Value)} {oc11 kV11 dc11 pm11 cd11 ct11 : Value} {f12 : Addr} {od12 an12 : Option Addr} {sl12 : Array (Option Value)} {oc12 kV12 dc12 pm12 cd12 ct12 : Value} {f13 : Addr} {od13 an13 : Option Addr} {sl13 : Array (Option Value)} {oc13 kV13 dc13 pm13 cd13 ct13 : Value} {f14 : Addr} {od14 an14 : Option Addr} {sl14 : Array (Option Value)} {oc14 kV14 dc14 pm14 cd14 ct14 : Value} {f15 : Addr} {od15 an15 : Option Addr} {sl15 : Array (Option Value)} {oc15 kV15 dc15 pm15 cd15 ct15 : Value} {f16 : Addr} {od16 an16 : Option Addr} {sl16 : Array (Option Value)} {oc16 kV16 dc16 pm16 cd16 ct16 : Value} {f17 : Addr} {od17 an17 : Option Addr} {sl17 : Array (Option Value)} {oc17 kV17 dc17 pm17 cd17 ct17 : Value} {f18 : Addr} {od18 an18 : Option Addr} {sl18 : Array (Option Value)} {oc18 kV18 dc18 pm18 cd18 ct18 : Value} {f19 : Addr} {od19 an19 : Option Addr} {sl19 : Array (Option Value)} {oc19 kV19 dc19 pm19 cd19 ct19 : Value} {f20 : Addr} {od20 an20 : Option Addr} {sl20 : Array (Option Value)} {oc20 kV20 dc20 pm20 cd20 ct20 : Value} {f21 : Addr} {od21 an21 : Option Addr} {sl21 : Array (Option Value)} {oc21 kV21 dc21 pm21 cd21 ct21 : Value} {f22 : Addr} {od22 an22 : Option Addr} {sl22 : Array (Option Value)} {oc22 kV22 dc22 pm22 cd22 ct22 : Value}
    (a0 : PySem.W.nsIn K mainGlobals "is_linktimeout" = some (some (.ref f0))) (l0 : K.lookup f0 = some ⟨oc0, od0, .func (PySem.W.fnOf "is_linktimeout" "is_linktimeout" (defArgs sIsLt) (defBody sIsLt) (defScope sIsLt) .none kV0 dc0 pm0 an0 cd0 ct0), sl0⟩) (c0 : PySem.W.codeIn K cd0 "is_linktimeout" = true) (k0 : PySem.W.keepIn K (.ref f0) = true)
    (a1 : PySem.W.nsIn K mainGlobals "binds" = some (some (.ref f1))) (l1 : K.lookup f1 = some ⟨oc1, od1, .func (PySem.W.fnOf "binds" "binds" (defArgs sBinds) (defBody sBinds) (defScope sBinds) .none kV1 dc1 pm1 an1 cd1 ct1), sl1⟩) (c1 : PySem.W.codeIn K cd1 "binds" = true) (k1 : PySem.W.keepIn K (.ref f1) = true)
    (a2 : PySem.W.nsIn K mainGlobals "chains" = some (some (.ref f2))) (l2 : K.lookup f2 = some ⟨oc2, od2, .func (PySem.W.fnOf "chains" "chains" (defArgs sChains) (defBody sChains) (defScope sChains) .none kV2 dc2 pm2 an2 cd2 ct2), sl2⟩) (c2 : PySem.W.codeIn K cd2 "chains" = true) (k2 : PySem.W.keepIn K (.ref f2) = true)
    (a3 : PySem.W.nsIn K mainGlobals "tags" = some (some (.ref f3))) (l3 : K.lookup f3 = some ⟨oc3, od3, .func (PySem.W.fnOf "tags" "tags" (defArgs sTags) (defBody sTags) (defScope sTags) .none kV3 dc3 pm3 an3 cd3 ct3), sl3⟩) (c3 : PySem.W.codeIn K cd3 "tags" = true) (k3 : PySem.W.keepIn K (.ref f3) = true)
    (a4 : PySem.W.nsIn K mainGlobals "_law_take" = some (some (.ref f4))) (l4 : K.lookup f4 = some ⟨oc4, od4, .func (PySem.W.fnOf "_law_take" "_law_take" (defArgs sTake) (defBody sTake) (defScope sTake) .none kV4 dc4 pm4 an4 cd4 ct4), sl4⟩) (c4 : PySem.W.codeIn K cd4 "_law_take" = true) (k4 : PySem.W.keepIn K (.ref f4) = true)
    (a5 : PySem.W.nsIn K mainGlobals "_law_of" = some (some (.ref f5))) (l5 : K.lookup f5 = some ⟨oc5, od5, .func (PySem.W.fnOf "_law_of" "_law_of" (defArgs sOf) (defBody sOf) (defScope sOf) .none kV5 dc5 pm5 an5 cd5 ct5), sl5⟩) (c5 : PySem.W.codeIn K cd5 "_law_of" = true) (k5 : PySem.W.keepIn K (.ref f5) = true)
    (a6 : PySem.W.nsIn K mainGlobals "_law_name" = some (some (.ref f6))) (l6 : K.lookup f6 = some ⟨oc6, od6, .func (PySem.W.fnOf "_law_name" "_law_name" (defArgs sName) (defBody sName) (defScope sName) .none kV6 dc6 pm6 an6 cd6 ct6), sl6⟩) (c6 : PySem.W.codeIn K cd6 "_law_name" = true) (k6 : PySem.W.keepIn K (.ref f6) = true)
    (a7 : PySem.W.nsIn K mainGlobals "_law_names" = some (some (.ref f7))) (l7 : K.lookup f7 = some ⟨oc7, od7, .func (PySem.W.fnOf "_law_names" "_law_names" (defArgs sNames) (defBody sNames) (defScope sNames) .none kV7 dc7 pm7 an7 cd7 ct7), sl7⟩) (c7 : PySem.W.codeIn K cd7 "_law_names" = true) (k7 : PySem.W.keepIn K (.ref f7) = true)
    (a8 : PySem.W.nsIn K mainGlobals "_law_named_setup" = some (some (.ref f8))) (l8 : K.lookup f8 = some ⟨oc8, od8, .func (PySem.W.fnOf "_law_named_setup" "_law_named_setup" (defArgs sNamed) (defBody sNamed) (defScope sNamed) .none kV8 dc8 pm8 an8 cd8 ct8), sl8⟩) (c8 : PySem.W.codeIn K cd8 "_law_named_setup" = true) (k8 : PySem.W.keepIn K (.ref f8) = true)
    (a9 : PySem.W.nsIn K mainGlobals "_law_place" = some (some (.ref f9))) (l9 : K.lookup f9 = some ⟨oc9, od9, .func (PySem.W.fnOf "_law_place" "_law_place" (defArgs sPlace) (defBody sPlace) (defScope sPlace) .none kV9 dc9 pm9 an9 cd9 ct9), sl9⟩) (c9 : PySem.W.codeIn K cd9 "_law_place" = true) (k9 : PySem.W.keepIn K (.ref f9) = true)
    (a10 : PySem.W.nsIn K mainGlobals "_law_letters" = some (some (.ref f10))) (l10 : K.lookup f10 = some ⟨oc10, od10, .func (PySem.W.fnOf "_law_letters" "_law_letters" (defArgs sLetters) (defBody sLetters) (defScope sLetters) .none kV10 dc10 pm10 an10 cd10 ct10), sl10⟩) (c10 : PySem.W.codeIn K cd10 "_law_letters" = true) (k10 : PySem.W.keepIn K (.ref f10) = true)
    (a11 : PySem.W.nsIn K mainGlobals "_law_deed" = some (some (.ref f11))) (l11 : K.lookup f11 = some ⟨oc11, od11, .func (PySem.W.fnOf "_law_deed" "_law_deed" (defArgs sDeed) (defBody sDeed) (defScope sDeed) .none kV11 dc11 pm11 an11 cd11 ct11), sl11⟩) (c11 : PySem.W.codeIn K cd11 "_law_deed" = true) (k11 : PySem.W.keepIn K (.ref f11) = true)
    (a12 : PySem.W.nsIn K mainGlobals "_law_ended" = some (some (.ref f12))) (l12 : K.lookup f12 = some ⟨oc12, od12, .func (PySem.W.fnOf "_law_ended" "_law_ended" (defArgs sEnded) (defBody sEnded) (defScope sEnded) .none kV12 dc12 pm12 an12 cd12 ct12), sl12⟩) (c12 : PySem.W.codeIn K cd12 "_law_ended" = true) (k12 : PySem.W.keepIn K (.ref f12) = true)
    (a13 : PySem.W.nsIn K mainGlobals "_law_lot" = some (some (.ref f13))) (l13 : K.lookup f13 = some ⟨oc13, od13, .func (PySem.W.fnOf "_law_lot" "_law_lot" (defArgs sLot) (defBody sLot) (defScope sLot) .none kV13 dc13 pm13 an13 cd13 ct13), sl13⟩) (c13 : PySem.W.codeIn K cd13 "_law_lot" = true) (k13 : PySem.W.keepIn K (.ref f13) = true)
    (a14 : PySem.W.nsIn K mainGlobals "_law_mixed" = some (some (.ref f14))) (l14 : K.lookup f14 = some ⟨oc14, od14, .func (PySem.W.fnOf "_law_mixed" "_law_mixed" (defArgs sMixed) (defBody sMixed) (defScope sMixed) .none kV14 dc14 pm14 an14 cd14 ct14), sl14⟩) (c14 : PySem.W.codeIn K cd14 "_law_mixed" = true) (k14 : PySem.W.keepIn K (.ref f14) = true)
    (a15 : PySem.W.nsIn K mainGlobals "_law_lists" = some (some (.ref f15))) (l15 : K.lookup f15 = some ⟨oc15, od15, .func (PySem.W.fnOf "_law_lists" "_law_lists" (defArgs sLists) (defBody sLists) (defScope sLists) .none kV15 dc15 pm15 an15 cd15 ct15), sl15⟩) (c15 : PySem.W.codeIn K cd15 "_law_lists" = true) (k15 : PySem.W.keepIn K (.ref f15) = true)
    (a16 : PySem.W.nsIn K mainGlobals "_law_same" = some (some (.ref f16))) (l16 : K.lookup f16 = some ⟨oc16, od16, .func (PySem.W.fnOf "_law_same" "_law_same" (defArgs sSame) (defBody sSame) (defScope sSame) .none kV16 dc16 pm16 an16 cd16 ct16), sl16⟩) (c16 : PySem.W.codeIn K cd16 "_law_same" = true) (k16 : PySem.W.keepIn K (.ref f16) = true)
    (a17 : PySem.W.nsIn K mainGlobals "_law_event" = some (some (.ref f17))) (l17 : K.lookup f17 = some ⟨oc17, od17, .func (PySem.W.fnOf "_law_event" "_law_event" (defArgs sEvent) (defBody sEvent) (defScope sEvent) .none kV17 dc17 pm17 an17 cd17 ct17), sl17⟩) (c17 : PySem.W.codeIn K cd17 "_law_event" = true) (k17 : PySem.W.keepIn K (.ref f17) = true)
    (a18 : PySem.W.nsIn K mainGlobals "_law_named_script" = some (some (.ref f18))) (l18 : K.lookup f18 = some ⟨oc18, od18, .func (PySem.W.fnOf "_law_named_script" "_law_named_script" (defArgs sScriptN) (defBody sScriptN) (defScope sScriptN) .none kV18 dc18 pm18 an18 cd18 ct18), sl18⟩) (c18 : PySem.W.codeIn K cd18 "_law_named_script" = true) (k18 : PySem.W.keepIn K (.ref f18) = true)
    (a19 : PySem.W.nsIn K mainGlobals "_law_box" = some (some (.ref f19))) (l19 : K.lookup f19 = some ⟨oc19, od19, .func (PySem.W.fnOf "_law_box" "_law_box" (defArgs sBox) (defBody sBox) (defScope sBox) .none kV19 dc19 pm19 an19 cd19 ct19), sl19⟩) (c19 : PySem.W.codeIn K cd19 "_law_box" = true) (k19 : PySem.W.keepIn K (.ref f19) = true)
    (a20 : PySem.W.nsIn K mainGlobals "_law_rows" = some (some (.ref f20))) (l20 : K.lookup f20 = some ⟨oc20, od20, .func (PySem.W.fnOf "_law_rows" "_law_rows" (defArgs sRows) (defBody sRows) (defScope sRows) .none kV20 dc20 pm20 an20 cd20 ct20), sl20⟩) (c20 : PySem.W.codeIn K cd20 "_law_rows" = true) (k20 : PySem.W.keepIn K (.ref f20) = true)
    (a21 : PySem.W.nsIn K mainGlobals "_law_right" = some (some (.ref f21))) (l21 : K.lookup f21 = some ⟨oc21, od21, .func (PySem.W.fnOf "_law_right" "_law_right" (defArgs sRight) (defBody sRight) (defScope sRight) .none kV21 dc21 pm21 an21 cd21 ct21), sl21⟩) (c21 : PySem.W.codeIn K cd21 "_law_right" = true) (k21 : PySem.W.keepIn K (.ref f21) = true)
    (a22 : PySem.W.nsIn K mainGlobals "law" = some (some (.ref f22))) (l22 : K.lookup f22 = some ⟨oc22, od22, .func (PySem.W.fnOf "law" "law" (defArgs sLaw) (defBody sLaw) (defScope sLaw) .none kV22 dc22 pm22 an22 cd22 ct22), sl22⟩) (c22 : PySem.W.codeIn K cd22 "law" = true) (k22 : PySem.W.keepIn K (.ref f22) = true)
    (z0 : PySem.W.nsIn K mainGlobals "int" = some none)
    (z1 : PySem.W.nsIn K mainGlobals "len" = some none)
    (z2 : PySem.W.nsIn K mainGlobals "tuple" = some none)
    (z3 : PySem.W.nsIn K mainGlobals "list" = some none)
    (z4 : PySem.W.nsIn K mainGlobals "range" = some none)
    (z5 : PySem.W.nsIn K mainGlobals "isinstance" = some none)
    (z6 : PySem.W.nsIn K mainGlobals "all" = some none)
    (z7 : PySem.W.nsIn K mainGlobals "zip" = some none)
    (z8 : PySem.W.nsIn K mainGlobals "bool" = some none)
    (z9 : PySem.W.nsIn K mainGlobals "str" = some none)
    (z10 : PySem.W.nsIn K mainGlobals "repr" = some none)
    (z11 : PySem.W.nsIn K mainGlobals "abs" = some none)
    (z12 : PySem.W.nsIn K mainGlobals "min" = some none)
    (z13 : PySem.W.nsIn K mainGlobals "sorted" = some none) :
    ∃ fd : FuncData, (∀ (s : Shared) (v : Value), BindsTo s fd ⟨[v], []⟩ [("_law_script", v)]) ∧ ∀ base : Heap, K.In base → base.Ns mainGlobals mg → FnG l.prog w K mg base 11 fa fd ["_law_script"] (spLaw K) := by
  have e := hfa.symm.trans (PySem.W.mg_of X G a22)
  cases e
  have F0 := fun_mk (st := sIsLt) l0 c0 k0
  have b0 := F0.binds (ps := ["request"]) fun _ _ _ _ _ _ us hl => match us, hl with | [_], _ => rfl
  have m0 := PySem.W.mg_of X G a0
  have F1 := fun_mk (st := sBinds) l1 c1 k1
  have b1 := F1.binds (ps := ["request"]) fun _ _ _ _ _ _ us hl => match us, hl with | [_], _ => rfl
  have m1 := PySem.W.mg_of X G a1
  have F2 := fun_mk (st := sChains) l2 c2 k2
  have b2 := F2.binds (ps := ["lot"]) fun _ _ _ _ _ _ us hl => match us, hl with | [_], _ => rfl
  have m2 := PySem.W.mg_of X G a2
  have F3 := fun_mk (st := sTags) l3 c3 k3
  have b3 := F3.binds (ps := ["script"]) fun _ _ _ _ _ _ us hl => match us, hl with | [_], _ => rfl
  have m3 := PySem.W.mg_of X G a3
  have F4 := fun_mk (st := sTake) l4 c4 k4
  have b4 := F4.binds (ps := ["_law_box_here", "_law_below"]) fun _ _ _ _ _ _ us hl => match us, hl with | [_, _], _ => rfl
  have m4 := PySem.W.mg_of X G a4
  have F5 := fun_mk (st := sOf) l5 c5 k5
  have b5 := F5.binds (ps := ["_law_box_here", "_law_some"]) fun _ _ _ _ _ _ us hl => match us, hl with | [_, _], _ => rfl
  have m5 := PySem.W.mg_of X G a5
  have F6 := fun_mk (st := sName) l6 c6 k6
  have b6 := F6.binds (ps := ["_law_box_here"]) fun _ _ _ _ _ _ us hl => match us, hl with | [_], _ => rfl
  have m6 := PySem.W.mg_of X G a6
  have F7 := fun_mk (st := sNames) l7 c7 k7
  have b7 := F7.binds (ps := ["_law_box_here", "_law_many_so"]) fun _ _ _ _ _ _ us hl => match us, hl with | [_, _], _ => rfl
  have m7 := PySem.W.mg_of X G a7
  have F8 := fun_mk (st := sNamed) l8 c8 k8
  have b8 := F8.binds (ps := ["_law_box_here", "_law_least_so"]) fun _ _ _ _ _ _ us hl => match us, hl with | [_, _], _ => rfl
  have m8 := PySem.W.mg_of X G a8
  have F9 := fun_mk (st := sPlace) l9 c9 k9
  have b9 := F9.binds (ps := ["_law_box_here", "_law_setup_so"]) fun _ _ _ _ _ _ us hl => match us, hl with | [_, _], _ => rfl
  have m9 := PySem.W.mg_of X G a9
  have F10 := fun_mk (st := sLetters) l10 c10 k10
  have b10 := F10.binds (ps := ["_law_box_here", "_law_most_so"]) fun _ _ _ _ _ _ us hl => match us, hl with | [_, _], _ => rfl
  have m10 := PySem.W.mg_of X G a10
  have F11 := fun_mk (st := sDeed) l11 c11 k11
  have b11 := F11.binds (ps := ["_law_box_here", "_law_setup_so", "_law_gone"]) fun _ _ _ _ _ _ us hl => match us, hl with | [_, _, _], _ => rfl
  have m11 := PySem.W.mg_of X G a11
  have F12 := fun_mk (st := sEnded) l12 c12 k12
  have b12 := F12.binds (ps := ["_law_batch"]) fun _ _ _ _ _ _ us hl => match us, hl with | [_], _ => rfl
  have m12 := PySem.W.mg_of X G a12
  have F13 := fun_mk (st := sLot) l13 c13 k13
  have b13 := F13.binds (ps := ["_law_box_here", "_law_setup_so", "_law_tags_so", "_law_gone", "_law_many_so"]) fun _ _ _ _ _ _ us hl => match us, hl with | [_, _, _, _, _], _ => rfl
  have m13 := PySem.W.mg_of X G a13
  have F14 := fun_mk (st := sMixed) l14 c14 k14
  have b14 := F14.binds (ps := ["_law_box_here", "_law_matter"]) fun _ _ _ _ _ _ us hl => match us, hl with | [_, _], _ => rfl
  have m14 := PySem.W.mg_of X G a14
  have F15 := fun_mk (st := sLists) l15 c15 k15
  have b15 := F15.binds (ps := ["_law_matter"]) fun _ _ _ _ _ _ us hl => match us, hl with | [_], _ => rfl
  have m15 := PySem.W.mg_of X G a15
  have F16 := fun_mk (st := sSame) l16 c16 k16
  have b16 := F16.binds (ps := ["_law_found", "_law_due"]) fun _ _ _ _ _ _ us hl => match us, hl with | [_, _], _ => rfl
  have m16 := PySem.W.mg_of X G a16
  have F17 := fun_mk (st := sEvent) l17 c17 k17
  have b17 := F17.binds (ps := ["_law_box_here", "_law_setup_so", "_law_tags_so", "_law_gone", "_law_clock_so"]) fun _ _ _ _ _ _ us hl => match us, hl with | [_, _, _, _, _], _ => rfl
  have m17 := PySem.W.mg_of X G a17
  have F18 := fun_mk (st := sScriptN) l18 c18 k18
  have b18 := F18.binds (ps := ["_law_box_here", "_law_setup_so", "_law_many_so"]) fun _ _ _ _ _ _ us hl => match us, hl with | [_, _, _], _ => rfl
  have m18 := PySem.W.mg_of X G a18
  have F19 := fun_mk (st := sBox) l19 c19 k19
  have b19 := F19.binds (ps := ["_law_script", "_law_k"]) fun _ _ _ _ _ _ us hl => match us, hl with | [_, _], _ => rfl
  have m19 := PySem.W.mg_of X G a19
  have F20 := fun_mk (st := sRows) l20 c20 k20
  have b20 := F20.binds (ps := ["_law_batch"]) fun _ _ _ _ _ _ us hl => match us, hl with | [_], _ => rfl
  have m20 := PySem.W.mg_of X G a20
  have F21 := fun_mk (st := sRight) l21 c21 k21
  have b21 := F21.binds (ps := ["_law_box_here"]) fun _ _ _ _ _ _ us hl => match us, hl with | [_], _ => rfl
  have m21 := PySem.W.mg_of X G a21
  have F22 := fun_mk (st := sLaw) l22 c22 k22
  have m22 := PySem.W.mg_of X G a22
  have kC := kb1 (a := "lot") F2 fun _ _ _ _ _ _ _ => ⟨rfl, rfl⟩
  have y0 := PySem.W.mg_none_of X G z0
  have y1 := PySem.W.mg_none_of X G z1
  have y2 := PySem.W.mg_none_of X G z2
  have y3 := PySem.W.mg_none_of X G z3
  have y4 := PySem.W.mg_none_of X G z4
  have y5 := PySem.W.mg_none_of X G z5
  have y6 := PySem.W.mg_none_of X G z6
  have y7 := PySem.W.mg_none_of X G z7
  have y8 := PySem.W.mg_none_of X G z8
  have y9 := PySem.W.mg_none_of X G z9
  have y10 := PySem.W.mg_none_of X G z10
  have y11 := PySem.W.mg_none_of X G z11
  have y12 := PySem.W.mg_none_of X G z12
  have y13 := PySem.W.mg_none_of X G z13
  refine ⟨PySem.W.fnOf "law" "law" (defArgs sLaw) (defBody sLaw) (defScope sLaw) .none kV22 dc22 pm22 an22 cd22 ct22, fun s v => .of_eq rfl, fun base _ _ => ?_⟩
  have gT5 : FnOk l.prog w K mg base CX0 5 f4 _ ["_law_box_here", "_law_below"] spTake := ok_take (k := 4) F4 y0
  have gT6 : FnOk l.prog w K mg base CX0 6 f4 _ ["_law_box_here", "_law_below"] spTake := ok_take (k := 5) F4 y0
  have gT7 : FnOk l.prog w K mg base CX0 7 f4 _ ["_law_box_here", "_law_below"] spTake := ok_take (k := 6) F4 y0
  have gT8 : FnOk l.prog w K mg base CX0 8 f4 _ ["_law_box_here", "_law_below"] spTake := ok_take (k := 7) F4 y0
  have gO7 : FnOk l.prog w K mg base CX0 7 f5 _ ["_law_box_here", "_law_some"] (spOf K) := ok_of (k := 5) F5 F4 b4 m4 y0 y1
  have gO8 : FnOk l.prog w K mg base CX0 8 f5 _ ["_law_box_here", "_law_some"] (spOf K) := ok_of (k := 6) F5 F4 b4 m4 y0 y1
  have gN7 : FnOk l.prog w K mg base CX0 7 f6 _ ["_law_box_here"] (spName K) := ok_name (k := 4) F6 F4 b4 m4 F5 b5 m5 y0 y1 y4
  have gN8 : FnOk l.prog w K mg base CX0 8 f6 _ ["_law_box_here"] (spName K) := ok_name (k := 5) F6 F4 b4 m4 F5 b5 m5 y0 y1 y4
  have gN9 : FnOk l.prog w K mg base CX0 9 f6 _ ["_law_box_here"] (spName K) := ok_name (k := 6) F6 F4 b4 m4 F5 b5 m5 y0 y1 y4
  have gM8 : FnOk l.prog w K mg base CX0 8 f7 _ ["_law_box_here", "_law_many_so"] (spNames K) := ok_names (k := 4) F7 F6 b6 m6 gN7 y4
  have gM9 : FnOk l.prog w K mg base CX0 9 f7 _ ["_law_box_here", "_law_many_so"] (spNames K) := ok_names (k := 5) F7 F6 b6 m6 gN8 y4
  have gD : FnOk l.prog w K mg base CX0 9 f8 _ ["_law_box_here", "_law_least_so"] (spNamed K) := ok_named (k := 4) F8 F4 b4 m4 gT8 F5 b5 m5 gO8 F7 b7 m7 gM8 y4 y2 y13
  have gDd6 : FnOk l.prog w K mg base CX0 6 f11 _ ["_law_box_here", "_law_setup_so", "_law_gone"] (spDeed K) := ok_deed (k := 2) F11 F4 b4 m4 F5 b5 m5 F9 b9 m9 F10 b10 m10 y0 y1 y4
  have gDd8 : FnOk l.prog w K mg base CX0 8 f11 _ ["_law_box_here", "_law_setup_so", "_law_gone"] (spDeed K) := ok_deed (k := 4) F11 F4 b4 m4 F5 b5 m5 F9 b9 m9 F10 b10 m10 y0 y1 y4
  have gE6 : FnOk l.prog w K mg base CX0 6 f12 _ ["_law_batch"] (spEnded K) := ok_ended (k := 5) F12 y2
  have gE8 : FnOk l.prog w K mg base CX0 8 f12 _ ["_law_batch"] (spEnded K) := ok_ended (k := 7) F12 y2
  have gT6b : FnOk l.prog w K mg base CX0 6 f4 _ ["_law_box_here", "_law_below"] spTake := gT6
  have gDd7 : FnOk l.prog w K mg base CX0 7 f11 _ ["_law_box_here", "_law_setup_so", "_law_gone"] (spDeed K) := ok_deed (k := 3) F11 F4 b4 m4 F5 b5 m5 F9 b9 m9 F10 b10 m10 y0 y1 y4
  have gE7 : FnOk l.prog w K mg base CX0 7 f12 _ ["_law_batch"] (spEnded K) := ok_ended (k := 6) F12 y2
  have gL7 : FnOk l.prog w K mg base CX0 7 f13 _ ["_law_box_here", "_law_setup_so", "_law_tags_so", "_law_gone", "_law_many_so"] (spLot K) := ok_lot (k := 2) F13 F4 b4 m4 gT6 F11 b11 m11 gDd6 F12 b12 m12 gE6 y4 y2 y13
  have gL8 : FnOk l.prog w K mg base CX0 8 f13 _ ["_law_box_here", "_law_setup_so", "_law_tags_so", "_law_gone", "_law_many_so"] (spLot K) := ok_lot (k := 3) F13 F4 b4 m4 gT7 F11 b11 m11 gDd7 F12 b12 m12 gE7 y4 y2 y13
  have gL9 : FnOk l.prog w K mg base CX0 9 f13 _ ["_law_box_here", "_law_setup_so", "_law_tags_so", "_law_gone", "_law_many_so"] (spLot K) := ok_lot (k := 4) F13 F4 b4 m4 gT8 F11 b11 m11 gDd8 F12 b12 m12 gE8 y4 y2 y13
  have gLt7 : FnOk l.prog w K mg base CX0 7 f10 _ ["_law_box_here", "_law_most_so"] (spLetters K) := ok_letters (k := 4) F10 F4 b4 m4 F5 b5 m5 y0 y1 y4
  have gEv8 : FnOk l.prog w K mg base CX0 8 f17 _ ["_law_box_here", "_law_setup_so", "_law_tags_so", "_law_gone", "_law_clock_so"] (spEvent K) := ok_event (k := 2) F17 F4 b4 m4 gT7 F5 b5 m5 gO7 F10 b10 m10 gLt7 F13 b13 m13 gL7 y1
  have gY : FnOk l.prog w K mg base CX0 9 f18 _ ["_law_box_here", "_law_setup_so", "_law_many_so"] (spScriptN K) := ok_scriptN (k := 2) F18 F4 b4 m4 gT8 F7 b7 m7 gM8 F13 b13 m13 gL8 F17 b17 m17 gEv8 y4 y2 y1
  have gR : FnOk l.prog w K mg base CX0 9 f20 _ ["_law_batch"] (spRows K) := ok_rows (k := 8) F20 y2
  have gX : FnOk l.prog w K mg base CX0 9 f14 _ ["_law_box_here", "_law_matter"] (spMixed K 7) := ok_mixed F14 b14 m14 F4 b4 m4 y0 y5 y3 y2 7
  have gC : FnOk l.prog w K mg base CX0 9 f2 _ ["lot"] (spChains K) := ok_chains (k := 7) F2 F0 b0 m0 F1 b1 m1 y2 y1
  have gLi : FnOk l.prog w K mg base CX0 8 f15 _ ["_law_matter"] (spLists K 7) := ok_lists F15 b15 m15 y5 y3 y2 7
  have gS : FnOk l.prog w K mg base CX0 8 f16 _ ["_law_found", "_law_due"] (spSame K 8) := ok_same F16 b16 m16 y5 y3 y2 y1 y6 y7 y8 y9 y0 8
  have gG : FnOk l.prog w K mg base CX0 9 f3 _ ["script"] (spTags K) := ok_tags (k := 8) F3 y2
  have gRight : FnG l.prog w K mg base 10 f21 _ ["_law_box_here"] spRight := ok_right F21 F8 b8 m8 gD F13 b13 m13 gL9 F7 b7 m7 gM9 F6 b6 m6 gN9 F20 b20 m20 gR F14 b14 m14 gX F2 b2 kC m2 gC F15 b15 m15 gLi F16 b16 m16 gS F18 b18 m18 gY F3 b3 m3 gG y4 y2 y10
  exact ok_law F22 F21 b21 m21 gRight F19 b19 m19 y0 y1 y11 y12 y4 y6
end KV
open PySem PySem.W PyProof.Rows
set_option maxRecDepth 100000 in
set_option maxHeartbeats 0 in
theorem PySem.Challenge.cw_endonce_k03_chains_and_tags_holds : PySem.Challenge.rw_endonce_k03_chains_and_tags.Holds := by
  w_on; o_law; k_head; (case hw => w_witness2)
  k_fill
  refine KV.walkG (l := PySem.Challenge.rw_endonce_k03_chains_and_tags) (n := 63) (k := 11) (x := "_law_script") (sp := fun w => KV.spLaw _) rfl (by decide) rfl ⟨rfl, by decide, by decide⟩ (fun w h Y => PySem.W.kIn_of Y) ?F (fun _ _ a ns hl _ hS => ⟨a, ns, rfl, hS, hl, fun _ => rfl⟩)
  case F =>
    intro w mg fa h KX G hmg
    refine' KV.all_mk KX G hmg ?a0 ?l0 ?c0 ?k0 ?a1 ?l1 ?c1 ?k1 ?a2 ?l2 ?c2 ?k2 ?a3 ?l3 ?c3 ?k3 ?a4 ?l4 ?c4 ?k4 ?a5 ?l5 ?c5 ?k5 ?a6 ?l6 ?c6 ?k6 ?a7 ?l7 ?c7 ?k7 ?a8 ?l8 ?c8 ?k8 ?a9 ?l9 ?c9 ?k9 ?a10 ?l10 ?c10 ?k10 ?a11 ?l11 ?c11 ?k11 ?a12 ?l12 ?c12 ?k12 ?a13 ?l13 ?c13 ?k13 ?a14 ?l14 ?c14 ?k14 ?a15 ?l15 ?c15 ?k15 ?a16 ?l16 ?c16 ?k16 ?a17 ?l17 ?c17 ?k17 ?a18 ?l18 ?c18 ?k18 ?a19 ?l19 ?c19 ?k19 ?a20 ?l20 ?c20 ?k20 ?a21 ?l21 ?c21 ?k21 ?a22 ?l22 ?c22 ?k22 ?z0 ?z1 ?z2 ?z3 ?z4 ?z5 ?z6 ?z7 ?z8 ?z9 ?z10 ?z11 ?z12 ?z13
    (case a0 => k_is)
    (case l0 => k_is)
    (case c0 => k_is)
    (case k0 => k_is)
    (case a1 => k_is)
    (case l1 => k_is)
    (case c1 => k_is)
    (case k1 => k_is)
    (case a2 => k_is)
    (case l2 => k_is)
    (case c2 => k_is)
    (case k2 => k_is)
    (case a3 => k_is)
    (case l3 => k_is)
    (case c3 => k_is)
    (case k3 => k_is)
    (case a4 => k_is)
    (case l4 => k_is)
    (case c4 => k_is)
    (case k4 => k_is)
    (case a5 => k_is)
    (case l5 => k_is)
    (case c5 => k_is)
    (case k5 => k_is)
    (case a6 => k_is)
    (case l6 => k_is)
    (case c6 => k_is)
    (case k6 => k_is)
    (case a7 => k_is)
    (case l7 => k_is)
    (case c7 => k_is)
    (case k7 => k_is)
    (case a8 => k_is)
    (case l8 => k_is)
    (case c8 => k_is)
    (case k8 => k_is)
    (case a9 => k_is)
    (case l9 => k_is)
    (case c9 => k_is)
    (case k9 => k_is)
    (case a10 => k_is)
    (case l10 => k_is)
    (case c10 => k_is)
    (case k10 => k_is)
    (case a11 => k_is)
    (case l11 => k_is)
    (case c11 => k_is)
    (case k11 => k_is)
    (case a12 => k_is)
    (case l12 => k_is)
    (case c12 => k_is)
    (case k12 => k_is)
    (case a13 => k_is)
    (case l13 => k_is)
    (case c13 => k_is)
    (case k13 => k_is)
    (case a14 => k_is)
    (case l14 => k_is)
    (case c14 => k_is)
    (case k14 => k_is)
    (case a15 => k_is)
    (case l15 => k_is)
    (case c15 => k_is)
    (case k15 => k_is)
    (case a16 => k_is)
    (case l16 => k_is)
    (case c16 => k_is)
    (case k16 => k_is)
    (case a17 => k_is)
    (case l17 => k_is)
    (case c17 => k_is)
    (case k17 => k_is)
    (case a18 => k_is)
    (case l18 => k_is)
    (case c18 => k_is)
    (case k18 => k_is)
    (case a19 => k_is)
    (case l19 => k_is)
    (case c19 => k_is)
    (case k19 => k_is)
    (case a20 => k_is)
    (case l20 => k_is)
    (case c20 => k_is)
    (case k20 => k_is)
    (case a21 => k_is)
    (case l21 => k_is)
    (case c21 => k_is)
    (case k21 => k_is)
    (case a22 => k_is)
    (case l22 => k_is)
    (case c22 => k_is)
    (case k22 => k_is)
    (case z0 => k_is)
    (case z1 => k_is)
    (case z2 => k_is)
    (case z3 => k_is)
    (case z4 => k_is)
    (case z5 => k_is)
    (case z6 => k_is)
    (case z7 => k_is)
    (case z8 => k_is)
    (case z9 => k_is)
    (case z10 => k_is)
    (case z11 => k_is)
    (case z12 => k_is)
    (case z13 => k_is)
