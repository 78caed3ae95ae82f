import PyProof.Rows.All
import Wide.All
import OpenK.AllK
import Wide.FinOn
import PyProof.ReprRoads
import HandS.ForMost
import HandS.IsInst
import HandS.NoneIn
import HandS.TupAny
import HandS.Style
import HandS.Defaults
import HandS.Zip
import HandS.Walk
import HandS.Deep
import OpenK.KMore
import HandS.SetFor
import HandS.SetTxt0
import HandS.Strs
import PyProof.Rows.SortShellAny
import HandS.Text
import HandS.Steps
import HandS.MapJoin
import HandS.More
import HandS.Exc
import HandS.ExcValue
import KE.KTryMore
import HandS.ExcInit
import HandS.FStr
import HandS.WordsExc
import HandS.WordsList
import HandS.List
import HandS.Star
import KE.KExcIs
import HandS.ExcField
import HandS.Codes
import HandS.TupSets
import KE.KDictKeyed
import KE.KDictList
import HandS.Conv
import HandS.WordsDict
import HandS.HeadHook3
import KE.KStateDown
import HandS.Ends
import HandS.Head0
import HandS.Head1
import HandS.Head2
import HandS.HeadHook1
import HandS.HeadHook2
import HandS.HeadHook4
import PySem.Challenge.RW_endonce_k07_setups_as_texts
set_option Elab.async false
set_option linter.all false
set_option maxRecDepth 100000
set_option maxHeartbeats 4000000
namespace KV
open PySem PySem.Spec PyProof.Rows L2
/-! ### heaps -/
theorem same_upd {H : Hp} {p : Addr} {o : HO} (h : H p = none) : Same H (upd H p o) := fun b x e => by
  rw [upd_ne (ne_of_none e h)]
  exact e
theorem same_seqT {K : PySem.W.Frag} {H H' : Hp} {a : Addr} {xs : List V} (e : Same H H') (h : SqT K H a xs) : SqT K H' a xs := by
  rcases h with (h | ⟨o, h⟩) | h
  · exact .inl (.inl (e _ _ h))
  · exact .inl (.inr ⟨o, e _ _ h⟩)
  · exact .inr h
mutual
theorem dp_same {K : PySem.W.Frag} {H H' : Hp} (e : Same H H') : ∀ {v : V} {d : PyData}, Dp K H v d → Dp K H' v d
  | _, _, .non => .non
  | _, _, .bl b => .bl b
  | _, _, .int i => .int i
  | _, _, .str x => .str x
  | _, _, .lst h1 h2 => .lst (e.seq h1) (dps_same e h2)
  | _, _, .tup h1 h2 => .tup (same_seqT e h1) (dps_same e h2)
theorem dps_same {K : PySem.W.Frag} {H H' : Hp} (e : Same H H') : ∀ {vs : List V} {ds : List PyData}, DpAll K H vs ds → DpAll K H' vs ds
  | _, _, .nil => .nil
  | _, _, .cons h1 h2 => .cons (dp_same e h1) (dps_same e h2)
end
theorem dps_len {K : PySem.W.Frag} {H : Hp} : ∀ {vs : List V} {ds : List PyData}, DpAll K H vs ds → vs.length = ds.length
  | _, _, .nil => rfl
  | _, _, .cons _ h => congrArg (· + 1) (dps_len h)
theorem dps_get {K : PySem.W.Frag} {H : Hp} : ∀ {vs : List V} {ds : List PyData} {i : Nat} {v : V}, DpAll K H vs ds → vs[i]? = some v → ∃ d, ds[i]? = some d ∧ Dp K H v d
  | _, _, 0, _, .cons h1 _, e => ⟨_, rfl, by cases e; exact h1⟩
  | _, _, i + 1, _, .cons _ h2, e => dps_get (i := i) h2 e
theorem dps_get' {K : PySem.W.Frag} {H : Hp} : ∀ {vs : List V} {ds : List PyData} {i : Nat} {d : PyData}, DpAll K H vs ds → ds[i]? = some d → ∃ v, vs[i]? = some v ∧ Dp K H v d
  | _, _, 0, _, .cons h1 _, e => ⟨_, rfl, by cases e; exact h1⟩
  | _, _, i + 1, _, .cons _ h2, e => dps_get' (i := i) h2 e
theorem dps_app {K : PySem.W.Frag} {H : Hp} : ∀ {vs ws : List V} {ds es : List PyData}, DpAll K H vs ds → DpAll K H ws es → DpAll K H (vs ++ ws) (ds ++ es)
  | _, _, _, _, .nil, h => h
  | _, _, _, _, .cons h1 h2, h => .cons h1 (dps_app h2 h)
theorem dps_drop {K : PySem.W.Frag} {H : Hp} : ∀ {vs : List V} {ds : List PyData} (n : Nat), DpAll K H vs ds → DpAll K H (vs.drop n) (ds.drop n)
  | _, _, 0, h => h
  | _, _, n + 1, .nil => .nil
  | _, _, n + 1, .cons _ h => dps_drop n h
theorem dps_take {K : PySem.W.Frag} {H : Hp} : ∀ {vs : List V} {ds : List PyData} (n : Nat), DpAll K H vs ds → DpAll K H (vs.take n) (ds.take n)
  | _, _, 0, _ => .nil
  | _, _, n + 1, .nil => .nil
  | _, _, n + 1, .cons h1 h => .cons h1 (dps_take n h)
/-- the heap without some objects -/
def hide (B : List Addr) (H : Hp) : Hp := fun c => if c ∈ B then none else H c
theorem hide_out {B : List Addr} {H : Hp} {c : Addr} (h : c ∉ B) : hide B H c = H c := if_neg h
theorem hide_in {B : List Addr} {H : Hp} {c : Addr} (h : c ∈ B) : hide B H c = none := if_pos h
theorem hide_some {B : List Addr} {H : Hp} {c : Addr} {o : HO} (h : hide B H c = some o) : c ∉ B ∧ H c = some o := by
  by_cases e : c ∈ B
  · rw [hide_in e] at h; cases h
  · rw [hide_out e] at h; exact ⟨e, h⟩
theorem hide_same (B : List Addr) (H : Hp) : Same (hide B H) H := fun c o h => (hide_some h).2
theorem hide_nil (H : Hp) : hide [] H = H := funext fun c => hide_out List.not_mem_nil
/-- all but these is as it was -/
def SameX (B : List Addr) (H H' : Hp) : Prop := ∀ c o, c ∉ B → H c = some o → H' c = some o
theorem SameX.refl (B : List Addr) (H : Hp) : SameX B H H := fun _ _ _ h => h
theorem SameX.trans {B : List Addr} {H H1 H2 : Hp} (h1 : SameX B H H1) (h2 : SameX B H1 H2) : SameX B H H2 := fun c o n h => h2 c o n (h1 c o n h)
theorem SameX.of {B : List Addr} {H H' : Hp} (h : Same H H') : SameX B H H' := fun c o _ e => h c o e
theorem SameX.sub {B C : List Addr} {H H' : Hp} (h : SameX B H H') (s : ∀ b ∈ B, b ∈ C) : SameX C H H' := fun c o n e => h c o (fun z => n (s c z)) e
theorem SameX.same {H H' : Hp} (h : SameX [] H H') : Same H H' := fun c o e => h c o List.not_mem_nil e
theorem SameX.hide {B C : List Addr} {H H' : Hp} (h : SameX C H H') (s : ∀ b ∈ C, b ∈ B) : Same (hide B H) (hide B H') := fun c o e => by
  obtain ⟨n, e⟩ := hide_some e
  rw [hide_out n]
  exact h c o (fun z => n (s c z)) e
theorem sameX_upd {B : List Addr} {b : Addr} {H : Hp} {o : HO} (h : b ∈ B) : SameX B H (upd H b o) := fun c z n e => by
  have k : c ≠ b := fun q => n (by rw [q]; exact h)
  rw [upd_ne k]
  exact e
/-- a new object among the hidden ones -/
theorem SameX.enter {B C : List Addr} {H H' : Hp} {D : Addr} (h : SameX (D :: C) H H') (s : ∀ b ∈ C, b ∈ B) (n : H D = none) : Same (KV.hide B H) (KV.hide (D :: B) H') := fun c o e => by
  obtain ⟨k, e⟩ := hide_some e
  have cD : c ≠ D := ne_of_none e n
  have kD : c ∉ D :: B := fun z => (List.mem_cons.mp z).elim cD k
  rw [hide_out kD]
  exact h c o (fun z => (List.mem_cons.mp z).elim cD fun z => k (s c z)) e
/-- the new object goes: what was told without it stands with it -/
theorem hide_leave {B : List Addr} {H : Hp} {D : Addr} : Same (hide (D :: B) H) (hide B H) := fun c o e => by
  obtain ⟨k, e⟩ := hide_some e
  rw [hide_out (fun z => k (List.mem_cons_of_mem _ z))]
  exact e
theorem hide_upd {B : List Addr} {p : Addr} {H : Hp} {o : HO} (n : p ∉ B) : hide B (upd H p o) = upd (hide B H) p o := by
  funext c
  by_cases e : c ∈ B
  · have k : c ≠ p := fun z => n (by rw [← z]; exact e)
    rw [hide_in e, upd_ne k, hide_in e]
  · rw [hide_out e]
    by_cases q : c = p
    · subst q
      rw [upd_same, upd_same]
    · rw [upd_ne q, upd_ne q, hide_out e]
theorem hide_upd_in {B : List Addr} {p : Addr} {H : Hp} {o : HO} (n : p ∈ B) : hide B (upd H p o) = hide B H := by
  funext c
  by_cases e : c ∈ B
  · rw [hide_in e, hide_in e]
  · have k : c ≠ p := fun z => e (by rw [z]; exact n)
    rw [hide_out e, hide_out e, upd_ne k]
/-- these stand -/
def Live (B : List Addr) (H : Hp) : Prop := ∀ b ∈ B, H b ≠ none
theorem Live.nil (H : Hp) : Live [] H := fun _ h => absurd h List.not_mem_nil
theorem Live.new {B : List Addr} {H : Hp} {p : Addr} (h : Live B H) (e : H p = none) : p ∉ B := fun z => h p z e
theorem Live.same {B : List Addr} {H H' : Hp} (h : Live B H) (s : Same H H') : Live B H' := fun b hb e => by
  cases q : H b with
  | none => exact h b hb q
  | some o => rw [s b o q] at e; cases e
theorem Live.cons {B : List Addr} {H : Hp} {D : Addr} {o : HO} (h : Live B H) (e : H D = some o) : Live (D :: B) H := fun b hb => by
  rcases List.mem_cons.mp hb with rfl | hb
  · rw [e]; exact fun z => nomatch z
  · exact h b hb
theorem Live.tail {B : List Addr} {H : Hp} {D : Addr} (h : Live (D :: B) H) : Live B H := fun b hb => h b (List.mem_cons_of_mem _ hb)
theorem Live.upd {B : List Addr} {H : Hp} {p : Addr} {o : HO} (h : Live B H) : Live B (upd H p o) := fun b hb => by
  by_cases e : b = p
  · rw [e, upd_same]; exact fun z => nomatch z
  · rw [upd_ne e]; exact h b hb
/-- the box of draws: below n draws by its third number -/
def BoxAt (H : Hp) (b : Addr) (n : Nat) : Prop := ∃ x y c : Int, H b = some (.lst [.int x, .int y, .int c]) ∧ 0 ≤ y ∧ y < 2 ^ 62 ∧ 0 ≤ c ∧ c ≤ n
theorem BoxAt.le {H : Hp} {b : Addr} {n m : Nat} (h : BoxAt H b n) (k : n ≤ m) : BoxAt H b m := by
  obtain ⟨x, y, c, h1, h2, h3, h4, h5⟩ := h
  exact ⟨x, y, c, h1, h2, h3, h4, by omega⟩
theorem BoxAt.same {H H' : Hp} {b : Addr} {n : Nat} (h : BoxAt H b n) (e : Same H H') : BoxAt H' b n := by
  obtain ⟨x, y, c, h1, h2⟩ := h
  exact ⟨x, y, c, e _ _ h1, h2⟩
theorem BoxAt.new {H : Hp} {b p : Addr} {n : Nat} (h : BoxAt H b n) (e : H p = none) : p ≠ b := by
  obtain ⟨x, y, c, h1, _⟩ := h
  exact fun z => by rw [z, h1] at e; cases e
/-! ### data -/
mutual
def tupD : PyData → PyData
  | .list xs => .tuple (tupDs xs)
  | .tuple xs => .tuple (tupDs xs)
  | .none => .none
  | .bool b => .bool b
  | .int i => .int i
  | .str s => .str s
  | .dict k => .dict k
def tupDs : List PyData → List PyData
  | [] => []
  | d :: ds => tupD d :: tupDs ds
end
mutual
def lstD : PyData → PyData
  | .list xs => .list (lstDs xs)
  | .tuple xs => .list (lstDs xs)
  | .none => .none
  | .bool b => .bool b
  | .int i => .int i
  | .str s => .str s
  | .dict k => .dict k
def lstDs : List PyData → List PyData
  | [] => []
  | d :: ds => lstD d :: lstDs ds
end
mutual
/-- no dict, at most so deep, no sequence longer than 1000 -/
def okD : PyData → Nat → Bool
  | .list xs, n => decide (0 < n) && decide (xs.length ≤ 1000) && okDs xs (n - 1)
  | .tuple xs, n => decide (0 < n) && decide (xs.length ≤ 1000) && okDs xs (n - 1)
  | .none, _ => true
  | .bool _, _ => true
  | .int _, _ => true
  | .str _, _ => true
  | .dict _, _ => false
def okDs : List PyData → Nat → Bool
  | [], _ => true
  | d :: ds, n => okD d n && okDs ds n
end
theorem tupDs_map : ∀ ds, tupDs ds = ds.map tupD
  | [] => by simp [tupDs]
  | d :: ds => by simp [tupDs, tupDs_map ds]
theorem lstDs_map : ∀ ds, lstDs ds = ds.map lstD
  | [] => by simp [lstDs]
  | d :: ds => by simp [lstDs, lstDs_map ds]
theorem tupDs_len (ds : List PyData) : (tupDs ds).length = ds.length := by rw [tupDs_map, List.length_map]
theorem lstDs_len (ds : List PyData) : (lstDs ds).length = ds.length := by rw [lstDs_map, List.length_map]
theorem okDs_all : ∀ ds n, okDs ds n = ds.all fun d => okD d n
  | [], _ => by simp [okDs]
  | d :: ds, n => by simp [okDs, okDs_all ds n]
theorem okDs_get {ds : List PyData} {n i : Nat} {d : PyData} (h : okDs ds n = true) (e : ds[i]? = some d) : okD d n = true := by
  rw [okDs_all, List.all_eq_true] at h
  exact h d (List.mem_of_getElem? e)
mutual
theorem tup_lst : ∀ d, tupD (lstD d) = tupD d
  | .list xs => by simp only [lstD, tupD, tup_lsts xs]
  | .tuple xs => by simp only [lstD, tupD, tup_lsts xs]
  | .none => by simp only [lstD]
  | .bool b => by simp only [lstD]
  | .int i => by simp only [lstD]
  | .str s => by simp only [lstD]
  | .dict k => by simp only [lstD]
theorem tup_lsts : ∀ ds, tupDs (lstDs ds) = tupDs ds
  | [] => by simp only [lstDs]
  | d :: ds => by simp only [lstDs, tupDs, tup_lst d, tup_lsts ds]
end
mutual
theorem ok_lst : ∀ d n, okD (lstD d) n = okD d n
  | .list xs, n => by simp only [lstD, okD, ok_lsts xs, lstDs_len]
  | .tuple xs, n => by simp only [lstD, okD, ok_lsts xs, lstDs_len]
  | .none, n => by simp only [lstD]
  | .bool b, n => by simp only [lstD]
  | .int i, n => by simp only [lstD]
  | .str s, n => by simp only [lstD]
  | .dict k, n => by simp only [lstD]
theorem ok_lsts : ∀ ds n, okDs (lstDs ds) n = okDs ds n
  | [], n => by simp only [lstDs]
  | d :: ds, n => by simp only [lstDs, okDs, ok_lst d, ok_lsts ds]
end
mutual
theorem ok_tup : ∀ d n, okD (tupD d) n = okD d n
  | .list xs, n => by simp only [tupD, okD, ok_tups xs, tupDs_len]
  | .tuple xs, n => by simp only [tupD, okD, ok_tups xs, tupDs_len]
  | .none, n => by simp only [tupD]
  | .bool b, n => by simp only [tupD]
  | .int i, n => by simp only [tupD]
  | .str s, n => by simp only [tupD]
  | .dict k, n => by simp only [tupD]
theorem ok_tups : ∀ ds n, okDs (tupDs ds) n = okDs ds n
  | [], n => by simp only [tupDs]
  | d :: ds, n => by simp only [tupDs, okDs, ok_tup d, ok_tups ds]
end
mutual
/-- how many sequences -/
def nodesD : PyData → Nat
  | .list xs => nodesDs xs + 1
  | .tuple xs => nodesDs xs + 1
  | .none => 0
  | .bool _ => 0
  | .int _ => 0
  | .str _ => 0
  | .dict _ => 0
def nodesDs : List PyData → Nat
  | [] => 0
  | d :: ds => nodesD d + nodesDs ds
end
theorem ok_seq {xs : List PyData} {n : Nat} {d : PyData} (hd : d = .list xs ∨ d = .tuple xs) (h : okD d n = true) : ∃ m, n = m + 1 ∧ xs.length ≤ 1000 ∧ okDs xs m = true := by
  have h' : (decide (0 < n) && decide (xs.length ≤ 1000) && okDs xs (n - 1)) = true := by
    rcases hd with rfl | rfl <;> simpa only [okD] using h
  simp only [Bool.and_eq_true, decide_eq_true_eq] at h'
  obtain ⟨⟨h1, h2⟩, h3⟩ := h'
  exact ⟨n - 1, by omega, h2, h3⟩
/-- an atom -/
def isAtom : PyData → Bool
  | .none => true
  | .bool _ => true
  | .int _ => true
  | .str _ => true
  | _ => false
def isSeq : PyData → Bool
  | .list _ => true
  | .tuple _ => true
  | _ => false
/-! ### the class of a value -/
def tyD : PyData → String
  | .none => "NoneType"
  | .bool _ => "bool"
  | .int _ => "int"
  | .str _ => "str"
  | .list _ => "list"
  | .tuple _ => "tuple"
  | .dict _ => "dict"
theorem dp_ty {K : PySem.W.Frag} {H : Hp} {v : V} {d : PyData} (h : Dp K H v d) : TyX K H v (.type (tyD d)) := by
  cases h with
  | non => exact .base .non
  | bl b => exact .base (.bl b)
  | int i => exact .base (.int i)
  | str x => exact .base (.str x)
  | lst h1 _ =>
    rcases h1 with (h | ⟨o, h⟩) | ⟨o, its, n, h, hc, _⟩
    · exact .base (.lst h)
    · exact .base (.frz h)
    · exact .kList h hc
  | tup h1 _ =>
    rcases h1 with (h | ⟨o, h⟩) | ⟨o, its, n, h, hc, _⟩
    · exact .base (.tup h)
    · exact .fTuple h
    · exact .kTuple h hc
theorem kit_lt {K : PySem.W.Frag} {a : String} {r1 r2 : Bool} (h1 : kitB a "list" = some r1) (h2 : kitB a "tuple" = some r2) : PySem.W.kitAny K (.type a) [.type "list", .type "tuple"] = some (r1 || r2) := by
  cases r1 with
  | true => exact kitAny_cons (kit_ty h1) (fun z => nomatch z) fun _ => rfl
  | false =>
    cases r2 with
    | true => exact kitAny_cons (kit_ty h1) (fun _ => kitAny_cons (kit_ty h2) (fun z => nomatch z) fun _ => rfl) fun z => nomatch z
    | false => exact kitAny_cons (kit_ty h1) (fun _ => kitAny_cons (kit_ty h2) (fun _ => kitAny_nil) fun z => nomatch z) fun z => nomatch z
theorem kit_seq {K : PySem.W.Frag} : ∀ (d : PyData), PySem.W.kitAny K (.type (tyD d)) [.type "list", .type "tuple"] = some (isSeq d)
  | .none => kit_lt (a := "NoneType") (r1 := false) (r2 := false) (by decide +kernel) (by decide +kernel)
  | .bool _ => kit_lt (a := "bool") (r1 := false) (r2 := false) (by decide +kernel) (by decide +kernel)
  | .int _ => kit_lt (a := "int") (r1 := false) (r2 := false) (by decide +kernel) (by decide +kernel)
  | .str _ => kit_lt (a := "str") (r1 := false) (r2 := false) (by decide +kernel) (by decide +kernel)
  | .list _ => kit_lt (a := "list") (r1 := true) (r2 := false) (by decide +kernel) (by decide +kernel)
  | .tuple _ => kit_lt (a := "tuple") (r1 := false) (r2 := true) (by decide +kernel) (by decide +kernel)
  | .dict _ => kit_lt (a := "dict") (r1 := false) (r2 := false) (by decide +kernel) (by decide +kernel)
theorem cls_lt : Paired ClsV [.ty "list", .ty "tuple"] [.type "list", .type "tuple"] := .cons (.ty _) (.cons (.ty _) .nil)
theorem tup_atom : ∀ {d : PyData}, isSeq d = false → tupD d = d
  | .none, _ => by simp only [tupD]
  | .bool _, _ => by simp only [tupD]
  | .int _, _ => by simp only [tupD]
  | .str _, _ => by simp only [tupD]
  | .dict _, _ => by simp only [tupD]
theorem lst_atom : ∀ {d : PyData}, isSeq d = false → lstD d = d
  | .none, _ => by simp only [lstD]
  | .bool _, _ => by simp only [lstD]
  | .int _, _ => by simp only [lstD]
  | .str _, _ => by simp only [lstD]
  | .dict _, _ => by simp only [lstD]
/-- a sequence, of either kind -/
theorem dp_seq {K : PySem.W.Frag} {H : Hp} {v : V} {d : PyData} (h : Dp K H v d) (hs : isSeq d = true) : ∃ a xs ds, v = .ref a ∧ (SqL K H a xs ∧ d = .list ds ∨ SqT K H a xs ∧ d = .tuple ds) ∧ DpAll K H xs ds := by
  cases h with
  | lst h1 h2 => exact ⟨_, _, _, rfl, .inl ⟨h1, rfl⟩, h2⟩
  | tup h1 h2 => exact ⟨_, _, _, rfl, .inr ⟨h1, rfl⟩, h2⟩
  | non => exact nomatch hs
  | bl _ => exact nomatch hs
  | int _ => exact nomatch hs
  | str _ => exact nomatch hs
theorem dps_snoc {K : PySem.W.Frag} {H : Hp} {vs : List V} {ds : List PyData} {v : V} {d : PyData} (h : DpAll K H vs ds) (h1 : Dp K H v d) : DpAll K H (vs ++ [v]) (ds ++ [d]) := dps_app h (.cons h1 .nil)
theorem take_snoc {α : Type} {l : List α} {i : Nat} {x : α} (h : l[i]? = some x) : l.take (i + 1) = l.take i ++ [x] := by
  rw [List.take_add_one, h]
  rfl
/-! ### rules -/
section
variable {X : Cx} {pos : Pos}
/-- unpacking a list or a tuple -/
def gSeq (K : PySem.W.Frag) (n : Nat) (t : TGs) : TG := fun v σ H Q => ∃ a xs, v = .ref a ∧ (SqT K H a xs ∨ SqL K H a xs) ∧ xs.length = n ∧ t xs σ H Q
theorem pg_seq {es : List Expr} {k : Nat} {t : TGs} {n : Nat} (hc : X.calm = true) (h : PGs X es t)
    (hn : (assignEach es X.env).length = n := by rfl) (hst : (assignEach es X.env).findIdx? (·.1) = none := by rfl) : PG X (.Tuple es k pos) (gSeq X.K n t) := by
  refine ⟨fun pins s σ H v u Q I r hw => ?_⟩
  obtain ⟨a, xs, e1, hq | hq, hl, hw⟩ := hw
  · exact (pg_tup hc h hn hst).run pins s σ H v u Q I r ⟨a, xs, e1, hq, hl, hw⟩
  · exact (pg_unl hc h hn hst).run pins s σ H v u Q I r ⟨a, xs, e1, hq, hl, hw⟩
/-- walking a list or a tuple -/
def iSeq (K : PySem.W.Frag) (tl : TE) : TI := fun σ H R => iList K tl σ H R ∨ iTup K tl σ H R
theorem pi_seq {tg l : Expr} {tl : TE} (hl : PE X l tl) : PI X tg l (iSeq X.K tl) := by
  refine ⟨fun pins s σ H R I h => ?_⟩
  rcases h with h | h
  · exact (pi_list hl).run pins s σ H R I h
  · exact (pi_tup hl).run pins s σ H R I h
/-- isinstance(x, (list, tuple)) of data -/
def rIsSeq (K : PySem.W.Frag) : List V → Hp → VK → Prop := fun vs H Q => ∃ v tp d, vs = [v, .ref tp] ∧ H tp = some (.tup [.ty "list", .ty "tuple"]) ∧ Dp K H v d ∧ Q (.bl (isSeq d)) H
theorem cr_isSeq : CallR X (.builtin "isinstance") (rIsSeq X.K) := by
  intro pins s σ H vs us Q I r h
  obtain ⟨v, tp, d, rfl, ht, hd, q⟩ := h
  exact call_isiT pins s σ H _ us Q I r ⟨v, tp, _, _, _, _, rfl, ht, cls_lt, dp_ty hd, kit_seq d, q⟩
/-- repr of data -/
def rRepr (K : PySem.W.Frag) : List V → Hp → VK → Prop := fun vs H Q => ∃ v d, vs = [v] ∧ (∃ a, v = .ref a) ∧ Dp K H v d ∧ d.showable = true ∧ d.hasDict = false ∧ d.depth ≤ 60 ∧ d.shown.length ≤ sizeLine ∧ Q (.str d.shown) H
theorem cr_repr (hg : X.A.guards = some []) (hu : X.A.units + 64 < cLine) : CallR X (.builtin "repr") (rRepr X.K) := by
  intro pins s σ H vs us Q I r h
  obtain ⟨v, d, rfl, ⟨a, rfl⟩, hd, hs, hn, hdp, hz, q⟩ := h
  obtain ⟨u, rfl, ru⟩ := vals1 r
  cases (show u = Value.ref a from ru)
  obtain ⟨as, rd⟩ := Dp.reads I d (.ref a) (.ref a) hd rfl
  exact repr_of_reads' rd hs (fun z => by rw [hn] at z; cases z) hg (by omega) (fun _ _ e => e) (fun h' u tk hk => ⟨.str d.shown, H, I.kept hk, ⟨_, rfl⟩, q⟩) hz
end
end KV

namespace KV
open PySem PySem.Spec PyProof.Rows L2
/-! ### promises kept where no repr is under way -/
structure FnG (P : Program) (w : World) (K : PySem.W.Frag) (mg : Str → Option Value) (base : Heap) (k : Nat) (f : Addr) (fd : FuncData) (ps : List Str) (sp : Sp) : Prop where
  size : ∀ vs H Q E, sp vs H Q E → vs.length = ps.length
  goes : ∀ (A : Around) (outer : List Env) (s : Shared) (H : Hp) (args : Args) (us : List Value) (vs : List V) (Q : VK) (E : XK), A.guards = some [] → Room k A →
    Env0 P w K mg base A outer s H → BindsTo s fd args (ps.zip us) → Vals vs us → sp vs H Q E →
    codeAny (model P w) A (.call (.ref f) args) (CR CX0 outer P w H s Q E) s
theorem FnG.of {P : Program} {w : World} {K : PySem.W.Frag} {mg : Str → Option Value} {base : Heap} {k : Nat} {f : Addr} {fd : FuncData} {ps : List Str} {sp : Sp}
    (F : FnOk P w K mg base CX0 k f fd ps sp) : FnG P w K mg base k f fd ps sp :=
  ⟨F.len, fun A o s H args us vs Q E _ hr e0 hb r h => F.run A o s H args us vs Q E hr e0 hb r h⟩
/-- a def by its body, where no repr is under way -/
theorem okG {P : Program} {w : World} {K : PySem.W.Frag} {mg : Str → Option Value} {base : Heap} {x qual : Str} {st : Stmt} {f : Addr} {fd : FuncData} {N ps : List Str} {k : Nat} {sp : Sp}
    (F : Fun K x qual st f fd) (S : FnScope N ps (defScope st)) (size : ∀ vs H Q E, sp vs H Q E → vs.length = ps.length)
    (body : ∀ (cd : Value) (A : Around) (outer : List Env) (s : Shared) (H : Hp) (vs : List V) (Q : VK) (E : XK), A.guards = some [] →
      Room k (A.deeper (envOfC qual (defScope st) s.heap.objs.size f cd)) → sp vs H Q E →
      ∃ t, PSs (cxOf CX0 P w K mg base N qual (defScope st) f cd A outer s H E).nox (defBody st) t ∧ t { nx := fun _ H' => Q .non H', rt := Q } (start N vs) H) :
    FnG P w K mg base (k + 1) f fd ps sp := by
  obtain ⟨oc, od, kV, doc, pm, an, cd, ct, osl, rfl, lk, hcd⟩ := F.ex
  refine ⟨size, fun A outer s H args us vs Q E hgd room e0 binds rv hp => ?_⟩
  have inK : K.In s.heap := e0.mod.kin.keeps fun b o z => (e0.bs b o z).1
  have noLim : s.heap.NoLimit := e0.mod.nolimit.keeps fun b o z => (e0.bs b o z).1
  refine codeAny_call_function room.depth (inK _ _ lk) rfl S.co S.gen rfl (PySem.W.codeRec_of inK hcd) (binds _ _ _ _ ?_)
  refine wpAny_newFunctionEnv_cells S.kind (fun z hz => ?_) fun env he s1 x1 => ?_
  · obtain ⟨zn, zv⟩ := z
    exact (S.par zn (List.of_mem_zip hz).1).imp id fun q => ⟨q, PySem.W.cellsFrom_some _ _ _ (.inl q)⟩
  · subst he
    refine ⟨noLim.keeps x1.toInCall.keep, codeAny_func ?_⟩
    obtain ⟨t, ht, hq⟩ := body cd A outer s H vs Q E hgd (room.deeper _) hp
    have I := inv_start (CX := CX0) (P := P) (w := w) (K := K) (mg := mg) (base := base) (E := E) S room.hd e0 (size _ _ _ _ hp) rv x1
    refine wpAny_mono (ht.nox.run [] s1 (start N vs) H _ I hq) (fun fl s' hs => ?_) fun e s' hs => hs
    cases fl with
    | ret u =>
      obtain ⟨v, σ', H', J, q1, q2⟩ := hs
      exact ⟨v, H', J.os, J.bare, J.base, J.hok, q1, q2⟩
    | next =>
      obtain ⟨σ', H', J, q2⟩ := hs
      exact ⟨V.non, H', J.os, J.bare, J.base, J.hok, rfl, q2⟩
    | brk => obtain ⟨_, _, _, z⟩ := hs; exact z.elim
    | cont => obtain ⟨_, _, _, z⟩ := hs; exact z.elim
section
variable {X : Cx} {k : Nat} {f : Addr} {fd : FuncData} {ps ks : List Str} {sp : Sp} {E : XK} {x : Str} {p pos : Pos} {e : Expr} {es : List Expr} {t tk : TA} {kws : List Keyword}
/-- f(e, ..) of such a def -/
theorem pe_callG (F : FnG X.prog X.w X.K X.mg X.base k f fd ps sp) (hgd : X.A.guards = some []) (hr : Room k X.A) (hg : Gl X x) (hm : X.mg x = some (.ref f)) (hk : PySem.W.keepIn X.K (.ref f) = true) (hb : Binds X.K fd ps [])
    (ha : PA X (e :: es) t) (hdb : (x == ("__debug__" : Str)) = false := by decide) (he : starEach (e :: es) X.env = (false, eval e X.env) :: starEach es X.env := by rfl)
    (hpl : (backTo pos (starEach es X.env)).any (·.1) = false := by rfl) : PE X (.Call (.Name x p) (e :: es) [] pos) (tCall sp [] E0 t) := by
  refine ⟨fun pins s σ H Q I h => wpAny_Call_Name_kw (ld_glob I hg hm ?_ hdb)⟩
  refine PySem.W.callWith_K (h₀ := X.base) I.ok.mod.kin hk (thn (ha.run pos pins s σ H _ I h) fun us s1 hv => ?_) he hpl
  obtain ⟨vs, H1, I1, rv, q⟩ := hv
  have q0 : sp vs H1 Q E0 := by
    have q1 : sp (vs ++ []) H1 Q E0 := q
    rw [List.append_nil] at q1
    exact q1
  refine ⟨I1.kIn, wpAny_call (codeAny_mono (F.goes X.A X.stack s1 H1 ⟨us, []⟩ us vs Q E0 hgd hr I1.env0 ?_ rv q0) fun r s' hq => ?_)⟩
  · have hb1 := hb s1 us I1.kIn (by rw [List.append_nil, ← rv.length]; exact F.size _ _ _ _ q0)
    rw [List.append_nil] at hb1
    exact hb1
  · cases r with
    | error z => exact (show False from hq).elim
    | ok fl =>
      cases fl with
      | ret u => exact I1.after hq
      | next => exact (show False from hq).elim
      | brk => exact (show False from hq).elim
      | cont => exact (show False from hq).elim
variable {g : List Value → List Value → List Value} {gV : List V → List V → List V}
/-- f(k = v, ..) without positional values -/
theorem pe_callK0 (F : FnOk X.prog X.w X.K X.mg X.base CX0 k f fd ps sp) (hr : Room k X.A) (hg : Gl X x) (hm : X.mg x = some (.ref f)) (hk : PySem.W.keepIn X.K (.ref f) = true) (hb : KBinds X.K fd ps ks g gV)
    (hkw : PK X kws tk) (hall : (backToKw pos (keywordEach kws X.env)).all (·.1.isSome) = true := by rfl) (hks : (backToKw pos (keywordEach kws X.env)).filterMap (·.1) = ks := by rfl)
    (hdb : (x == ("__debug__" : Str)) = false := by decide)
    (hpl : ((backTo pos (starEach [] X.env)).any (·.1) || (backToKw pos (keywordEach kws X.env)).any (·.1.isNone)) = false := by rfl) :
    PE X (.Call (.Name x p) [] kws pos) (tCallK sp gV E0 tNil tk) := by
  refine ⟨fun pins s σ H Q I h => wpAny_Call_Name_kw (ld_glob I hg hm ?_ hdb)⟩
  refine PySem.W.callWith_KW0 (h₀ := X.base) I.ok.mod.kin hk hall (thn (hkw.run pos pins s σ H _ I h) fun ws s2 hv => ?_) hpl
  obtain ⟨zs, H2, I2, rz, q2⟩ := hv
  refine ⟨I2.kIn, ?_⟩
  rw [hks]
  exact run_fnk (us := []) (vs := []) F hr hb pass0 I2 .nil rz q2
end
/-- one parameter, given by its name -/
theorem kb1 {K : PySem.W.Frag} {x qual : Str} {st : Stmt} {f : Addr} {fd : FuncData} {a : Str} (F : Fun K x qual st f fd)
    (h : ∀ (kV doc pm : Value) (an : Option Addr) (cdv ct u : Value), bindArgs (PySem.W.fnOf x qual (defArgs st) (defBody st) (defScope st) .none kV doc pm an cdv ct) ⟨[], [(a, u)]⟩ = pure [(a, u)] ∧
      bindArgs (PySem.W.fnOf x qual (defArgs st) (defBody st) (defScope st) .none kV doc pm an cdv ct) ⟨[u], []⟩ = pure [(a, u)]) :
    KBinds K fd [a] [a] (fun us ws => us ++ ws) (fun vs zs => vs ++ zs) := by
  obtain ⟨oc, od, kV, doc, pm, an, cdv, ct, osl, rfl, lk, hcd⟩ := F.ex
  refine ⟨fun s us ws _ hl => ?_, fun r1 r2 => r1.append r2⟩
  match us, ws, hl with
  | [], [u], _ => exact .of_eq (h kV doc pm an cdv ct u).1
  | [u], [], _ => exact .of_eq (h kV doc pm an cdv ct u).2
/-! ### the head: the law's promise at the heap behind the top -/
theorem law_goes {P : Program} {w : World} {K : PySem.W.Frag} {mg mb : Str → Option Value} {k : Nat} {fa a : Addr} {fd : FuncData} {x : Str} {sp : Sp} {s₁ : Shared} {vs : List Value} {ns : List Int}
    (inK : K.In s₁.heap) (ng : s₁.heap.Ns mainGlobals mg) (nb : s₁.heap.Ns builtinsNs mb) (nbb : ∀ y : Str, y ≠ "__name__" → mb y = bootBuiltins y) (noLim : s₁.heap.NoLimit) (noGen : s₁.gens = #[])
    (cell : s₁.heap.get? a = some { cls := .type "list", data := .seq vs.toArray }) (nums : IntsAre vs ns) (short : ns.length ≤ sizeLine) (room : Room k callerA)
    (F : ∀ base : Heap, K.In base → base.Ns mainGlobals mg → FnG P w K mg base k fa fd [x] sp) (binds : ∀ (s : Shared) (u : Value), BindsTo s fd ⟨[u], []⟩ [(x, u)])
    (asks : ∀ H : Hp, Only H → SqL K H a (ns.map V.int) → sp [.ref a] H (fun v _ => v = .bl true) fun _ _ _ => False) :
    codeAny (model P w) callerA (.call (.ref fa) ⟨[.ref a], []⟩) (fun r s' => r = .ok (.ret (.bool true)) ∧ PySem.OldK s₁.heap s'.heap ∧ s'.os = s₁.os ∧ AllBare s'.gens) s₁ := by
  have rv := vals_ints nums
  have nLen := nums.length
  -- whatever is tracked is the script alone
  have main : ∀ H : Hp, Only H → SqL K H a (ns.map V.int) → HOk P w H s₁.heap → (∀ b, H b ≠ none → b = a ∧ K.lookup a = none) →
      codeAny (model P w) callerA (.call (.ref fa) ⟨[.ref a], []⟩) (fun r s' => r = .ok (.ret (.bool true)) ∧ PySem.OldK s₁.heap s'.heap ∧ s'.os = s₁.os ∧ AllBare s'.gens) s₁ := by
    intro H only seq ok alone
    have clear : ∀ {b : Addr} {o : Obj}, s₁.heap.get? b = some o → (∀ es ep, o.data = .dict es ep → True) → (∃ es ep, o.data = Data.dict es ep) → H b = none := fun {b o} eo _ hx => by
      obtain ⟨es, ep, hd⟩ := hx
      refine Classical.byContradiction fun z => ?_
      obtain ⟨rfl, _⟩ := alone b z
      rw [cell] at eo
      cases eo
      exact nomatch (show Data.seq vs.toArray _ = Data.dict es ep from hd)
    have nsB : ∀ {b : Addr} {m : Str → Option Value}, s₁.heap.Ns b m → (hidT s₁.heap H).Ns b m := fun {b m} ⟨o, es, ep, e, d, r⟩ => ⟨o, es, ep, hidT_get e (clear e (fun _ _ _ => trivial) ⟨es, ep, d⟩), d, r⟩
    have inB : K.In (hidT s₁.heap H) := fun b o e => hidT_get (inK b o e) (Classical.byContradiction fun z => by
      obtain ⟨rfl, hn⟩ := alone b z
      rw [hn] at e
      cases e)
    have md : Mod K mg (hidT s₁.heap H) := ⟨inB, nsB ng, ⟨mb, nsB nb, nbb⟩, let ⟨mc, h1, h2⟩ := noLim; ⟨mc, nsB h1, h2⟩⟩
    have e0 : Env0 P w K mg (hidT s₁.heap H) callerA [] s₁ H := ⟨rfl, md, fun b o e => of_hidT e, Nat.le_of_eq (hidT_size _ _), trivial, fun b hb => absurd hb List.not_mem_nil, ok, .of_eq noGen⟩
    refine codeAny_mono ((F _ inB (nsB ng)).goes callerA [] s₁ H ⟨[.ref a], []⟩ [.ref a] [.ref a] _ _ rfl room e0 (binds s₁ (.ref a)) (.cons rfl .nil) (asks H only seq)) fun r s' h => ?_
    cases r with
    | error e => exact (show False from h).elim
    | ok fl =>
      cases fl with
      | next => exact (show False from h).elim
      | brk => exact (show False from h).elim
      | cont => exact (show False from h).elim
      | ret u =>
        obtain ⟨v, H', os, bare, un, ok', rr, qv⟩ := h
        cases (show v = .bl true from qv)
        cases (show u = Value.bool true from rr)
        refine ⟨rfl, PySem.OldK.of_keep fun b o e => ?_, os, bare⟩
        cases hb : H b with
        | none => exact un.keep b o e hb (by intro z; exact absurd z List.not_mem_nil) (by simp)
        | some u =>
          rcases only b with z | ⟨ob, xs, z⟩
          · rw [hb] at z
            cases z
          · have e1 := (ok b _ z).1
            have e2 := (ok' b _ (un.frzs b ob _ z)).1
            rw [e] at e1
            cases e1
            exact e2
  cases hk : K.lookup a with
  | some o =>
    have e := inK a o hk
    rw [cell] at e
    cases e
    refine main (fun _ => none) (fun _ => .inl rfl) (.inr ⟨_, vs.toArray, _, hk, rfl, rfl, rfl, ?_, by simpa using rv⟩) (fun b u z => by cases z) (fun b z => absurd rfl z)
    rw [List.size_toArray, nLen]
    exact short
  | none =>
    have at_a : ∀ {b : Addr} {z : HO}, (if b = a then some (HO.frz { cls := .type "list", data := .seq vs.toArray } (.lst (ns.map V.int))) else none) = some z → b = a ∧ z = HO.frz { cls := .type "list", data := .seq vs.toArray } (.lst (ns.map V.int)) := fun {b z} e => by
      by_cases c : b = a
      · rw [if_pos c] at e
        exact ⟨c, (Option.some.inj e).symm⟩
      · rw [if_neg c] at e
        cases e
    refine main (fun b => if b = a then some (.frz { cls := .type "list", data := .seq vs.toArray } (.lst (ns.map V.int))) else none) (fun b => ?_) (.inl (.inr ⟨_, if_pos rfl⟩)) (fun b u z => ?_) (fun b z => ⟨?_, hk⟩)
    · by_cases c : b = a
      · exact .inr ⟨_, _, if_pos c⟩
      · exact .inl (if_neg c)
    · obtain ⟨rfl, rfl⟩ := at_a z
      exact ⟨cell, by rw [List.length_map]; exact short, vs, _, rv, cell⟩
    · by_cases c : b = a
      · exact c
      · exact absurd (if_neg c) z
theorem walkG {l : PySem.W.OpenLaw} {n k : Nat} {q : Program} {loose : List Str} {XP : (Str → Option Value) → Heap → Prop} {YP : World → Heap → Prop} {d : DefRec} {K : Params → PySem.W.Frag} {sp : World → Sp} {x : Str}
    (hn : l.most = some n) (hn2 : n ≤ sizeLine) (hdf : d.params.defaults = []) (room : Room k callerA)
    (hY : ∀ (w : World) (h : Heap), YP w h → (K w.params).In h)
    (F : ∀ (w : World) (mg : Str → Option Value) (fa : Addr) (h : Heap), (K w.params).In h → h.Ns mainGlobals mg → mg d.name = some (.ref fa) →
      ∃ fd : FuncData, (∀ (s : Shared) (u : Value), BindsTo s fd ⟨[u], []⟩ [(x, u)]) ∧
        ∀ base : Heap, (K w.params).In base → base.Ns mainGlobals mg → FnG l.prog w (K w.params) mg base k fa fd [x] (sp w))
    (asks : ∀ (w : World) (H : Hp) (a : Addr) (ns : List Int), ns.length ≤ n → Only H → SqL (K w.params) H a (ns.map V.int) → sp w [.ref a] H (fun v _ => v = .bl true) fun _ _ _ => False) :
    PySem.W.WalkO q loose XP YP l.row.toRowW d [] (fun f vs => PySem.call f vs) := by
  refine Att.attach_call hn hdf fun w _ s₁ mg mb fa _ _ _ _ a vs ns G Y _ _ _ hmg hobj hints hlen hgen => ?_
  have inK := hY w _ Y
  obtain ⟨fd, hb, hF⟩ := F w mg fa _ inK G.T.g hmg
  exact law_goes inK G.T.g G.T.b G.T.builtins G.T.nolimit hgen hobj hints (Nat.le_trans hlen hn2) room hF hb fun H h1 h2 => asks w H a ns hlen h1 h2
end KV

namespace KV
open PySem PySem.Spec PyProof.Rows L2
/-! ### the text -/
def topS (i : Nat) : Stmt := PySem.Challenge.pw_endonce_k07_setups_as_texts.main.body.getD i (.Pass ⟨0, 0, 0, 0⟩)
abbrev sTake : Stmt := topS 101
section
variable {P : Program} {w : World} {K : PySem.W.Frag} {mg : Str → Option Value} {base : Heap}
/-! ### _law_take -/
def spTake : Sp := fun vs H Q _ => ∃ (b : Addr) (n : Nat) (m : Int), vs = [.ref b, .int m] ∧ 0 < m ∧ m < 2 ^ 20 ∧ BoxAt H b n ∧ n ≤ 2 ^ 40 ∧
  ∀ (r : Int) (H' : Hp), 0 ≤ r → r < m → SameX [b] H H' → BoxAt H' b (n + 1) → Q (.int r) H'
theorem sameB_upd {b : Addr} {H : Hp} {o : HO} : SameX [b] H (upd H b o) := sameX_upd (List.mem_singleton.mpr rfl)
theorem scTake : FnScope ["_law_box_here", "_law_below", "_law_found", "_law_once", "_law_odd", "_law_twice"] ["_law_box_here", "_law_below"] (defScope sTake) :=
  ⟨rfl, rfl, rfl, by decide +kernel, rfl, by decide +kernel, by decide +kernel⟩
theorem ok_take {f : Addr} {fd : FuncData} {k : Nat} (F : Fun K "_law_take" "_law_take" sTake f fd) (mi : mg "int" = none) : FnOk P w K mg base CX0 (k + 1) f fd ["_law_box_here", "_law_below"] spTake := by
  refine F.ok scTake (fun vs H Q E h => ?_) (fun cdv A outer s H vs Q E hr h => ?_)
  · obtain ⟨b, n, m, rfl, _⟩ := h
    rfl
  · obtain ⟨b, n, m, rfl, hm0, hm1, hB, hn, q⟩ := h
    obtain ⟨x, y, c, hb, hy0, hy1, hc0, hc1⟩ := hB
    refine ⟨_, pss_cons (ps_if (pt_cmpR op_gt (pe_ix ix_seq (pv 0) pe_int (fun _ _ => rfl)) pe_int (nomark _))
        (pss_cons (ps_set (i := 2) scTake.nd rfl (.inl rfl) (pe_op op_mod (pe_callTy call_int1 (by rfl) mi PyProof.Rows.boot_int (pa_cons (pe_ix ix_seq (pv 0) pe_int (fun _ _ => rfl)) pa_nil)) (pv 1)))
        (pss_cons (ps_asg (pe_op op_fdiv (pe_ix ix_seq (pv 0) pe_int (fun _ _ => rfl)) (pv 1)) (pg_sub (pv 0) pe_int set_list))
        (pss_one (ps_ret (pv 2))))) pss_nil)
      (pss_cons (ps_asg (pe_op op_add (pe_ix ix_seq (pv 0) pe_int (fun _ _ => rfl)) pe_int) (pg_sub (pv 0) pe_int set_list))
      (pss_cons (ps_set (i := 3) scTake.nd rfl (.inl rfl) (pe_op op_mod (pe_callTy call_int1 (by rfl) mi PyProof.Rows.boot_int (pa_cons (pe_op op_mul
          (pe_op op_add (pe_ix ix_seq (pv 0) pe_int (fun _ _ => rfl)) (pe_op op_mul pe_int (pe_ix ix_seq (pv 0) pe_int (fun _ _ => rfl))))
          (pe_op op_add pe_int (pe_ix ix_seq (pv 0) pe_int (fun _ _ => rfl)))) pa_nil)) pe_int))
      (pss_cons (ps_set (i := 4) scTake.nd rfl (.inl rfl) (pe_op op_add (pe_op op_mod (pe_callTy call_int1 (by rfl) mi PyProof.Rows.boot_int (pa_cons (pv 3) pa_nil)) pe_int) pe_int))
      (pss_cons (ps_set (i := 5) scTake.nd rfl (.inl rfl) (pe_op op_mod (pe_callTy call_int1 (by rfl) mi PyProof.Rows.boot_int (pa_cons (pe_op op_mul
          (pe_op op_add (pe_op op_add (pv 3) (pe_ix ix_seq (pv 0) pe_int (fun _ _ => rfl))) (pe_op op_fdiv (pe_ix ix_seq (pv 0) pe_int (fun _ _ => rfl)) pe_int)) (pv 4)) pa_nil)) pe_int))
      (pss_one (ps_ret (pe_op op_mod (pe_callTy call_int1 (by rfl) mi PyProof.Rows.boot_int (pa_cons (pe_op op_fdiv (pe_op op_mod
          (pe_callTy call_int1 (by rfl) mi PyProof.Rows.boot_int (pa_cons (pe_op op_add (pe_op op_mul (pv 5) pe_int) (pv 3)) pa_nil)) pe_int) pe_int) pa_nil)) (pv 1)))))))), ?_⟩
    refine ⟨_, rfl, .inl ⟨_, _, _, _, rfl, rfl, SqL.of hb, atI_nat (j := 0) rfl, ?_⟩⟩
    refine ⟨_, _, rfl, rfl, _, rfl, ite2 (fun e => ?_) (fun e => ?_)⟩
    · refine ⟨_, rfl, .inl ⟨_, _, _, _, rfl, rfl, SqL.of hb, atI_nat (j := 0) rfl, ?_⟩⟩
      refine .inl ⟨_, rfl, _, rfl, _, _, rfl, rfl, hm0, ?_⟩
      refine ⟨_, rfl, .inl ⟨_, _, _, _, rfl, rfl, SqL.of hb, atI_nat (j := 0) rfl, _, rfl, _, _, rfl, rfl, ⟨hm0, by omega⟩, ?_⟩⟩
      refine ⟨_, rfl, _, _, _, 0, rfl, rfl, hb, rfl, ?_⟩
      refine ⟨_, rfl, ?_⟩
      exact q _ _ (Int.emod_nonneg _ (by omega)) (Int.emod_lt_of_pos _ hm0) sameB_upd ⟨_, y, c, upd_same, hy0, hy1, hc0, by omega⟩
    · -- box[2] = box[2] + 1
      refine ⟨_, rfl, .inl ⟨_, _, _, _, rfl, rfl, SqL.of hb, atI_nat (j := 2) rfl, _, _, rfl, rfl, ?_⟩⟩
      refine ⟨_, rfl, _, _, _, 2, rfl, rfl, hb, rfl, ?_⟩
      have h1 : ∀ (u v z : Int), (upd H b (.lst [.int u, .int v, .int z])) b = some (.lst [.int u, .int v, .int z]) := fun u v z => upd_same
      show tSeq _ _ _ _ (upd H b (.lst [.int x, .int y, .int (c + 1)]))
      -- once
      refine ⟨_, rfl, .inl ⟨_, _, _, _, rfl, rfl, SqL.of (h1 _ _ _), atI_nat (j := 1) rfl, _, rfl, .inl ⟨_, _, _, _, rfl, rfl, SqL.of (h1 _ _ _), atI_nat (j := 2) rfl, _, _, rfl, rfl, .inl ⟨by decide, by decide⟩, _, _, rfl, rfl,
        _, rfl, .inl ⟨_, _, _, _, rfl, rfl, SqL.of (h1 _ _ _), atI_nat (j := 2) rfl, _, _, rfl, rfl, _, _, rfl, rfl, .inr ⟨by omega, by omega⟩, .inl ⟨_, rfl, _, _, rfl, rfl, (by show (0 : Int) < _; decide), ?_⟩⟩⟩⟩⟩
      have o0 : 0 ≤ (y + 48271 * (c + 1)) * (39373 + (c + 1)) % 2147483647 := Int.emod_nonneg _ (by decide)
      have o1 : (y + 48271 * (c + 1)) * (39373 + (c + 1)) % 2147483647 < 2147483647 := Int.emod_lt_of_pos _ (by decide)
      generalize (y + 48271 * (c + 1)) * (39373 + (c + 1)) % 2147483647 = once at o0 o1
      -- odd
      refine ⟨_, rfl, .inl ⟨_, rfl, _, _, rfl, rfl, (by show (0 : Int) < _; decide), _, _, rfl, rfl, ?_⟩⟩
      have d0 : 0 ≤ once % 40009 := Int.emod_nonneg _ (by decide)
      have d1 : once % 40009 < 40009 := Int.emod_lt_of_pos _ (by decide)
      generalize once % 40009 = odd at d0 d1
      -- twice
      refine ⟨_, rfl, _, rfl, .inl ⟨_, _, _, _, rfl, rfl, SqL.of (h1 _ _ _), atI_nat (j := 2) rfl, _, _, rfl, rfl, _, rfl, .inl ⟨_, _, _, _, rfl, rfl, SqL.of (h1 _ _ _), atI_nat (j := 1) rfl, _, _, rfl, rfl, ⟨by decide, by decide⟩, _, _, rfl, rfl,
        _, rfl, _, _, rfl, rfl, .inr ⟨by omega, by omega⟩, .inl ⟨_, rfl, _, _, rfl, rfl, (by show (0 : Int) < _; decide), ?_⟩⟩⟩⟩
      have t0 : 0 ≤ (once + (c + 1) + y / 1000003) * (odd + 7) % 2147483629 := Int.emod_nonneg _ (by decide)
      have t1 : (once + (c + 1) + y / 1000003) * (odd + 7) % 2147483629 < 2147483629 := Int.emod_lt_of_pos _ (by decide)
      generalize (once + (c + 1) + y / 1000003) * (odd + 7) % 2147483629 = twice at t0 t1
      -- the draw
      refine ⟨_, rfl, _, _, rfl, rfl, .inr ⟨by decide, by decide⟩, _, rfl, _, _, rfl, rfl, .inl ⟨_, rfl, _, _, rfl, rfl, (by show (0 : Int) < _; decide), _, _, rfl, rfl, ⟨by decide, by decide⟩, .inl ⟨_, rfl, _, rfl, _, _, rfl, rfl, hm0, ?_⟩⟩⟩
      exact q _ _ (Int.emod_nonneg _ (by omega)) (Int.emod_lt_of_pos _ hm0) sameB_upd ⟨x, y, c + 1, upd_same, hy0, hy1, by omega, by omega⟩
end
end KV

namespace KV
open PySem PySem.Spec PyProof.Rows L2
/-- pairs of two lists of one length -/
inductive All2 {α β : Type} (R : α → β → Prop) : List α → List β → Prop
  | nil : All2 R [] []
  | cons {a : α} {b : β} {as : List α} {bs : List β} : R a b → All2 R as bs → All2 R (a :: as) (b :: bs)
theorem All2.snoc {α β : Type} {R : α → β → Prop} {as : List α} {bs : List β} {a : α} {b : β} (h : All2 R as bs) (k : R a b) : All2 R (as ++ [a]) (bs ++ [b]) := by
  induction h with
  | nil => exact .cons k .nil
  | cons h1 _ ih => exact .cons h1 ih
theorem All2.fn {α β : Type} {f : α → β} : ∀ {as : List α} {bs : List β}, All2 (fun a b => b = f a) as bs → bs = as.map f
  | _, _, .nil => rfl
  | _, _, .cons h1 h2 => by rw [h1, h2.fn]; rfl
theorem SameX.live {B C : List Addr} {H H' : Hp} (h : SameX C H H') (l : Live B H) (k : ∀ b ∈ C, H' b ≠ none) : Live B H' := fun b hb e => by
  by_cases c : b ∈ C
  · exact k b c e
  · cases q : H b with
    | none => exact l b hb q
    | some o => rw [h b o c q] at e; cases e
theorem tYes_ok {σ : L2.St} {H : Hp} {R1 R2 : Hp → Prop} (h : R1 H) : tYes σ H fun b H3 => if b = true then R1 H3 else R2 H3 := by
  show (if true = true then R1 H else R2 H)
  rw [if_pos rfl]
  exact h
/-- walking data -/
def iDat (K : PySem.W.Frag) (B : List Addr) (tl : TE) : TI := fun σ H R => tl σ H fun x H1 => ∃ a xs, x = .ref a ∧ (SqL K (hide B H1) a xs ∨ SqT K (hide B H1) a xs) ∧ ∀ J G, Walk J xs.length G (YAt xs) → (∀ H2, Same (hide B H1) H2 → G H2) → R J H1
theorem pi_dat {X : Cx} {tg l : Expr} {tl : TE} (B : List Addr) (hl : PE X l tl) : PI X tg l (iDat X.K B tl) := by
  refine ⟨fun pins s σ H R I h => ?_⟩
  refine thn (hl.run pins s σ H _ I h) fun v s1 hv => ?_
  obtain ⟨x, H1, I1, r1, a, xs, rfl, hk, q⟩ := hv
  cases r1
  rcases hk with hk | hk
  · have hk1 := (hide_same B H1).seq hk
    obtain ⟨its, rv, p, hz⟩ := I1.list hk1
    refine wpAny_pyIter_list p.isList ?_
    refine ⟨s1.heap.objs.size, [s1.heap.objs.size], _, _, H1, rfl, I1.kept (t' := s1.toks) fun b o e => Heap.get?_push_of_some _ e, turn_list a _, ⟨_, Heap.get?_push_size _ rfl, rfl, rfl⟩, fun b hb => ?_, q _ _ (walk_list (xs := xs)) fun H2 h2 => h2.seq hk⟩
    cases List.mem_singleton.mp hb
    exact I1.fpOk (Nat.le_refl _) (I1.hok.fresh (Nat.le_refl _))
  · have hk1 := same_seqT (hide_same B H1) hk
    obtain ⟨its, rv, p, hz⟩ := I1.tuple hk1
    refine wpAny_pyIter_tuple (show s1.heap.IsTuple a its.toArray from p) ?_
    refine ⟨s1.heap.objs.size, [s1.heap.objs.size], _, _, H1, rfl, I1.kept (t' := s1.toks) fun b o e => Heap.get?_push_of_some _ e, turn_tuple a _, ⟨_, Heap.get?_push_size _ rfl, rfl, rfl⟩, fun b hb => ?_, q _ _ (walk_tup (xs := xs)) fun H2 h2 => same_seqT h2 hk⟩
    cases List.mem_singleton.mp hb
    exact I1.fpOk (Nat.le_refl _) (I1.hok.fresh (Nat.le_refl _))
/-- a comprehension that makes of each part of a sequence a value -/
theorem lc_dp {K : PySem.W.Frag} {J : It} {G : Hp → Prop} {xs : List V} (w : Walk J xs.length G (YAt xs)) {ds : List PyData} {B C : List Addr} {σ : L2.St} {i : Nat} {te : TE} {H1 : Hp} {D : Addr} {Qd : Hp → Prop}
    (hx : DpAll K (hide B H1) xs ds) (hB : Live B H1) (hC : ∀ b ∈ C, b ∈ B) (nD : H1 D = none) (hz : xs.length ≤ 1000) (hG : ∀ H, Same (hide B H1) H → G H)
    (Pb : Nat → Hp → Prop) (s0 : Pb 0 H1) (hSt : ∀ j H o, H D = none ∨ (∃ l, H D = some (.lst l)) → Pb j H → Pb j (upd H D o)) (hLv : ∀ j H, Pb j H → ∀ b ∈ C, H b ≠ none) (R : PyData → PyData → Prop)
    (step : ∀ (j : Nat) (x : V) (d : PyData) (H : Hp) (Q : VK), xs[j]? = some x → ds[j]? = some d → Live (D :: B) H → Pb j H → Dp K (hide (D :: B) H) x d →
      (∀ y H' d', SameX C H H' → R d d' → Dp K (hide (D :: B) H') y d' → Pb (j + 1) H' → Q y H') → te ((wipe σ [i]).set i (some x)) H Q)
    (hd : ∀ H acc ds', SameX (D :: C) H1 H → Live (D :: B) H → Pb xs.length H → H D = some (.lst acc) → DpAll K (hide (D :: B) H) acc ds' → All2 R ds ds' → Qd H) :
    ∃ W : Nat → Nat → Hp → Prop, (∃ m, W 0 m (upd H1 D (.lst []))) ∧ ∀ i' m H, W i' m H →
      (J.stop i' H ∧ Qd H) ∨ (J.go i' H ∧ ∃ Nx : Hp → Prop, (∀ H', Nx H' → ∃ m', m' < m ∧ W (i' + 1) m' H') ∧ ∀ x H', J.yld i' H x H' → gName i x (wipe σ [i]) H' fun σ2 H2 => wipe σ2 [i] = wipe σ [i] ∧ tYes σ2 H2 fun b H3 =>
        if b = true then te σ2 H3 fun y H4 => ∃ acc, H4 D = some (.lst acc) ∧ acc.length < sizeLine ∧ Nx (upd H4 D (.lst (acc ++ [y]))) else Nx H3) := by
  have nB : D ∉ B := hB.new nD
  have nC : D ∉ C := fun z => nB (hC D z)
  have hl := dps_len hx
  refine lc_it w (fun j H => SameX (D :: C) H1 H ∧ Live (D :: B) H ∧ Pb j H ∧ ∃ acc ds', H D = some (.lst acc) ∧ acc.length = j ∧ DpAll K (hide (D :: B) H) acc ds' ∧ All2 R (ds.take j) ds') ?_ (fun j H _ h => hG H ((h.1.enter hC nD).trans (hide_same _ _))) ?_ ?_
  · refine ⟨fun c o n e => ?_, Live.cons hB.upd upd_same, hSt 0 H1 _ (.inl nD) s0, [], [], upd_same, rfl, .nil, .nil⟩
    rw [upd_ne (ne_of_none e nD)]
    exact e
  · rintro j x H H' hj ⟨hs, lv, st, acc, ds', hD, hacc, ha, h2⟩ ⟨rfl, hx1⟩
    obtain ⟨d, hd1, hdp⟩ := dps_get hx hx1
    refine ⟨?_, ?_⟩
    · show wipe ((wipe σ [i]).set i (some x)) [i] = wipe σ [i]
      show ((((σ.set i none)).set i (some x)).set i none) = σ.set i none
      rw [List.set_set, List.set_set]
    · refine tYes_ok ?_
      refine step j x d _ _ hx1 hd1 lv st (dp_same (hs.enter hC nD) hdp) fun y H4 d' s4 r4 dp4 st4 => ?_
      have hD4 : H4 D = some (.lst acc) := s4 D _ nC hD
      refine ⟨acc, hD4, by rw [hacc]; exact small1000 (by omega), ?_, ?_, hSt _ _ _ (.inr ⟨_, hD4⟩) st4, acc ++ [y], ds' ++ [d'], upd_same, by rw [List.length_append, hacc]; rfl, ?_, ?_⟩
      · exact hs.trans ((s4.sub fun b hb => List.mem_cons_of_mem _ hb).trans (sameX_upd List.mem_cons_self))
      · exact Live.upd (s4.live lv (hLv _ _ st4))
      · rw [hide_upd_in List.mem_cons_self]
        exact dps_snoc (dps_same (s4.hide fun b hb => List.mem_cons_of_mem _ (hC b hb)) ha) dp4
      · rw [take_snoc hd1]
        exact h2.snoc r4
  · rintro H ⟨hs, lv, st, acc, ds', hD, hacc, ha, h2⟩
    refine hd H acc ds' hs lv st hD ha ?_
    rw [hl, List.take_length] at h2
    exact h2
/-- the same, any target -/
theorem lc_dg {K : PySem.W.Frag} {J : It} {G : Hp → Prop} {xs : List V} (w : Walk J xs.length G (YAt xs)) {ds : List PyData} {B C : List Addr} {σ : L2.St} {vs : List Nat} {g : TG} {te : TE} {H1 : Hp} {D : Addr} {Qd : Hp → Prop}
    (hx : DpAll K (hide B H1) xs ds) (hB : Live B H1) (hC : ∀ b ∈ C, b ∈ B) (nD : H1 D = none) (hz : xs.length ≤ 1000) (hG : ∀ H, Same (hide B H1) H → G H)
    (Pb : Nat → Hp → Prop) (s0 : Pb 0 H1) (hSt : ∀ j H o, H D = none ∨ (∃ l, H D = some (.lst l)) → Pb j H → Pb j (upd H D o)) (hLv : ∀ j H, Pb j H → ∀ b ∈ C, H b ≠ none) (R : PyData → PyData → Prop)
    (step : ∀ (j : Nat) (x : V) (d : PyData) (H : Hp) (Q : VK), xs[j]? = some x → ds[j]? = some d → Live (D :: B) H → Pb j H → Dp K (hide (D :: B) H) x d →
      (∀ y H' d', SameX C H H' → R d d' → Dp K (hide (D :: B) H') y d' → Pb (j + 1) H' → Q y H') → g x (wipe σ vs) H fun σ2 H2 => wipe σ2 vs = wipe σ vs ∧ te σ2 H2 Q)
    (hd : ∀ H acc ds', SameX (D :: C) H1 H → Live (D :: B) H → Pb xs.length H → H D = some (.lst acc) → DpAll K (hide (D :: B) H) acc ds' → All2 R ds ds' → Qd H) :
    ∃ W : Nat → Nat → Hp → Prop, (∃ m, W 0 m (upd H1 D (.lst []))) ∧ ∀ i' m H, W i' m H →
      (J.stop i' H ∧ Qd H) ∨ (J.go i' H ∧ ∃ Nx : Hp → Prop, (∀ H', Nx H' → ∃ m', m' < m ∧ W (i' + 1) m' H') ∧ ∀ x H', J.yld i' H x H' → g x (wipe σ vs) H' fun σ2 H2 => wipe σ2 vs = wipe σ vs ∧ tYes σ2 H2 fun b H3 =>
        if b = true then te σ2 H3 fun y H4 => ∃ acc, H4 D = some (.lst acc) ∧ acc.length < sizeLine ∧ Nx (upd H4 D (.lst (acc ++ [y]))) else Nx H3) := by
  have nB : D ∉ B := hB.new nD
  have nC : D ∉ C := fun z => nB (hC D z)
  have hl := dps_len hx
  refine lc_it w (fun j H => SameX (D :: C) H1 H ∧ Live (D :: B) H ∧ Pb j H ∧ ∃ acc ds', H D = some (.lst acc) ∧ acc.length = j ∧ DpAll K (hide (D :: B) H) acc ds' ∧ All2 R (ds.take j) ds') ?_ (fun j H _ h => hG H ((h.1.enter hC nD).trans (hide_same _ _))) ?_ ?_
  · refine ⟨fun c o n e => ?_, Live.cons hB.upd upd_same, hSt 0 H1 _ (.inl nD) s0, [], [], upd_same, rfl, .nil, .nil⟩
    rw [upd_ne (ne_of_none e nD)]
    exact e
  · rintro j x H H' hj ⟨hs, lv, st, acc, ds', hD, hacc, ha, h2⟩ ⟨rfl, hx1⟩
    obtain ⟨d, hd1, hdp⟩ := dps_get hx hx1
    have key : ∀ {A : Prop} {R1 R2 : Hp → Prop} {s2 : L2.St} {H2 : Hp}, (A ∧ tYes s2 H2 fun b H3 => if b = true then R1 H3 else R2 H3) = (A ∧ R1 H2) := fun {A R1 R2 s2 H2} => by
      show (A ∧ if true = true then R1 H2 else R2 H2) = (A ∧ R1 H2)
      rw [if_pos rfl]
    simp only [key]
    · refine step j x d _ _ hx1 hd1 lv st (dp_same (hs.enter hC nD) hdp) fun y H4 d' s4 r4 dp4 st4 => ?_
      have hD4 : H4 D = some (.lst acc) := s4 D _ nC hD
      refine ⟨acc, hD4, by rw [hacc]; exact small1000 (by omega), ?_, ?_, hSt _ _ _ (.inr ⟨_, hD4⟩) st4, acc ++ [y], ds' ++ [d'], upd_same, by rw [List.length_append, hacc]; rfl, ?_, ?_⟩
      · exact hs.trans ((s4.sub fun b hb => List.mem_cons_of_mem _ hb).trans (sameX_upd List.mem_cons_self))
      · exact Live.upd (s4.live lv (hLv _ _ st4))
      · rw [hide_upd_in List.mem_cons_self]
        exact dps_snoc (dps_same (s4.hide fun b hb => List.mem_cons_of_mem _ (hC b hb)) ha) dp4
      · rw [take_snoc hd1]
        exact h2.snoc r4
  · rintro H ⟨hs, lv, st, acc, ds', hD, hacc, ha, h2⟩
    refine hd H acc ds' hs lv st hD ha ?_
    rw [hl, List.take_length] at h2
    exact h2
end KV

namespace KV
open PySem PySem.Spec PyProof.Rows L2
def tNone : TE := fun _ _ _ => False
theorem pe_never {X : Cx} {e : Expr} : PE X e tNone := ⟨fun _ _ _ _ _ _ h => h.elim⟩
theorem nodesDs_app : ∀ (as bs : List PyData), nodesDs (as ++ bs) = nodesDs as + nodesDs bs
  | [], bs => by simp only [List.nil_append, nodesDs, Nat.zero_add]
  | a :: as, bs => by simp only [List.cons_append, nodesDs, nodesDs_app as bs, Nat.add_assoc]
theorem nodes_take {ds : List PyData} {j : Nat} {e : PyData} (h : ds[j]? = some e) : nodesDs (ds.take (j + 1)) = nodesDs (ds.take j) + nodesD e := by
  rw [take_snoc h, nodesDs_app]
  simp only [nodesDs, Nat.add_zero]
theorem nodes_le : ∀ (ds : List PyData) (j : Nat), nodesDs (ds.take j) ≤ nodesDs ds
  | [], j => by rw [List.take_nil]; exact Nat.le_refl _
  | d :: ds, 0 => by simp only [List.take_zero, nodesDs]; exact Nat.zero_le _
  | d :: ds, j + 1 => by
    have h := nodes_le ds j
    simp only [List.take_succ_cons, nodesDs]
    omega
theorem all2_len {α β : Type} {R : α → β → Prop} {as : List α} {bs : List β} (h : All2 R as bs) : as.length = bs.length := by
  induction h with
  | nil => rfl
  | cons _ _ ih => rw [List.length_cons, List.length_cons, ih]
theorem all2_tup {m : Nat} {as bs : List PyData} (h : All2 (fun e e' => tupD e' = tupD e ∧ okD e' m = true) as bs) : bs.map tupD = as.map tupD ∧ okDs bs m = true := by
  induction h with
  | nil => exact ⟨rfl, by simp only [okDs]⟩
  | cons h1 _ ih => exact ⟨by rw [List.map_cons, List.map_cons, h1.1, ih.1], by simp only [okDs, h1.2, ih.2, Bool.and_self]⟩
theorem ok_mk {ds : List PyData} {m : Nat} (h1 : ds.length ≤ 1000) (h2 : okDs ds m = true) : okD (.list ds) (m + 1) = true ∧ okD (.tuple ds) (m + 1) = true := by
  have h : (decide (0 < m + 1) && decide (ds.length ≤ 1000) && okDs ds (m + 1 - 1)) = true := by
    rw [decide_eq_true (Nat.succ_pos m), decide_eq_true h1, Nat.add_sub_cancel, h2]
    rfl
  exact ⟨by simpa only [okD] using h, by simpa only [okD] using h⟩
theorem ok_atom {d : PyData} (h : okD d 0 = true) : isSeq d = false := by
  cases d with
  | list xs => exact nomatch (show (decide (0 < 0) && decide (xs.length ≤ 1000) && okDs xs (0 - 1)) = true by simpa only [okD] using h)
  | tuple xs => exact nomatch (show (decide (0 < 0) && decide (xs.length ≤ 1000) && okDs xs (0 - 1)) = true by simpa only [okD] using h)
  | _ => rfl
theorem hide_of_same {B : List Addr} {H H' : Hp} (h : Same H H') : Same (hide B H) (hide B H') := (SameX.of h).hide (C := []) fun b hb => absurd hb List.not_mem_nil
/-- a new object, told without the hidden ones -/
theorem hide_new {B : List Addr} {H : Hp} {p : Addr} {o : HO} (lv : Live B H) (n : H p = none) : hide B (upd H p o) p = some o := by
  rw [hide_out (lv.new n), upd_same]
theorem hide_grow {B : List Addr} {H : Hp} {p : Addr} {o : HO} (lv : Live B H) (n : H p = none) : Same (hide B H) (hide B (upd H p o)) := hide_of_same (same_upd n)
section
variable {P : Program} {w : World} {K : PySem.W.Frag} {mg : Str → Option Value} {base : Heap}
/-! ### _law_lists -/
def spLists (K : PySem.W.Frag) (n : Nat) : Sp := fun vs H Q _ => ∃ (B : List Addr) (v : V) (d : PyData), vs = [v] ∧ Live B H ∧ Dp K (hide B H) v d ∧ okD d n = true ∧
  ∀ (v' : V) (H' : Hp), Same H H' → Dp K (hide B H') v' (lstD d) → Q v' H'
end
end KV

namespace KV
open PySem PySem.Spec PyProof.Rows L2 RZ
/-- isinstance(x, T), one built-in class, of data -/
def rIsOne (K : PySem.W.Frag) (n : String) : List V → Hp → VK → Prop := fun vs H Q => ∃ v d, vs = [v, .ty n] ∧ Dp K H v d ∧ ∃ b, kitB (tyD d) n = some b ∧ Q (.bl b) H
theorem cr_isOne {X : Cx} (n : String) : CallR X (.builtin "isinstance") (rIsOne X.K n) := by
  intro pins s σ H vs us Q I r h
  obtain ⟨v, d, rfl, hd, b, hb, q⟩ := h
  exact call_isi pins s σ H _ us Q I r ⟨v, .ty n, _, _, b, rfl, .ty n, dp_ty hd, kit_ty hb, q⟩
theorem kit_bs {K : PySem.W.Frag} {a : String} {r1 r2 : Bool} (h1 : kitB a "bool" = some r1) (h2 : kitB a "str" = some r2) : PySem.W.kitAny K (.type a) [.type "bool", .type "str"] = some (r1 || r2) := by
  cases r1 with
  | true => exact kitAny_cons (kit_ty h1) (fun z => nomatch z) fun _ => rfl
  | false =>
    cases r2 with
    | true => exact kitAny_cons (kit_ty h1) (fun _ => kitAny_cons (kit_ty h2) (fun z => nomatch z) fun _ => rfl) fun z => nomatch z
    | false => exact kitAny_cons (kit_ty h1) (fun _ => kitAny_cons (kit_ty h2) (fun _ => kitAny_nil) fun z => nomatch z) fun z => nomatch z
def isBS : PyData → Bool
  | .bool _ => true
  | .str _ => true
  | _ => false
theorem kit_isBS {K : PySem.W.Frag} : ∀ (d : PyData), PySem.W.kitAny K (.type (tyD d)) [.type "bool", .type "str"] = some (isBS d)
  | .none => kit_bs (a := "NoneType") (r1 := false) (r2 := false) (by decide +kernel) (by decide +kernel)
  | .bool _ => kit_bs (a := "bool") (r1 := true) (r2 := false) (by decide +kernel) (by decide +kernel)
  | .int _ => kit_bs (a := "int") (r1 := false) (r2 := false) (by decide +kernel) (by decide +kernel)
  | .str _ => kit_bs (a := "str") (r1 := false) (r2 := true) (by decide +kernel) (by decide +kernel)
  | .list _ => kit_bs (a := "list") (r1 := false) (r2 := false) (by decide +kernel) (by decide +kernel)
  | .tuple _ => kit_bs (a := "tuple") (r1 := false) (r2 := false) (by decide +kernel) (by decide +kernel)
  | .dict _ => kit_bs (a := "dict") (r1 := false) (r2 := false) (by decide +kernel) (by decide +kernel)
/-- isinstance(x, (bool, str)) of data -/
def rIsBS (K : PySem.W.Frag) : List V → Hp → VK → Prop := fun vs H Q => ∃ v tp d, vs = [v, .ref tp] ∧ H tp = some (.tup [.ty "bool", .ty "str"]) ∧ Dp K H v d ∧ Q (.bl (isBS d)) H
theorem cr_isBS {X : Cx} : CallR X (.builtin "isinstance") (rIsBS X.K) := by
  intro pins s σ H vs us Q I r h
  obtain ⟨v, tp, d, rfl, ht, hd, q⟩ := h
  exact call_isiT pins s σ H _ us Q I r ⟨v, tp, _, _, _, _, rfl, ht, .cons (.ty _) (.cons (.ty _) .nil), dp_ty hd, kit_isBS d, q⟩
theorem walk_zipT {K : PySem.W.Frag} {a b : Addr} {xs ys : List V} {n : Nat} (hn : n = min xs.length ys.length) : Walk (ItzT K a b) n (fun H => SqT K H a xs ∧ SqT K H b ys) (YPair (fun i => xs[i]?) (fun i => ys[i]?)) := by
  subst hn
  refine ⟨fun i _ hi q => ?_, fun _ q => ⟨xs, ys, q.1, q.2, by omega⟩, fun i H v H' _ q y => ?_⟩
  · have h1 : i < xs.length := by omega
    have h2 : i < ys.length := by omega
    exact ⟨xs, ys, xs[i], ys[i], q.1, q.2, by simp [h1], by simp [h2]⟩
  · obtain ⟨T, x, z, h1, h2, h3, h4, h5⟩ := y
    exact ⟨T, x, z, h1, h2, h3, h4 xs q.1, h5 ys q.2⟩
theorem rep_bls (n : Nat) : (List.replicate n true).map V.bl = List.replicate n (.bl true) := by rw [List.map_replicate]
theorem rep_all (n : Nat) : (List.replicate n true).all id = true := by
  rw [List.all_eq_true]
  intro x hx
  exact (List.mem_replicate.mp hx).2
theorem seq_len {K : PySem.W.Frag} {H : Hp} {a : Addr} {xs : List V} (h : SqL K H a xs ∨ SqT K H a xs) : True := trivial
theorem iteD {p A B : Prop} [Decidable p] (h : p) (a : A) : if decide p = true then A else B := by
  rw [decide_eq_true h]
  exact iteT a
theorem iteDN {p A B : Prop} [Decidable p] (h : ¬ p) (b : B) : if decide p = true then A else B := by
  rw [decide_eq_false h]
  exact iteF b
theorem q_true {p : Prop} [Decidable p] {Q : VK} {H : Hp} (h : p) (q : Q (.bl true) H) : Q (.bl (decide p)) H := by
  rw [decide_eq_true h]
  exact q
/-- a comprehension over two sequences of the same data, each pair found the same -/
theorem lc_same {K : PySem.W.Frag} {J : It} {G : Hp → Prop} {xs ys : List V} {n : Nat} (w : Walk J n G (YPair (fun i => xs[i]?) (fun i => ys[i]?))) {ds : List PyData} {σ : L2.St} {vs : List Nat} {te : TE} {H1 : Hp} {D : Addr} {Qd : Hp → Prop}
    (hx : DpAll K H1 xs ds) (hy : DpAll K H1 ys ds) (hn : n = xs.length) (nD : H1 D = none) (hz : n ≤ 1000) (hG : ∀ H, Same H1 H → G H) (hw : ∀ x y : V, wipe (((wipe σ vs).set 3 (some x)).set 4 (some y)) vs = wipe σ vs)
    (step : ∀ (j : Nat) (x y : V) (d : PyData) (H : Hp) (Q : VK), ds[j]? = some d → Dp K H x d → Dp K H y d → (∀ H', Same H H' → Q (.bl true) H') → te (((wipe σ vs).set 3 (some x)).set 4 (some y)) H Q)
    (hd : ∀ H, SameX [D] H1 H → H D = some (.lst ((List.replicate n true).map V.bl)) → Qd H) :
    ∃ W : Nat → Nat → Hp → Prop, (∃ m, W 0 m (upd H1 D (.lst []))) ∧ ∀ i' m H, W i' m H →
      (J.stop i' H ∧ Qd H) ∨ (J.go i' H ∧ ∃ Nx : Hp → Prop, (∀ H', Nx H' → ∃ m', m' < m ∧ W (i' + 1) m' H') ∧ ∀ x H', J.yld i' H x H' → gTup K 2 (gCons (gName 3) (gCons (gName 4) gNil)) x (wipe σ vs) H' fun σ2 H2 => wipe σ2 vs = wipe σ vs ∧ tYes σ2 H2 fun b H3 =>
        if b = true then te σ2 H3 fun y H4 => ∃ acc, H4 D = some (.lst acc) ∧ acc.length < sizeLine ∧ Nx (upd H4 D (.lst (acc ++ [y]))) else Nx H3) := by
  have base : ∀ {H : Hp}, SameX [D] H1 H → Same H1 H := fun {H} h c o e => h c o (fun z => ne_of_none e nD (List.mem_singleton.mp z)) e
  refine lc_it w (fun j H => SameX [D] H1 H ∧ H D = some (.lst ((List.replicate j true).map V.bl))) ⟨fun c o n e => ?_, upd_same⟩ (fun j H _ h => hG H (base h.1)) ?_ (fun H h => hd H h.1 h.2)
  · rw [upd_ne (ne_of_none e nD)]
    exact e
  · rintro j v H H' hj ⟨hs, hD⟩ ⟨T, x, y, rfl, nT, rfl, ex, ey⟩
    have ex : xs[j]? = some x := ex
    have ey : ys[j]? = some y := ey
    obtain ⟨d, ed, dx⟩ := dps_get hx ex
    obtain ⟨d2, ed2, dy⟩ := dps_get hy ey
    have e12 : d2 = d := Option.some.inj (ed2.symm.trans ed)
    subst e12
    have sT := same_upd (o := HO.tup [x, y]) nT
    have s2 := (base hs).trans sT
    refine ⟨T, [x, y], rfl, SqT.of upd_same, rfl, x, [y], rfl, y, [], rfl, rfl, hw x y, tYes_ok (step j x y d2 _ _ ed (dp_same s2 dx) (dp_same s2 dy) fun H4 s4 => ?_)⟩
    have hD4 : H4 D = some (.lst ((List.replicate j true).map V.bl)) := s4 _ _ (sT _ _ hD)
    refine ⟨_, hD4, by rw [List.length_map, List.length_replicate]; exact small1000 (by omega), fun c o nc e => ?_, ?_⟩
    · rw [upd_ne (fun z => nc (List.mem_singleton.mpr z))]
      exact s4 _ _ (sT _ _ (hs c o nc e))
    · rw [upd_same, List.replicate_succ', List.map_append]
      rfl
abbrev sSame : Stmt := topS 109
abbrev sBox : Stmt := topS 119
section
variable {P : Program} {w : World} {K : PySem.W.Frag} {mg : Str → Option Value} {base : Heap}
theorem none_ok {f : Addr} {fd : FuncData} {ps : List Str} {sp : Sp} (no : ∀ vs H Q E, ¬ sp vs H Q E) : FnOk P w K mg base CX0 0 f fd ps sp :=
  ⟨fun vs H Q E h => absurd h (no vs H Q E), fun A outer s H args us vs Q E _ _ _ _ h => absurd h (no vs H Q E)⟩
/-! ### _law_same, of what is the same -/
def spSame (K : PySem.W.Frag) (N : Nat) : Sp := fun vs H Q _ => ∃ (n : Nat) (v u : V) (d : PyData), N = n + 1 ∧ vs = [v, u] ∧ Dp K H v d ∧ Dp K H u d ∧ okD d n = true ∧ ∀ (H' : Hp), Same H H' → Q (.bl true) H'
theorem scSame : FnScope ["_law_found", "_law_due", "_law_alike", "_law_mine", "_law_its"] ["_law_found", "_law_due"] (defScope sSame) :=
  ⟨rfl, rfl, rfl, by decide +kernel, rfl, by decide +kernel, by decide +kernel⟩
theorem ok_same {f : Addr} {fd : FuncData} (F : Fun K "_law_same" "_law_same" sSame f fd) (bF : Binds K fd ["_law_found", "_law_due"] []) (mF : mg "_law_same" = some (.ref f)) (mi : mg "isinstance" = none) (ml : mg "list" = none) (mt : mg "tuple" = none)
    (me : mg "len" = none) (ma : mg "all" = none) (mz : mg "zip" = none) (mb : mg "bool" = none) (ms : mg "str" = none) (mn : mg "int" = none) :
    ∀ N : Nat, FnOk P w K mg base CX0 N f fd ["_law_found", "_law_due"] (spSame K N) := by
  intro N
  induction N with
  | zero =>
    refine none_ok fun vs H Q E h => ?_
    obtain ⟨n, _, _, _, h, _⟩ := h
    omega
  | succ N ih =>
    refine F.ok scSame (fun vs H Q E h => ?_) (fun cdv A outer s H vs Q E hr h => ?_)
    · obtain ⟨n, v, u, d, _, rfl, _⟩ := h
      rfl
    · obtain ⟨n, v, u, d, hN, rfl, hv, hu, hok, q⟩ := h
      have eN : N = n := by omega
      subst eN
      refine ⟨_, pss_cons (ps_if (pt_val (pe_callB cr_isSeq (by rfl) mi boot_isinstance (pa_cons (pv 1) (pa_cons (pe_tup (pa_cons (pe_bltn (v := .ty "list") (by rfl) ml (by decide +kernel) rfl) (pa_cons (pe_bltn (v := .ty "tuple") (by rfl) mt (by decide +kernel) rfl) pa_nil))) pa_nil))))
          (pss_cons (ps_if (PW.pt (pw_or (pt_cmpR op_ne (pe_callB (cr_isOne "list") (by rfl) mi boot_isinstance (pa_cons (pv 0) (pa_cons (pe_bltn (v := .ty "list") (by rfl) ml (by decide +kernel) rfl) pa_nil))) (pe_callB (cr_isOne "list") (by rfl) mi boot_isinstance (pa_cons (pv 1) (pa_cons (pe_bltn (v := .ty "list") (by rfl) ml (by decide +kernel) rfl) pa_nil))) (nomark _))
              (pw_or1 (pt_cmpR op_ne (pe_callB (cr_isOne "tuple") (by rfl) mi boot_isinstance (pa_cons (pv 0) (pa_cons (pe_bltn (v := .ty "tuple") (by rfl) mt (by decide +kernel) rfl) pa_nil))) (pe_callB (cr_isOne "tuple") (by rfl) mi boot_isinstance (pa_cons (pv 1) (pa_cons (pe_bltn (v := .ty "tuple") (by rfl) mt (by decide +kernel) rfl) pa_nil))) (nomark _)))))
            (pss_one (ps_ret pe_bl)) pss_nil)
          (pss_one (ps_ret (pe_and (pe_cmpR op_eq (pe_callB call_len_seq (by rfl) me PySem.boot_len (pa_cons (pv 0) pa_nil)) (pe_callB call_len_seq (by rfl) me PySem.boot_len (pa_cons (pv 1) pa_nil)) (nomark _))
            (pe_one (pe_callB (cr_all rfl) (by rfl) ma boot_all (pa_cons
              (pe_lc (own := [("_law_mine", 3), ("_law_its", 4)]) (g := gTup K 2 (gCons (gName 3) (gCons (gName 4) gNil))) (tt := tYes) rfl scSame.nd (pi_zipA (by rfl) mz (pa_cons (pv 0) (pa_cons (pv 1) pa_nil)))
                (blkOk_by (N := ["_law_found", "_law_due", "_law_alike", "_law_mine", "_law_its"]) (sc := defScope sSame) (by decide +kernel))
                (fun _ _ _ _ _ => pg_tup rfl (pgs_cons (pg_name (i := 3) scSame.nd rfl (.inl rfl)) (pgs_cons (pg_name (i := 4) scSame.nd rfl (.inl rfl)) pgs_nil))) (fun _ _ _ _ _ => pts_nil)
                (fun _ _ _ _ _ => pe_call ih hr (by rfl) mF F.kp bF .nil pass0 (pa_cons (pv 3) (pa_cons (pv 4) pa_nil)))) pa_nil))))))) pss_nil)
        (pss_cons (ps_if (PW.pt (pw_or (pt_cmpR op_isN (pv 1) pe_non (nomark _)) (pw_or1 (pt_val (pe_callB cr_isBS (by rfl) mi boot_isinstance (pa_cons (pv 1) (pa_cons (pe_tup (pa_cons (pe_bltn (v := .ty "bool") (by rfl) mb (by decide +kernel) rfl) (pa_cons (pe_bltn (v := .ty "str") (by rfl) ms (by decide +kernel) rfl) pa_nil))) pa_nil)))))))
          (pss_cons (ps_set (i := 2) scSame.nd rfl (.inl rfl) (pe_and
              (pe_cmpR op_eq (pe_callB (cr_isOne "bool") (by rfl) mi boot_isinstance (pa_cons (pv 0) (pa_cons (pe_bltn (v := .ty "bool") (by rfl) mb (by decide +kernel) rfl) pa_nil))) (pe_callB (cr_isOne "bool") (by rfl) mi boot_isinstance (pa_cons (pv 1) (pa_cons (pe_bltn (v := .ty "bool") (by rfl) mb (by decide +kernel) rfl) pa_nil))) (nomark _))
              (pe_one (pe_cmpR op_eq (pe_cmpR op_isN (pv 0) pe_non (nomark _)) (pe_cmpR op_isN (pv 1) pe_non (nomark _)) (nomark _)))))
            (pss_one (ps_ret (pe_and (pe_cmpR op_eq (pv 0) (pv 1) (nomark _)) (pe_one (pv 2))))))
          pss_nil)
        (pss_one (ps_ret (pe_and (pe_callB (cr_isOne "int") (by rfl) mi boot_isinstance (pa_cons (pv 0) (pa_cons (pe_bltn (v := .ty "int") (by rfl) mn (by decide +kernel) rfl) pa_nil)))
          (pe_and (pe_not (pe_callB (cr_isOne "bool") (by rfl) mi boot_isinstance (pa_cons (pv 0) (pa_cons (pe_bltn (v := .ty "bool") (by rfl) mb (by decide +kernel) rfl) pa_nil))))
          (pe_one (pe_cmpR op_eq (pv 0) (pv 1) (nomark _)))))))), ?_⟩
      refine ⟨_, rfl, by show 2 ≤ sizeLine; decide, fun t nt => ⟨_, _, d, rfl, upd_same, dp_same (same_upd nt) hu, _, rfl, ?_⟩⟩
      have s1 : Same H (upd H t (.tup [.ty "list", .ty "tuple"])) := same_upd nt
      replace hv := dp_same s1 hv
      replace hu := dp_same s1 hu
      generalize upd H t (.tup [.ty "list", .ty "tuple"]) = H1 at s1 hv hu
      cases hv with
      | non =>
        cases hu
        have hv : ∀ {H2 : Hp}, Dp K H2 .non .none := .non
        refine iteF ⟨_, rfl, rfl, _, rfl, iteD rfl (iteT ?_)⟩
        refine ⟨_, rfl, ⟨_, _, rfl, hv, false, (show kitB "NoneType" "bool" = some false by decide +kernel), _, rfl, ⟨_, _, rfl, hv, false, (show kitB "NoneType" "bool" = some false by decide +kernel), rfl, _, rfl, iteD rfl ?_⟩⟩⟩
        refine ⟨_, rfl, rfl, _, rfl, rfl, rfl, ?_⟩
        exact ⟨_, rfl, _, rfl, rfl, _, rfl, iteD rfl ⟨_, rfl, q_true rfl (q _ s1)⟩⟩
      | bl c =>
        cases hu
        have hv : ∀ {H2 : Hp}, Dp K H2 (.bl c) (.bool c) := .bl c
        refine iteF ⟨_, rfl, rfl, _, rfl, iteDN (fun z => nomatch z) ?_⟩
        refine ⟨_, rfl, by show 2 ≤ sizeLine; decide, fun t2 nt2 => ⟨_, _, _, rfl, upd_same, hv, _, rfl, iteT ?_⟩⟩
        refine ⟨_, rfl, ⟨_, _, rfl, hv, true, (show kitB "bool" "bool" = some true by decide +kernel), _, rfl, ⟨_, _, rfl, hv, true, (show kitB "bool" "bool" = some true by decide +kernel), rfl, _, rfl, iteD rfl ?_⟩⟩⟩
        refine ⟨_, rfl, rfl, _, rfl, rfl, rfl, ?_⟩
        exact ⟨_, rfl, _, rfl, rfl, _, rfl, iteD rfl ⟨_, rfl, q_true rfl (q _ (s1.trans (same_upd nt2)))⟩⟩
      | int c =>
        cases hu
        have hv : ∀ {H2 : Hp}, Dp K H2 (.int c) (.int c) := .int c
        refine iteF ⟨_, rfl, rfl, _, rfl, iteDN (fun z => nomatch z) ?_⟩
        refine ⟨_, rfl, by show 2 ≤ sizeLine; decide, fun t2 nt2 => ⟨_, _, _, rfl, upd_same, hv, _, rfl, iteF ?_⟩⟩
        refine ⟨_, rfl, ⟨_, _, rfl, hv, true, (show kitB "int" "int" = some true by decide +kernel), _, rfl, iteT ⟨_, rfl, ⟨_, _, rfl, hv, false, (show kitB "int" "bool" = some false by decide +kernel), _, rfl, _, rfl, iteT ⟨_, rfl, _, rfl, rfl, q_true rfl (q _ (s1.trans (same_upd nt2)))⟩⟩⟩⟩⟩
      | str c =>
        cases hu
        have hv : ∀ {H2 : Hp}, Dp K H2 (.str c) (.str c) := .str c
        refine iteF ⟨_, rfl, rfl, _, rfl, iteDN (fun z => nomatch z) ?_⟩
        refine ⟨_, rfl, by show 2 ≤ sizeLine; decide, fun t2 nt2 => ⟨_, _, _, rfl, upd_same, hv, _, rfl, iteT ?_⟩⟩
        refine ⟨_, rfl, ⟨_, _, rfl, hv, false, (show kitB "str" "bool" = some false by decide +kernel), _, rfl, ⟨_, _, rfl, hv, false, (show kitB "str" "bool" = some false by decide +kernel), rfl, _, rfl, iteD rfl ?_⟩⟩⟩
        refine ⟨_, rfl, rfl, _, rfl, rfl, rfl, ?_⟩
        exact ⟨_, rfl, _, rfl, rfl, _, rfl, iteD rfl ⟨_, rfl, q_true rfl (q _ (s1.trans (same_upd nt2)))⟩⟩
      | lst h1 h2 =>
        rename_i a xs ds
        cases hu with
        | lst g1 g2 =>
        rename_i a' ys
        obtain ⟨m, hm, hlen, hok2⟩ := ok_seq (xs := ds) (.inl rfl) hok
        have l1 := dps_len h2
        have l2 := dps_len g2
        have hv : Dp K H1 (.ref a) _ := .lst h1 h2
        have hu : Dp K H1 (.ref a') _ := .lst g1 g2
        refine iteT ⟨_, rfl, ⟨_, _, rfl, hv, true, (show kitB "list" "list" = some true by decide +kernel), _, rfl, ⟨_, _, rfl, hu, true, (show kitB "list" "list" = some true by decide +kernel), rfl, _, rfl, iteNS rfl ?_⟩⟩⟩
        refine ⟨_, rfl, ⟨_, _, rfl, hv, false, (show kitB "list" "tuple" = some false by decide +kernel), _, rfl, ⟨_, _, rfl, hu, false, (show kitB "list" "tuple" = some false by decide +kernel), rfl, _, rfl, iteNS rfl ?_⟩⟩⟩
        refine ⟨_, rfl, _, xs, rfl, .inl h1, _, rfl, _, ys, rfl, .inl g1, rfl, _, rfl, iteD (by rw [l1, l2]) ?_⟩
        refine ⟨_, rfl, _, rfl, a, a', xs, ys, rfl, .inl ⟨h1, g1, fun D nD => lc_same (walk_zip (n := xs.length) (by omega)) h2 g2 rfl nD (by omega) (fun H2 s2 => ⟨Same.seq s2 h1, Same.seq s2 g1⟩) (fun _ _ => rfl)
          (fun j x y e H2 Q2 he dx dy k2 => ⟨_, rfl, _, rfl, m, x, y, e, by omega, rfl, dx, dy, okDs_get hok2 he, k2⟩) fun H2 s2 hD2 => ⟨D, List.replicate xs.length true, rfl, SqL.of hD2, ?_⟩⟩⟩
        rw [rep_all]
        exact q _ (s1.trans fun c o e => s2 c o (fun z => ne_of_none e nD (List.mem_singleton.mp z)) e)
      | tup h1 h2 =>
        rename_i a xs ds
        cases hu with
        | tup g1 g2 =>
        rename_i a' ys
        obtain ⟨m, hm, hlen, hok2⟩ := ok_seq (xs := ds) (.inr rfl) hok
        have l1 := dps_len h2
        have l2 := dps_len g2
        have hv : Dp K H1 (.ref a) _ := .tup h1 h2
        have hu : Dp K H1 (.ref a') _ := .tup g1 g2
        refine iteT ⟨_, rfl, ⟨_, _, rfl, hv, false, (show kitB "tuple" "list" = some false by decide +kernel), _, rfl, ⟨_, _, rfl, hu, false, (show kitB "tuple" "list" = some false by decide +kernel), rfl, _, rfl, iteNS rfl ?_⟩⟩⟩
        refine ⟨_, rfl, ⟨_, _, rfl, hv, true, (show kitB "tuple" "tuple" = some true by decide +kernel), _, rfl, ⟨_, _, rfl, hu, true, (show kitB "tuple" "tuple" = some true by decide +kernel), rfl, _, rfl, iteNS rfl ?_⟩⟩⟩
        refine ⟨_, rfl, _, xs, rfl, .inr h1, _, rfl, _, ys, rfl, .inr g1, rfl, _, rfl, iteD (by rw [l1, l2]) ?_⟩
        refine ⟨_, rfl, _, rfl, a, a', xs, ys, rfl, .inr ⟨h1, g1, fun D nD => lc_same (walk_zipT (n := xs.length) (by omega)) h2 g2 rfl nD (by omega) (fun H2 s2 => ⟨same_seqT s2 h1, same_seqT s2 g1⟩) (fun _ _ => rfl)
          (fun j x y e H2 Q2 he dx dy k2 => ⟨_, rfl, _, rfl, m, x, y, e, by omega, rfl, dx, dy, okDs_get hok2 he, k2⟩) fun H2 s2 hD2 => ⟨D, List.replicate xs.length true, rfl, SqL.of hD2, ?_⟩⟩⟩
        rw [rep_all]
        exact q _ (s1.trans fun c o e => s2 c o (fun z => ne_of_none e nD (List.mem_singleton.mp z)) e)
end
end KV

namespace KV
open PySem PySem.Spec PyProof.Rows L2 RZ
section
variable {P : Program} {w : World} {K : PySem.W.Frag} {mg : Str → Option Value} {base : Heap}
/-! ### _law_box -/
def spBox (K : PySem.W.Frag) : Sp := fun vs H Q _ => ∃ (a : Addr) (ns : List Int) (k : Nat), vs = [.ref a, .int k] ∧ SqL K H a (ns.map V.int) ∧ k < 10 ∧ ns.length ≤ 63 ∧
  ∀ (p : Addr) (H' : Hp), Same H H' → H p = none → BoxAt H' p 0 → Q (.ref p) H'
theorem scBox : FnScope ["_law_script", "_law_k", "_law_cell"] ["_law_script", "_law_k"] (defScope sBox) :=
  ⟨rfl, rfl, rfl, by decide +kernel, rfl, by decide +kernel, by decide +kernel⟩
theorem ok_box {f : Addr} {fd : FuncData} {k : Nat} (F : Fun K "_law_box" "_law_box" sBox f fd) (mi : mg "int" = none) (me : mg "len" = none) (mb : mg "abs" = none) : FnOk P w K mg base CX0 (k + 1) f fd ["_law_script", "_law_k"] (spBox K) := by
  refine F.ok scBox (fun vs H Q E h => ?_) (fun cdv A outer s H vs Q E hr h => ?_)
  · obtain ⟨a, ns, k, rfl, _⟩ := h
    rfl
  · obtain ⟨a, ns, k, rfl, hS, hk, hl, q⟩ := h
    refine ⟨_, pss_cons (ps_set (i := 2) scBox.nd rfl (.inl rfl) (pe_ifExp (pt_cmpR op_lt (pv 1) (pe_callB call_len_seq (by rfl) me PySem.boot_len (pa_cons (pv 0) pa_nil)) (nomark _)) (pe_ix ix_seq (pv 0) (pv 1) (fun _ _ => rfl)) pe_int))
      (pss_one (ps_ret (pe_lst (pa_cons (pe_op op_mul (pe_callB call_abs (by rfl) mb boot_abs (pa_cons (pv 2) pa_nil)) (pe_callTy call_int1 (by rfl) mi PyProof.Rows.boot_int (pa_cons (pe_cmpR op_ge (pe_callB call_abs (by rfl) mb boot_abs (pa_cons (pv 2) pa_nil)) (pe_op op_pow pe_int pe_int) (nomark _)) pa_nil)))
        (pa_cons (pe_op op_add (pe_op op_add (pe_op op_mod (pe_callTy call_int1 (by rfl) mi PyProof.Rows.boot_int (pa_cons (pv 2) pa_nil)) pe_int) (pe_op op_mul pe_int (pv 1))) pe_int) (pa_cons pe_int pa_nil)))))), ?_⟩
    -- the cell
    refine ⟨_, rfl, _, rfl, a, _, rfl, .inl hS, _, _, rfl, rfl, _, rfl, ite2 (fun e => ?_) (fun e => ?_)⟩
    · have e1 : k < ns.length := by
        have e2 := of_decide_eq_true e
        rw [List.length_map] at e2
        omega
      refine ⟨_, rfl, _, rfl, .inl ⟨a, _, k, .int ns[k], rfl, rfl, hS, atI_nat (by rw [List.getElem?_map, List.getElem?_eq_getElem e1]; rfl), ?_⟩⟩
      generalize ns[k] = c
      refine ⟨_, rfl, _, rfl, _, rfl, _, rfl, _, _, rfl, rfl, ⟨by decide, by decide, by decide⟩, _, _, rfl, rfl, .inr ⟨_, rfl, _, _, rfl, rfl, .inr ?_, _, rfl, .inl ⟨_, rfl, _, _, rfl, rfl, (by show (0 : Int) < _; decide), _, rfl, _, _, rfl, rfl, .inl ⟨by decide, by decide⟩, _, _, rfl, rfl, _, _, rfl, rfl, by show 3 ≤ sizeLine; decide, fun p np => q p _ (same_upd np) np ⟨_, _, _, upd_same, ?_, ?_, by decide, by decide⟩⟩⟩⟩
      · cases decide ((10 : Int) ^ (18 : Int).toNat ≤ if c < 0 then -c else c) <;> exact ⟨by decide, by decide⟩
      · have h1 : 0 ≤ c % 2305843009213693951 := Int.emod_nonneg _ (by decide)
        omega
      · have h2 : c % 2305843009213693951 < 2305843009213693951 := Int.emod_lt_of_pos _ (by decide)
        omega
    · refine ?_
      have c : Int := 0
      refine ⟨_, rfl, _, rfl, _, rfl, _, rfl, _, _, rfl, rfl, ⟨by decide, by decide, by decide⟩, _, _, rfl, rfl, .inr ⟨_, rfl, _, _, rfl, rfl, .inr ?_, _, rfl, .inl ⟨_, rfl, _, _, rfl, rfl, (by show (0 : Int) < _; decide), _, rfl, _, _, rfl, rfl, .inl ⟨by decide, by decide⟩, _, _, rfl, rfl, _, _, rfl, rfl, by show 3 ≤ sizeLine; decide, fun p np => q p _ (same_upd np) np ⟨_, _, _, upd_same, ?_, ?_, by decide, by decide⟩⟩⟩⟩
      · cases decide ((10 : Int) ^ (18 : Int).toNat ≤ if c < 0 then -c else c) <;> exact ⟨by decide, by decide⟩
      · have h1 : 0 ≤ c % 2305843009213693951 := Int.emod_nonneg _ (by decide)
        omega
      · have h2 : c % 2305843009213693951 < 2305843009213693951 := Int.emod_lt_of_pos _ (by decide)
        omega
end
end KV

namespace KV
open PySem PySem.Spec PyProof.Rows L2 PySem.Froz
/-! ### a set of texts -/
def TxSet (P : Program) (w : World) (h : Heap) (a : Addr) (l : List Str) : Prop :=
  ∃ D : SD, h.get? a = some (sObj "set" D) ∧ TxOk P w D l ∧ l.Nodup ∧ l.length < scanBound ∧ Ris D.2.2.place.toList ∧ (w.params.followText "set-order" = true ∨ D.2.2.led = true)
section
variable {P : Program} {w : World} {A : Around} {E : Value → Shared → Prop} {s : Shared} {a : Addr} {l : List Str}
theorem TxSet.keep {h h' : Heap} (R : TxSet P w h a l) (k : ∀ o, h.get? a = some o → h'.get? a = some o) : TxSet P w h' a l := by
  obtain ⟨D, e, z⟩ := R
  exact ⟨D, k _ e, z⟩
theorem TxSet.live {h : Heap} (R : TxSet P w h a l) : a < h.objs.size := by
  obtain ⟨D, e, _⟩ := R
  exact Heap.lt_size e
theorem tail_ris {ep : Nat} {es : Array (Int × Value)} {t : SetTable} {b : Bool} (r : Ris t.place.toList) : Ris (tailTx ep es t b).2.2.place.toList := by
  unfold tailTx
  split
  · exact relayAll_ris _ _ _
  · exact r
theorem tail_led {ep : Nat} {es : Array (Int × Value)} {t : SetTable} {b : Bool} : (tailTx ep es t b).2.2.led = t.led := by
  unfold tailTx
  split
  · exact relayAll_led _ _ _
  · rfl
theorem addTx_ris {h : Int} {v : Value} {D : SD} (r : Ris D.2.2.place.toList) : Ris (addTx h v D).2.2.place.toList := by
  have q := layNew_ris D.2.2 D.1 h v r
  exact tail_ris (by split <;> exact q)
theorem addTx_led {h : Int} {v : Value} {D : SD} : (addTx h v D).2.2.led = D.2.2.led := by
  have q := layNew_led D.2.2 D.1 h v
  refine Eq.trans tail_led ?_
  split <;> exact q
theorem tx_add {k : Str} {u : Tok} {Q : Bool → Shared → Prop} (R : TxSet P w s.heap a l) (room : l.length + 1 < scanBound)
    (hQ : ∀ (b : Bool) (h' : Heap) (l' : List Str), Heap.SameBut a s.heap h' → TxSet P w h' a l' → (∀ x, x ∈ l' ↔ x = k ∨ x ∈ l) → l'.length ≤ l.length + 1 → Q b { s with heap := h' }) :
    wpAny (model P w) A (setAddHashed a (.str k u) (hashStr w k)) Q E s := by
  obtain ⟨D, ho, F, nd, hb, hr, hl⟩ := R
  by_cases hk : k ∈ l
  · obtain ⟨es, ep, t⟩ := D
    have hkey : (strKind P w).is k (.str k u) = true := is_str k u
    have hsm : es.size < scanBound := by
      have e : es.size = l.length := F.sz
      omega
    unfold setAddHashed setAddHashedIn
    refine wpAny_holding (wpAny_bind (wpAny_setState_of (o := sObj "set" (es, ep, t)) ho rfl F.fit ?_))
    dsimp only
    rw [byScan_of (x := Value.str k u) rfl hsm F.el]
    simp only [↓reduceIte]
    unfold setAddByScan
    refine wpAny_bind (wpAny_bind (wpAny_rule (wpAny_bind (wpAny_setScan_of (knd := strKind P w) (k := k) (o := sObj "set" (es, ep, t)) hkey ho rfl F.fit F.el ?_))))
    cases hf : List.findIdx? (fun e => (strKind P w).is k e.2) es.toList with
    | some j => exact wpAny_pure (wpAny_pure (hQ _ s.heap l (Heap.SameBut.refl a s.heap) ⟨_, ho, F, nd, hb, hr, hl⟩ (fun x => ⟨.inr, fun z => z.elim (fun e => e ▸ hk) id⟩) (Nat.le_succ _)))
    | none =>
      obtain ⟨e, he, q⟩ := (F.mem k).mp hk
      have c := List.findIdx?_eq_none_iff.mp hf e he
      rw [q] at c
      cases c
  · refine add_x ho F hk room (hQ true _ (k :: l) (Heap.SameBut.update s.heap a _) ⟨_, get_upd _ ho rfl, add_ok u F, List.nodup_cons.mpr ⟨hk, nd⟩, room, addTx_ris hr, ?_⟩ (fun x => List.mem_cons) (Nat.le_refl _))
    exact hl.imp id fun z => addTx_led.trans z
theorem tx_fresh {h : Heap} (ho : h.get? a = some { cls := .type "set", dict := none, data := .set #[] 0 (.fresh 0 0 (!w.params.followText "set-order")) }) : TxSet P w h a [] := by
  refine ⟨(#[], 0, .fresh 0 0 (!w.params.followText "set-order")), ho, TxOk.nil rfl, List.nodup_nil, by decide, List.Pairwise.nil, ?_⟩
  cases e : w.params.followText "set-order" with
  | true => exact .inl rfl
  | false => exact .inr rfl
/-- set.update of a walk over texts -/
theorem tx_loop {I : Addr} {fp wr : List Addr} {G : Array GenState → Array GenState → Prop} {n : Nat} {Pv : Nat → Value → Prop} {St : Nat → Shared → Prop} {R : Result → Shared → Prop}
    (W : WalksS P w A.in1 I fp wr G n Pv St) (hf : a ∉ fp) (xs : List Str) (hn : n = xs.length) (hb : xs.length + 1 < scanBound) (hval : ∀ i v, Pv i v → ∃ k t, xs[i]? = some k ∧ v = .str k t) :
    ∀ (m i : Nat) (s : Shared), n = i + m → St i s → (∃ l, l.length ≤ i ∧ (∀ x, x ∈ l ↔ x ∈ xs.take i) ∧ TxSet P w s.heap a l) →
      (∀ s' l, Moved (a :: wr) G s s' → l.length ≤ n → (∀ x, x ∈ l ↔ x ∈ xs) → TxSet P w s'.heap a l → R (.ok (.ret .none)) s') →
      codeAny (model P w) A (.builtin "set.update.loop" ⟨[.ref a, .ref I], []⟩) R s := by
  have ha : a ∉ wr := fun z => hf (W.sub _ z)
  intro m
  induction m with
  | zero =>
    rintro i s en st ⟨l, hl, hm, hS⟩ fin
    have ei : i = n := by omega
    subst ei
    have all : xs.take i = xs := List.take_of_length_le (Nat.le_of_eq hn.symm)
    rw [all] at hm
    refine codeAny_builtin F.entry_set_update_loop (Around.under_plainId F.plain_set_update_loop _ ▸ wpAny_bind (W.done s _ _ st fun s' mv => wpAny_pure (fin s' l (mv.mono fun b z => List.mem_cons_of_mem _ z) hl hm (hS.keep fun o e => mv.heap a o ha e))))
  | succ m ih =>
    rintro i s en st ⟨l, hl, hm, hS⟩ fin
    have hi : i < n := by omega
    refine codeAny_builtin F.entry_set_update_loop (Around.under_plainId F.plain_set_update_loop _ ▸ wpAny_bind (W.item i s _ _ hi st fun v s1 pv st1 mv => ?_))
    obtain ⟨k, t, hk, rfl⟩ := hval i v pv
    have R1 : TxSet P w s1.heap a l := hS.keep fun o e => mv.heap a o ha e
    show wpAny _ A.in1 (holding [Value.str k t] (setAdd a (.str k t)) >>= _) _ _ s1
    refine wpAny_bind (wpAny_holding ?_)
    unfold setAdd
    refine wpAny_holding (wpAny_bind ((strKind P w).pyHash (k := k) (is_str _ _) ?_))
    refine tx_add (s := { s1 with toks := s1.toks + 1 }) R1 (by omega) fun b h' l' sb R2 hm2 hl2 => ?_
    refine wpAny_pure ⟨plainId_quiet F.plain_set_update_loop _, ih (i + 1) _ (by omega) (W.frame _ s1 _ _ st1 (Nat.le_succ _) fun b hb o e => (sb.2 b (fun z : b = a => hf (z ▸ hb))).trans e) ⟨l', by omega, fun x => ?_, R2⟩ fun s2 l2 mv2 h2 h3 h4 => ?_⟩
    · rw [hm2 x, hm x, List.take_add_one, hk, List.mem_append]
      show _ ↔ _ ∨ x ∈ [k]
      rw [List.mem_singleton]
      exact Or.comm
    · exact fin s2 l2 (Moved.trans W.gtrans ((mv.mono fun b z => List.mem_cons_of_mem _ z).then_heap (Nat.le_succ _) fun b o hb e => (sb.2 b (fun z : b = a => hb (z ▸ List.mem_cons_self))).trans e) mv2) h2 h3 h4
end
end KV

namespace KV
open PySem PySem.Spec PyProof.Rows L2 PySem.Froz
abbrev nob (w : World) : Obj := { cls := .type "set", dict := none, data := .set #[] 0 (.fresh 0 0 (!w.params.followText "set-order")) }
section
variable {P : Program} {w : World} {A : Around} {E : Value → Shared → Prop} {s : Shared} {a : Addr} {l : List Str}
/-- set(xs) of a tuple of texts -/
theorem tx_of_tuple {p : Addr} {its : Array Value} {xs : List Str} {Q : Value → Shared → Prop} (hh : A.handled = none) (hp : s.heap.IsTuple p its) (hx : StrsAre its.toList xs) (hb : xs.length + 1 < scanBound)
    (q : ∀ (h' : Heap) (tk : Nat) (l : List Str), TxSet P w h' s.heap.objs.size l → l.length ≤ xs.length → (∀ x, x ∈ l ↔ x ∈ xs) → (∀ b o, s.heap.get? b = some o → h'.get? b = some o) → Q (.ref s.heap.objs.size) { s with heap := h', toks := tk }) :
    wpAny (model P w) A (call (.type "set") [.ref p]) Q E s := by
  have hsz : its.size = xs.length := by
    rw [← StrsAre.len_eq hx, Array.length_toList]
  have ⟨c, tl, hmro⟩ := F.called_set.mro
  have hmade := F.called_set.made
  have hsub := F.called_set.sub
  have h1 := F.called_set.notType
  have h2 := F.called_set.canCreate
  have hct := F.typeCall_set_1 (.ref p)
  refine wpAny_call (codeAny_of_tree ?_)
  show wpAny _ _ (callAny (.type "set") _) _ _ _
  refine wpAny_pure ⟨Code.quiet_builtin _ (by decide +kernel), codeAny_builtin F.entry_type_call (Around.under_plain (weight_type_call_type "set" [.ref p] []) rfl ▸ ?_)⟩
  repeat (any_goals (first | assumption | wp_step))
  refine codeAny_mono (code_set_led1 (.ref p) (E := E) (Q₁ := fun v s1 => v = .ref s.heap.objs.size ∧ s1 = { s with heap := s.heap.push (nob w) }) ⟨rfl, rfl⟩) fun r s1 hr => ?_
  rcases r with e | fl
  · exact hr
  · cases fl with
    | ret v =>
      obtain ⟨rfl, rfl⟩ := hr
      have hS : (s.heap.push (nob w)).get? s.heap.objs.size = some (nob w) := Heap.get?_push_size _ rfl
      have hT : Shared.TypeIs { s with heap := s.heap.push (nob w) } (.ref s.heap.objs.size) "set" := ⟨_, hS, rfl⟩
      have hli := F.called_set.init.lookup
      have hbi := F.called_set.init.bind (.ref s.heap.objs.size)
      repeat (any_goals (first | assumption | wp_step))
      refine codeAny_mono (codeAny_call_builtin (R := wants (fun r s2 => r = .none ∧ ∃ h' tk l, s2 = { s with heap := h', toks := tk } ∧ TxSet P w h' s.heap.objs.size l ∧ l.length ≤ xs.length ∧ (∀ x, x ∈ l ↔ x ∈ xs) ∧
          ∀ b o, s.heap.get? b = some o → h'.get? b = some o) E) F.called_set.init.plain F.entry_set_init (check_set_init_1 hT ?_)) fun r2 s2 hr2 => ?_
      · obtain ⟨⟨oc, od, odt, osl⟩, hol, hcl, nl, hdl⟩ := hp
        simp only at hcl hdl
        subst hcl; subst hdl
        have hol1 : (s.heap.push (nob w)).get? p = some { cls := .type "tuple", dict := od, data := .seq its nl, slots := osl } := Heap.get?_push_of_some _ hol
        have n1 := F.sub_tuple_set
        have n2 := F.sub_tuple_frozenset
        have n3 : (Value.type "tuple" == Value.type "dict") = false := by decide
        have hp1 : (s.heap.push (nob w)).IsTuple p its := ⟨_, hol1, rfl, nl, rfl⟩
        unfold Builtin.«set.__init__» noKeywords Builtin.Frozenset.updateFrom
        generalize hPI : pyIter = PI
        wp_walk
        subst hPI
        refine wpAny_pyIter_tuple hp1 (wpAny_bind (wpAny_runValue ?_))
        have pS : p < s.heap.objs.size := Heap.lt_size hol
        have hz : (s.heap.push (nob w)).objs.size = s.heap.objs.size + 1 := Heap.size_push ..
        have hI : p ≠ (s.heap.push (nob w)).objs.size := fun z => Nat.ne_of_lt (Nat.lt_succ_of_lt pS) (z.trans hz)
        have hh3 : A.in1.in1.in1.handled = none := by simp [hh]
        have hSf : s.heap.objs.size ∉ [(s.heap.push (nob w)).objs.size, p] := fun z => by
          rcases List.mem_cons.mp z with z | z
          · exact absurd (z.trans hz) (Nat.ne_of_lt (Nat.lt_succ_self _))
          · exact Nat.ne_of_gt pS (List.mem_singleton.mp z)
        have hval : ∀ (i : Nat) (v : Value), its[i]? = some v → ∃ k t, xs[i]? = some k ∧ v = .str k t := fun i v hv => by
          have hi : i < xs.length := hsz ▸ (Array.getElem?_eq_some_iff.mp hv).1
          obtain ⟨t, e⟩ := SS.strs_at hx i v (by rw [Array.getElem?_toList]; exact hv)
          exact ⟨xs[i], t, List.getElem?_eq_getElem hi, by rw [e, List.getD_eq_getElem?_getD, List.getElem?_eq_getElem hi] <;> rfl⟩
        refine tx_loop (a := s.heap.objs.size) ((Walks.tuple hh3 _ p hI its).toS) hSf xs hsz hb hval its.size 0 _ (by omega) ⟨⟨_, Heap.get?_push_size _ rfl, rfl, rfl⟩, hp1.push _⟩ ⟨[], Nat.le_refl 0, fun x => by simp, tx_fresh (Heap.get?_push_of_some _ hS)⟩ ?_
        rintro ⟨h', g', d', tk', os'⟩ l mv hl hm hS2
        have eg : g' = s.gens := mv.gens
        have ed : d' = s.drawn := mv.drawn
        have eo : os' = s.os := mv.os
        subst eg; subst ed; subst eo
        show wpAny _ _ _ _ _ _
        refine wpAny_pure ?_
        show wpAny _ _ (ret Value.none) _ _ _
        refine wpAny_pure ⟨rfl, h', tk', l, rfl, hS2, hsz ▸ hl, hm, fun b o e => ?_⟩
        have b0 : b < s.heap.objs.size := Heap.lt_size e
        refine mv.heap b o (fun z => ?_) (Heap.get?_push_of_some _ (Heap.get?_push_of_some _ e))
        rcases List.mem_cons.mp z with z | z
        · exact Nat.ne_of_lt b0 z
        · exact Nat.ne_of_lt (Nat.lt_succ_of_lt b0) ((List.mem_singleton.mp z).trans hz)
      · rcases r2 with e | fl2
        · exact hr2
        · cases fl2 with
          | ret v2 =>
            obtain ⟨rfl, h', tk, l, rfl, hS2, hl, hm, hk⟩ := hr2
            repeat (any_goals (first | assumption | wp_step))
            exact q _ _ l hS2 hl hm hk
          | _ => exact hr2.elim
    | _ => exact hr.elim
end
end KV

namespace KV
open PySem PySem.Spec PyProof.Rows L2 PySem.Froz
theorem perm_of_sub {α : Type} [BEq α] [LawfulBEq α] : ∀ (l m : List α), l.Nodup → (∀ x ∈ l, x ∈ m) → m.length = l.length → m.Perm l
  | [], m, _, _, h => by
    rw [List.eq_nil_of_length_eq_zero h]
  | x :: l, m, nd, sub, h => by
    obtain ⟨n1, n2⟩ := List.nodup_cons.mp nd
    have hx : x ∈ m := sub x List.mem_cons_self
    have pm := List.perm_cons_erase hx
    have q := perm_of_sub l (m.erase x) n2 (fun y hy => (List.mem_erase_of_ne (fun z => n1 (by rw [← z]; exact hy))).mpr (sub y (List.mem_cons_of_mem _ hy))) (by
      have e := pm.length_eq
      rw [List.length_cons] at e h
      omega)
    exact pm.trans (q.cons x)
section
variable {P : Program} {w : World} {A : Around} {E : Value → Shared → Prop} {s : Shared} {a : Addr} {l : List Str}
theorem tx_sort {p : Addr} {vs : List Value} {ss : List Str} {n : Nat} {R : Fin → Shared → Prop} (ho : s.heap.get? p = some (seqObj "list" vs.toArray n)) (hS : StrsAre vs ss) (hz : vs.length ≤ sizeLine)
    (q : ∀ (out : Array Value) (ts : List Str), StrsAre out.toList ts → ts.Perm ss → sortedS ts = true → R (.done (.ret .none)) { s with heap := sortedHeap s.heap p vs out }) :
    wpAny (model P w) A (Builtin.«list.sort» ⟨[.ref p], []⟩) R E s := by
  refine list_sort_treeKAny strKind_oneLt ho hS.keysOf (fun v1 v2 r e => keyKind_strs (by rw [← e]; exact hS)) hz fun st' p1 p2 => ?_
  obtain ⟨ts, q1, q2, q3⟩ := sorted_out_str hS p1 p2
  exact q _ ts q1 q2 q3
/-- sorted(a set of texts) -/
theorem tx_sorted {Q : Value → Shared → Prop} (R : TxSet P w s.heap a l) (hh : A.handled = none)
    (q : ∀ s' p (out : Array Value) (c : Nat) (ss : List Str), (∀ b o, s.heap.get? b = some o → s'.heap.get? b = some o) → s'.gens = s.gens → s'.os = s.os → s.heap.objs.size ≤ p →
      s'.heap.get? p = some (seqObj "list" out c) → StrsAre out.toList ss → sortedS ss = true → ss.Perm l → Q (.ref p) s') :
    wpAny (model P w) A (call (.builtin "sorted") [.ref a]) Q E s := by
  obtain ⟨⟨es, ep, t⟩, ho, F, nd, hb, hr, hl⟩ := R
  have hsz : es.size = l.length := F.sz
  refine Calls.call_function_entry kind_sorted plain_sorted entry_sorted (args_sorted1 _) ?_
  unfold Builtin.«sorted»
  refine wpAny_bind (m := checkCount "sorted" 1 1 _) (wpAny_pure ?_)
  have hat : SetAt s.heap a es ep t := ⟨_, ho, rfl, rfl⟩
  have hfit : t.fits es.size = true := F.fit
  have hsm : es.size < scanBound := by
    rw [hsz]
    exact hb
  refine wpAny_bind (collect_set (A := A.in1) hh hat hfit hsm hr hl fun s1 vs k1 hz g1 o1 pm => ?_)
  have len : vs.length = l.length := by rw [pm.length_eq, List.length_map, Array.length_toList, hsz]
  have allS : ∀ v ∈ vs, ∃ x tk, v = Value.str x tk := fun v hv => by
    obtain ⟨e, he, z⟩ := List.mem_map.mp (pm.mem_iff.mp hv)
    obtain ⟨⟨k, hk, _⟩, _⟩ := F.el e he
    obtain ⟨tk, e2⟩ := Value.isStrOf_shape hk
    exact ⟨k, tk, by rw [← z]; exact e2⟩
  have hS := strsAre_map vs allS
  have pl : (vs.map strOf).Perm l := perm_of_sub l _ nd (fun x hx => by
    obtain ⟨e, he, z⟩ := (F.mem x).mp hx
    obtain ⟨tk, e2⟩ := Value.isStrOf_shape z
    exact List.mem_map.mpr ⟨e.2, pm.mem_iff.mpr (List.mem_map.mpr ⟨e, he, rfl⟩), by rw [e2] <;> rfl⟩) (by rw [List.length_map]; exact len)
  have hz64 : vs.length ≤ sizeLine := by
    rw [len]
    exact fits_of_scanBound hb
  refine wpAny_bind (wpAny_newList ?_ hz64)
  have hL : (s1.heap.push (seqObj "list" vs.toArray 0)).get? s1.heap.objs.size = some (seqObj "list" vs.toArray 0) := Heap.get?_push_size _ rfl
  refine wpAny_bind (wpAny_holding (wpAny_call_entry slot_list_sort ⟨_, hL, rfl⟩ entry_list_sort (tx_sort hL hS hz64 fun out ss q1 q2 q3 => ⟨_, rfl, ?_⟩) (args_list_sort _)))
  obtain ⟨c, hc⟩ := sortedHeap_at (vs := vs) (out := out) hL
  refine wpAny_pure ⟨_, rfl, q _ s1.heap.objs.size out c ss (fun b u e => ?_) g1 o1 hz hc q1 q3 (q2.trans pl)⟩
  have e1 := k1 b u e
  have lt := Heap.lt_size e1
  show (sortedHeap (s1.heap.push (seqObj "list" vs.toArray 0)) s1.heap.objs.size vs out).get? b = some u
  refine (sortedHeap_old (Nat.ne_of_lt lt) (by rw [size_push']; exact Nat.lt_succ_of_lt lt)).trans ?_
  exact Heap.get?_push_of_some _ e1
end
/-! ### as objects of the hand layer -/
def TxO (P : Program) (w : World) (a : Addr) (l : List Str) : HO := .ext fun h => TxSet P w h a l
section
variable {X : Cx}
theorem txO_new {P : Program} {w : World} {H : Hp} {h : Heap} {a : Addr} {l : List Str} (R : TxSet P w h a l) : ObjOk P w H h a (TxO P w a l) :=
  ⟨R, R.elim fun D z => ⟨_, z.1⟩, fun h1 h2 p k => TxSet.keep p k⟩
theorem txO_get {pins : List (Addr × Obj)} {σ : L2.St} {H : Hp} {s : Shared} {a : Addr} {l : List Str} (I : Inv X pins σ H s) (ha : H a = some (TxO X.prog X.w a l)) : TxSet X.prog X.w s.heap a l := (I.hok a _ ha).1
/-- set(a tuple of texts) -/
def rSetT (P : Program) (w : World) (K : PySem.W.Frag) : List V → Hp → VK → Prop := fun vs H Q => ∃ (p : Addr) (xs : List Str), vs = [.ref p] ∧ SqT K H p (xs.map V.str) ∧ xs.length ≤ 1000 ∧
  ∀ (a : Addr) (l : List Str), H a = none → (∀ x, x ∈ l ↔ x ∈ xs) → l.length ≤ xs.length → Q (.ref a) (upd H a (TxO P w a l))
theorem cr_setT (hc : X.calm = true) : CallR X (.type "set") (rSetT X.prog X.w X.K) := by
  intro pins s σ H vs us Q I r h
  obtain ⟨p, xs, rfl, hq, hz, q⟩ := h
  rw [Vals.ref1 r]
  obtain ⟨its, rv, pt, _⟩ := I.tuple hq
  have hx : StrsAre its.toArray.toList xs := by simpa using rv.strs
  refine tx_of_tuple (I.ok.hd hc) (show s.heap.IsTuple p its.toArray from pt) hx (by unfold scanBound; omega) fun h' tk l R hl hm k => ?_
  exact ⟨.ref _, upd H s.heap.objs.size (TxO X.prog X.w s.heap.objs.size l), I.laid k (Nat.le_refl _) (txO_new R), rfl, q _ l (I.hok.fresh (Nat.le_refl _)) hm hl⟩
/-- sorted(a set of texts) -/
def rSortedT (P : Program) (w : World) : List V → Hp → VK → Prop := fun vs H Q => ∃ (a : Addr) (l : List Str), vs = [.ref a] ∧ H a = some (TxO P w a l) ∧ l.length ≤ 1000 ∧
  ∀ (ss : List Str) (p : Addr), sortedS ss = true → ss.Perm l → l.Nodup → H p = none → Q (.ref p) (upd H p (.lst (ss.map V.str)))
theorem cr_sortedT (hc : X.calm = true) : CallR X (.builtin "sorted") (rSortedT X.prog X.w) := by
  intro pins s σ H vs us Q I r h
  obtain ⟨a, l, rfl, ha, hz, q⟩ := h
  rw [Vals.ref1 r]
  have R := txO_get I ha
  have nd : l.Nodup := R.elim fun D z => z.2.2.1
  refine tx_sorted R (I.ok.hd hc) fun s' p out c ss k g o hp hob hi hs pm => ?_
  have fits : (ss.map V.str).length ≤ sizeLine := by
    rw [List.length_map, pm.length_eq, sizeLine_eq]
    omega
  have none : H p = none := I.hok.fresh hp
  have J : Inv X pins σ (upd H p (.lst (ss.map V.str))) { s with heap := s'.heap, gens := s'.gens, drawn := s'.drawn, toks := s'.toks } :=
    I.call (ch := []) (Un.laid k hp none) (I.hok.laid k hp ⟨fits, out.toList, c, vals_of_strs hi, hob⟩) (by rw [g]; exact I.bare) (fun _ z => nomatch z)
  have e : s' = { s with heap := s'.heap, gens := s'.gens, drawn := s'.drawn, toks := s'.toks } := by
    obtain ⟨a1, a2, a3, a4, a5⟩ := s'
    obtain ⟨b1, b2, b3, b4, b5⟩ := s
    cases o
    rfl
  rw [e]
  exact ⟨.ref p, _, J, rfl, q ss p hs pm nd none⟩
end
end KV

namespace KV
open PySem PySem.Spec PyProof.Rows L2 PySem.Froz
/-! ### texts in order -/
def ltS (a b : Str) : Prop := a.cps.toList < b.cps.toList
instance (a b : Str) : Decidable (ltS a b) := by unfold ltS; infer_instance
theorem str_ext {a b : Str} (h : a.cps.toList = b.cps.toList) : a = b := by
  obtain ⟨x⟩ := a
  obtain ⟨y⟩ := b
  have e : x = y := Array.toList_inj.mp h
  rw [e]
theorem ltS_irr (a : Str) : ¬ ltS a a := List.lt_irrefl _
theorem ltS_trans {a b c : Str} (h : ltS a b) (k : ltS b c) : ltS a c := List.lt_trans h k
theorem ltS_tri {a b : Str} (h : ¬ ltS a b) (k : ¬ ltS b a) : a = b := str_ext (List.le_antisymm (List.not_lt.mp k) (List.not_lt.mp h))
theorem ltS_of {a b c : Str} (h : ¬ ltS b a) (k : ¬ ltS c b) : ¬ ltS c a := List.not_lt.mpr (List.le_trans (List.not_lt.mp h) (List.not_lt.mp k))
theorem ltS_cps (a b : Str) : ltCps a.cps.toList b.cps.toList = decide (ltS a b) := ltCps_eq _ _
/-- each is below the next -/
def ascS : List Str → Bool
  | [] => true
  | [_] => true
  | a :: b :: r => decide (ltS a b) && ascS (b :: r)
theorem ascS_pw : ∀ (l : List Str), ascS l = true → l.Pairwise ltS
  | [], _ => .nil
  | [a], _ => List.pairwise_singleton _ _
  | a :: b :: r, h => by
    have h1 : (decide (ltS a b) && ascS (b :: r)) = true := h
    rw [Bool.and_eq_true, decide_eq_true_eq] at h1
    have ih := ascS_pw (b :: r) h1.2
    refine List.pairwise_cons.mpr ⟨fun x hx => ?_, ih⟩
    rcases List.mem_cons.mp hx with rfl | hx
    · exact h1.1
    · exact ltS_trans h1.1 ((List.pairwise_cons.mp ih).1 x hx)
theorem pw_ascS : ∀ (l : List Str), l.Pairwise ltS → ascS l = true
  | [], _ => rfl
  | [a], _ => rfl
  | a :: b :: r, h => by
    show (decide (ltS a b) && ascS (b :: r)) = true
    rw [Bool.and_eq_true, decide_eq_true_eq]
    exact ⟨(List.pairwise_cons.mp h).1 b List.mem_cons_self, pw_ascS (b :: r) (List.pairwise_cons.mp h).2⟩
theorem rising_pw : ∀ (l : List Str) (p : Str), risingS p l = true → (p :: l).Pairwise fun a b => ¬ ltS b a
  | [], p, _ => List.pairwise_singleton _ _
  | x :: r, p, h => by
    have h1 : (!ltCps x.cps.toList p.cps.toList && risingS x r) = true := h
    rw [Bool.and_eq_true, ltS_cps, Bool.not_eq_true', decide_eq_false_iff_not] at h1
    have ih := rising_pw r x h1.2
    refine List.pairwise_cons.mpr ⟨fun y hy => ?_, ih⟩
    rcases List.mem_cons.mp hy with rfl | hy
    · exact h1.1
    · exact ltS_of h1.1 ((List.pairwise_cons.mp ih).1 y hy)
theorem sorted_pw {l : List Str} (h : sortedS l = true) : l.Pairwise fun a b => ¬ ltS b a := by
  cases l with
  | nil => exact .nil
  | cons x r => exact rising_pw r x h
theorem strict_of {l : List Str} (h : l.Pairwise fun a b => ¬ ltS b a) (nd : l.Nodup) : l.Pairwise ltS := by
  induction l with
  | nil => exact .nil
  | cons x r ih =>
    obtain ⟨h1, h2⟩ := List.pairwise_cons.mp h
    obtain ⟨n1, n2⟩ := List.nodup_cons.mp nd
    refine List.pairwise_cons.mpr ⟨fun y hy => Classical.byContradiction fun z => n1 ?_, ih h2 n2⟩
    rw [ltS_tri z (h1 y hy)]
    exact hy
theorem strict_eq : ∀ (l m : List Str), l.Pairwise ltS → m.Pairwise ltS → (∀ x, x ∈ l ↔ x ∈ m) → l = m
  | [], [], _, _, _ => rfl
  | [], y :: m, _, _, h => absurd ((h y).mpr List.mem_cons_self) List.not_mem_nil
  | x :: l, [], _, _, h => absurd ((h x).mp List.mem_cons_self) List.not_mem_nil
  | x :: l, y :: m, h1, h2, h => by
    obtain ⟨a1, a2⟩ := List.pairwise_cons.mp h1
    obtain ⟨b1, b2⟩ := List.pairwise_cons.mp h2
    have e : x = y := by
      refine Classical.byContradiction fun ne => ?_
      have q1 : x ∈ m := (List.mem_cons.mp ((h x).mp List.mem_cons_self)).resolve_left ne
      have q2 : y ∈ l := (List.mem_cons.mp ((h y).mpr List.mem_cons_self)).resolve_left (fun z => ne z.symm)
      exact ltS_irr _ (ltS_trans (b1 x q1) (a1 y q2))
    subst e
    have ih := strict_eq l m a2 b2 fun z => ⟨fun hz => ?_, fun hz => ?_⟩
    · rw [ih]
    · exact (List.mem_cons.mp ((h z).mp (List.mem_cons_of_mem _ hz))).resolve_left fun q => ltS_irr x (by have := a1 z hz; rw [q] at this; exact this)
    · exact (List.mem_cons.mp ((h z).mpr (List.mem_cons_of_mem _ hz))).resolve_left fun q => ltS_irr x (by have := b1 z hz; rw [q] at this; exact this)
/-- a list of texts is its set, sorted: each is below the next -/
theorem sorted_set_iff {xs l ss : List Str} (hm : ∀ x, x ∈ l ↔ x ∈ xs) (nd : l.Nodup) (hs : sortedS ss = true) (pm : ss.Perm l) : xs = ss ↔ ascS xs = true := by
  have hss := strict_of (sorted_pw hs) (pm.nodup_iff.mpr nd)
  constructor
  · rintro rfl
    exact pw_ascS _ hss
  · intro h
    exact strict_eq xs ss (ascS_pw xs h) hss fun x => ((hm x).symm.trans pm.mem_iff.symm)
end KV

namespace KV
open PySem PySem.Spec PyProof.Rows L2 RZ
abbrev sOf : Stmt := topS 102
abbrev sName : Stmt := topS 103
abbrev sNames : Stmt := topS 104
abbrev sNamed : Stmt := topS 105
section
variable {P : Program} {w : World} {K : PySem.W.Frag} {mg : Str → Option Value} {base : Heap}
theorem sgn_len (x : Str) : x.cps.toList.length = x.length := by simp [Str.length]
/-! ### _law_of -/
def spOf (K : PySem.W.Frag) : Sp := fun vs H Q _ => ∃ (b : Addr) (n : Nat) (v : V), vs = [.ref b, v] ∧ BoxAt H b n ∧ n + 1 ≤ 2 ^ 40 ∧
  ((∃ x : Str, v = .str x ∧ 0 < x.length ∧ x.length ≤ 1000 ∧ ∀ (c : Nat) (H' : Hp), c ∈ x.cps.toList → SameX [b] H H' → BoxAt H' b (n + 1) → Q (.str ⟨#[c]⟩) H') ∨
   (∃ (B : List Addr) (a : Addr) (xs : List V), v = .ref a ∧ b ∈ B ∧ (SqL K (hide B H) a xs ∨ SqT K (hide B H) a xs) ∧ 0 < xs.length ∧ xs.length ≤ 1000 ∧
     ∀ (i : Nat) (x : V) (H' : Hp), xs[i]? = some x → SameX [b] H H' → BoxAt H' b (n + 1) → Q x H'))
theorem scOf : FnScope ["_law_box_here", "_law_some"] ["_law_box_here", "_law_some"] (defScope sOf) :=
  ⟨rfl, rfl, rfl, by decide +kernel, rfl, by decide +kernel, by decide +kernel⟩
theorem ok_of {f fT : Addr} {fd fdT : FuncData} {k : Nat} (F : Fun K "_law_of" "_law_of" sOf f fd) (FT : Fun K "_law_take" "_law_take" sTake fT fdT) (bT : Binds K fdT ["_law_box_here", "_law_below"] []) (mT : mg "_law_take" = some (.ref fT))
    (mn : mg "int" = none) (ml : mg "len" = none) : FnOk P w K mg base CX0 (k + 2) f fd ["_law_box_here", "_law_some"] (spOf K) := by
  have GT : FnOk P w K mg base CX0 (k + 1) fT fdT ["_law_box_here", "_law_below"] spTake := ok_take FT mn
  refine F.ok scOf (fun vs H Q E h => ?_) (fun cdv A outer s H vs Q E hr h => ?_)
  · obtain ⟨b, n, v, rfl, _⟩ := h
    rfl
  · obtain ⟨b, n, v, rfl, hB, hn, h⟩ := h
    refine ⟨_, pss_one (ps_ret (pe_ix ix_seq (pv 1) (pe_call GT hr (by rfl) mT FT.kp bT .nil pass0 (pa_cons (pv 0) (pa_cons (pe_callB (call_len_seq.or call_len_str) (by rfl) ml PySem.boot_len (pa_cons (pv 1) pa_nil)) pa_nil))) (fun _ _ => rfl))), ?_⟩
    rcases h with ⟨x, rfl, h0, h1, q⟩ | ⟨B, a, xs, rfl, hb, hx, h0, h1, q⟩
    · refine ⟨_, rfl, _, rfl, _, rfl, .inr ⟨x, rfl, Nat.le_of_lt (small1000 h1), b, n, x.length, rfl, by omega, by omega, hB, by omega, fun r H' r0 r1 s2 b2 => ?_⟩⟩
      obtain ⟨j, rfl⟩ : ∃ j : Nat, r = j := ⟨r.toNat, by omega⟩
      have hj : j < x.cps.toList.length := by rw [sgn_len]; omega
      exact .inr (.inr ⟨x, j, x.cps.toList[j], rfl, rfl, Nat.le_of_lt (small1000 h1), atI_nat (List.getElem?_eq_getElem hj), q _ _ (List.getElem_mem hj) s2 b2⟩)
    · have hx1 : SqL K H a xs ∨ SqT K H a xs := hx.imp (hide_same B H).seq (same_seqT (hide_same B H))
      refine ⟨_, rfl, _, rfl, _, rfl, .inl ⟨a, xs, rfl, hx1, b, n, xs.length, rfl, by omega, by omega, hB, by omega, fun r H' r0 r1 s2 b2 => ?_⟩⟩
      obtain ⟨j, rfl⟩ : ∃ j : Nat, r = j := ⟨r.toNat, by omega⟩
      have hj : j < xs.length := by omega
      have e : xs[j]? = some xs[j] := List.getElem?_eq_getElem hj
      have s3 : Same (hide B H) (hide B H') := s2.hide fun c hc => by rw [List.mem_singleton.mp hc]; exact hb
      have hx2 : SqL K H' a xs ∨ SqT K H' a xs := hx.imp (fun z => (hide_same B H').seq (s3.seq z)) (fun z => same_seqT (hide_same B H') (same_seqT s3 z))
      rcases hx2 with z | z
      · exact .inl ⟨a, xs, j, _, rfl, rfl, z, atI_nat e, q j _ _ e s2 b2⟩
      · exact .inr (.inl ⟨a, xs, j, _, rfl, rfl, z, atI_nat e, q j _ _ e s2 b2⟩)
end
end KV

namespace KV
open PySem PySem.Spec PyProof.Rows L2 RZ
/-- a name: one to eight small letters -/
def wordS (x : Str) : Bool := decide (0 < x.length) && decide (x.length ≤ 8) && x.cps.toList.all fun c => decide (97 ≤ c) && decide (c ≤ 122)
theorem word_few : ((Txt.split (Str.ofString "link late kept yes no slots pipes ring nop put text all turn reap slot good") (Str.ofString " ")).all wordS && decide (0 < (Txt.split (Str.ofString "link late kept yes no slots pipes ring nop put text all turn reap slot good") (Str.ofString " ")).length) &&
    decide ((Txt.split (Str.ofString "link late kept yes no slots pipes ring nop put text all turn reap slot good") (Str.ofString " ")).length ≤ 1000)) = true := by decide +kernel
theorem letters_ok : ((Str.ofString "abcdefghijklmnopqrstuvwxyz").cps.toList.all fun c => decide (97 ≤ c) && decide (c ≤ 122)) = true := by decide +kernel
theorem glue_sing : ∀ cs : List Nat, (Str.join (Str.ofString "") (cs.map fun c => (⟨#[c]⟩ : Str))).cps.toList = cs
  | [] => rfl
  | [c] => rfl
  | c :: d :: r => by
    have ih := glue_sing (d :: r)
    show (#[c] ++ (Str.ofString "").cps ++ (Str.join (Str.ofString "") ((d :: r).map fun c => (⟨#[c]⟩ : Str))).cps : Array Nat).toList = _
    rw [Array.toList_append, Array.toList_append, ih]
    rfl
theorem sing_len (cs : List Nat) : ((cs.map fun c => (⟨#[c]⟩ : Str)).map (·.length)).sum = cs.length := by
  induction cs with
  | nil => rfl
  | cons c r ih =>
    show 1 + ((r.map fun c => (⟨#[c]⟩ : Str)).map (·.length)).sum = r.length + 1
    rw [ih, Nat.add_comm]
theorem glued_word {cs : List Nat} (h0 : 0 < cs.length) (h8 : cs.length ≤ 8) (ha : (cs.all fun c => decide (97 ≤ c) && decide (c ≤ 122)) = true) : wordS (Txt.join (Str.ofString "") (cs.map fun c => (⟨#[c]⟩ : Str))) = true := by
  have e : (Txt.join (Str.ofString "") (cs.map fun c => (⟨#[c]⟩ : Str))).cps.toList = cs := by
    show (Builtin.Str.glued (Str.ofString "") (cs.map fun c => (⟨#[c]⟩ : Str))).cps.toList = cs
    rw [StrLaws.glued_eq_join]
    exact glue_sing cs
  have el : (Txt.join (Str.ofString "") (cs.map fun c => (⟨#[c]⟩ : Str))).length = cs.length := by rw [← sgn_len, e]
  unfold wordS
  rw [e, el, ha, decide_eq_true h0, decide_eq_true h8]
  rfl
section
variable {P : Program} {w : World} {K : PySem.W.Frag} {mg : Str → Option Value} {base : Heap}
/-! ### _law_name -/
def spName (K : PySem.W.Frag) : Sp := fun vs H Q _ => ∃ (b : Addr) (n : Nat), vs = [.ref b] ∧ BoxAt H b n ∧ n + 20 ≤ 2 ^ 40 ∧
  ∀ (x : Str) (H' : Hp), wordS x = true → SameX [b] H H' → BoxAt H' b (n + 12) → Q (.str x) H'
theorem scName : FnScope ["_law_box_here", "_law_some", "_law_k"] ["_law_box_here"] (defScope sName) :=
  ⟨rfl, rfl, rfl, by decide +kernel, rfl, by decide +kernel, by decide +kernel⟩
theorem ok_name {f fT fO : Addr} {fd fdT fdO : FuncData} {k : Nat} (F : Fun K "_law_name" "_law_name" sName f fd) (FT : Fun K "_law_take" "_law_take" sTake fT fdT) (bT : Binds K fdT ["_law_box_here", "_law_below"] []) (mT : mg "_law_take" = some (.ref fT))
    (FO : Fun K "_law_of" "_law_of" sOf fO fdO) (bO : Binds K fdO ["_law_box_here", "_law_some"] []) (mO : mg "_law_of" = some (.ref fO))
    (mn : mg "int" = none) (ml : mg "len" = none) (mr : mg "range" = none) : FnOk P w K mg base CX0 (k + 3) f fd ["_law_box_here"] (spName K) := by
  have GT : FnOk P w K mg base CX0 (k + 2) fT fdT ["_law_box_here", "_law_below"] spTake := ok_take FT mn
  have GO : FnOk P w K mg base CX0 (k + 2) fO fdO ["_law_box_here", "_law_some"] (spOf K) := ok_of FO FT bT mT mn ml
  refine F.ok scName (fun vs H Q E h => ?_) (fun cdv A outer s H vs Q E hr h => ?_)
  · obtain ⟨b, n, rfl, _⟩ := h
    rfl
  · obtain ⟨b, n, rfl, hB, hn, q⟩ := h
    refine ⟨_, pss_cons (ps_if (pt_cmpR op_eq (pe_call GT hr (by rfl) mT FT.kp bT .nil pass0 (pa_cons (pv 0) (pa_cons pe_int pa_nil))) pe_int (nomark _))
        (pss_cons (ps_set (i := 1) scName.nd rfl (.inl rfl) pe_str) (pss_one (ps_ret (pe_call GO hr (by rfl) mO FO.kp bO .nil pass0 (pa_cons (pv 0) (pa_cons (pe_split (pv 1) pe_str) pa_nil)))))) pss_nil)
      (pss_one (ps_ret (pe_join pe_str (pe_lc (own := [("_law_k", 2)]) (g := gName 2) (tt := tYes) rfl scName.nd
        (pi_range1 (by rfl) mr (pa_cons (pe_op op_add pe_int (pe_call GT hr (by rfl) mT FT.kp bT .nil pass0 (pa_cons (pv 0) (pa_cons pe_int pa_nil)))) pa_nil))
        (blkOk_by (N := ["_law_box_here", "_law_some", "_law_k"]) (sc := defScope sName) (by decide +kernel))
        (fun _ _ _ _ _ => pg_name (i := 2) scName.nd rfl (Or.inl rfl)) (fun _ _ _ _ _ => pts_nil) (fun _ _ _ _ _ => pe_call GO hr (by rfl) mO FO.kp bO .nil pass0 (pa_cons (pv 0) (pa_cons pe_str pa_nil))))))), ?_⟩
    refine ⟨_, rfl, b, n, 3, rfl, by decide, by decide, hB, by omega, fun r H1 r0 r1 s1 b1 => ?_⟩
    refine ⟨rfl, _, rfl, ite2 (fun e => ?_) (fun e => ?_)⟩
    · have wf := word_few
      simp only [Bool.and_eq_true, decide_eq_true_eq] at wf
      obtain ⟨⟨w1, w2⟩, w3⟩ := wf
      refine ⟨_, rfl, _, rfl, ⟨_, rfl⟩, ⟨_, _, rfl, rfl, by decide +kernel, by decide +kernel, fun p np => ?_⟩⟩
      have pb : p ≠ b := b1.new np
      refine ⟨b, n + 1, .ref p, rfl, b1.same (same_upd np), by omega, .inr ⟨[b], p, _, rfl, List.mem_singleton.mpr rfl, .inl (SqL.of (by rw [hide_out (fun z => pb (List.mem_singleton.mp z)), upd_same])), by rw [List.length_map]; exact w2, by rw [List.length_map]; exact w3, fun i x H2 hx s2 b2 => ?_⟩⟩
      rw [List.getElem?_map] at hx
      obtain ⟨y, hy, rfl⟩ := Option.map_eq_some_iff.mp hx
      exact q y H2 (List.all_eq_true.mp w1 y (List.mem_of_getElem? hy)) (s1.trans ((SameX.of (same_upd np)).trans s2)) (b2.le (by omega))
    · refine ⟨⟨_, rfl⟩, ?_⟩
      refine ⟨_, rfl, b, n + 1, 8, rfl, by decide, by decide, b1, by omega, fun r2 H2 r20 r21 s2 b2 => ?_⟩
      obtain ⟨j, rfl⟩ : ∃ j : Nat, r2 = j := ⟨r2.toNat, by omega⟩
      refine ⟨_, _, rfl, rfl, _, rfl, by omega, by omega, fun D nD => lc_it (walk_range (lo := 0) (n := ((1 : Int) + j).toNat)) (fun i H3 => SameX [D, b] H2 H3 ∧ BoxAt H3 b (n + 2 + i) ∧ ∃ cs : List Nat, H3 D = some (.lst ((cs.map fun c => (⟨#[c]⟩ : Str)).map V.str)) ∧ cs.length = i ∧ (cs.all fun c => decide (97 ≤ c) && decide (c ≤ 122)) = true)
        ⟨sameX_upd List.mem_cons_self, ?_, [], upd_same, rfl, rfl⟩ (fun _ _ _ _ => trivial) ?_ ?_⟩
      · have pD : b ≠ D := (b2.new nD).symm
        obtain ⟨x, y, c, z, z2⟩ := b2
        exact ⟨x, y, c, by rw [upd_ne pD]; exact z, z2⟩
      · rintro i x H3 H3' hi ⟨s3, b3, cs, hD, hl, ha⟩ ⟨rfl, rfl⟩
        have pD : D ≠ b := b2.new nD
        refine ⟨rfl, tYes_ok ⟨_, rfl, b, _, _, rfl, b3, by omega, .inl ⟨_, rfl, by decide +kernel, by decide +kernel, fun c H4 hc s4 b4 => ?_⟩⟩⟩
        have hD4 : H4 D = some (.lst ((cs.map fun c => (⟨#[c]⟩ : Str)).map V.str)) := s4 D _ (fun z => pD (List.mem_singleton.mp z)) hD
        refine ⟨_, hD4, small1000 (by rw [List.length_map, List.length_map]; omega), s3.trans ((s4.sub fun z hz => List.mem_cons_of_mem _ hz).trans (sameX_upd List.mem_cons_self)), ?_, cs ++ [c], ?_, ?_, ?_⟩
        · obtain ⟨u1, u2, u3, z, z2⟩ := b4
          exact ⟨u1, u2, u3, by rw [upd_ne pD.symm]; exact z, by omega⟩
        · rw [upd_same, List.map_append, List.map_append]
          rfl
        · rw [List.length_append, hl]
          rfl
        · rw [List.all_append, ha, Bool.true_and]
          have hc2 := List.all_eq_true.mp letters_ok c hc
          simpa using hc2
      · rintro H3 ⟨s3, b3, cs, hD, hl, ha⟩
        refine ⟨_, D, _, rfl, rfl, .inl (SqL.of hD), ?_, q _ _ (glued_word (by omega) (by omega) ha) ?_ (b3.le (by omega))⟩
        · rw [sing_len, List.length_map]
          show cs.length + cs.length * 0 ≤ _
          omega
        · refine s1.trans (s2.trans fun c o z e => s3 c o (fun y => ?_) e)
          rcases List.mem_cons.mp y with y | y
          · exact ne_of_none e nD y
          · exact z y
end
end KV

namespace KV
open PySem PySem.Spec PyProof.Rows L2 RZ
/-- a letter, eight times -/
def eight (c : Nat) : Str := ⟨#[c, c, c, c, c, c, c, c]⟩
def rMul8 : R2 := fun x y H Q => ∃ c : Nat, x = .str ⟨#[c]⟩ ∧ y = .int 8 ∧ Q (.str (eight c)) H
theorem op_mul8 {X : Cx} : OpR X (binaryOp .Mult) rMul8 := by
  intro pins s σ H x y v u Q I rx ry h
  obtain ⟨c, rfl, rfl, q⟩ := h
  obtain ⟨t, rfl⟩ := rx
  obtain ⟨t2, rfl⟩ := ry
  refine PySem.P.mul_str (by decide) (fun _ _ => by show ¬ (((1 : Nat) : Int) > (2 ^ 63 - 1) / 8); decide) (fun _ _ => by show Builtin.Str.tooLong (1 * (8 : Int).toNat) = false; decide +kernel) ?_
  rw [if_neg (by decide), if_neg (by show ¬ ((8 : Int) == 1 || (1 : Nat) == 0) = true; decide)]
  have e : (⟨List.foldl (fun x1 x2 => x1 ++ x2) #[] (List.replicate (Int.toNat 8) (⟨#[c]⟩ : Str).cps)⟩ : Str) = eight c := rfl
  rw [e]
  exact ⟨by show 8 ≤ sizeLine; decide, ⟨.str (eight c), H, I.tok _, ⟨_, rfl⟩, q⟩⟩
theorem in_strs (x : Str) (xs : List Str) : inV (.str x) (xs.map V.str) = decide (x ∈ xs) := by
  unfold inV
  rw [List.any_map, Bool.eq_iff_iff, List.any_eq_true, decide_eq_true_eq]
  constructor
  · rintro ⟨y, hy, e⟩
    have e2 : (y == x) = true := e
    rw [← eq_of_beq e2]
    exact hy
  · intro h
    exact ⟨x, h, beq_self_eq_true x⟩
theorem flat_strs (xs : List Str) : (xs.map V.str).all flatV = true := by
  rw [List.all_map, List.all_eq_true]
  intro x _
  rfl
theorem eight_inj {c d : Nat} (h : eight c = eight d) : c = d := by
  have e : [c, c, c, c, c, c, c, c] = [d, d, d, d, d, d, d, d] := congrArg (fun x : Str => x.cps.toList) h
  exact (List.cons.inj e).1
theorem eight_word {c : Nat} (h : (decide (97 ≤ c) && decide (c ≤ 122)) = true) : wordS (eight c) = true := by
  show (decide (0 < 8) && decide (8 ≤ 8) && [c, c, c, c, c, c, c, c].all fun c => decide (97 ≤ c) && decide (c ≤ 122)) = true
  simp only [List.all_cons, h, List.all_nil]
  rfl
def abcs : List Nat := (Str.ofString "abcdefghijklmnopqrstuvwxyz").cps.toList
theorem abcs_nd : abcs.Nodup ∧ abcs.length = 26 := by decide +kernel
theorem fresh_word {xs : List Str} (h : xs.length < 26) : ∃ c ∈ abcs, eight c ∉ xs := by
  refine Classical.byContradiction fun no => ?_
  have all : ∀ c ∈ abcs, eight c ∈ xs := fun c hc => Classical.byContradiction fun z => no ⟨c, hc, z⟩
  have nd : (abcs.map eight).Nodup := by
    rw [List.nodup_iff_pairwise_ne, List.pairwise_map]
    exact (List.nodup_iff_pairwise_ne.mp abcs_nd.1).imp fun h e => h (eight_inj e)
  have le : (abcs.map eight).length ≤ xs.length := by
    have key : ∀ (l m : List Str), l.Nodup → (∀ x ∈ l, x ∈ m) → l.length ≤ m.length := by
      intro l
      induction l with
      | nil => intro m _ _; exact Nat.zero_le _
      | cons x l ih =>
        intro m nd sub
        obtain ⟨n1, n2⟩ := List.nodup_cons.mp nd
        have hx : x ∈ m := sub x List.mem_cons_self
        have q := ih (m.erase x) n2 fun y hy => (List.mem_erase_of_ne (fun z => n1 (by rw [← z]; exact hy))).mpr (sub y (List.mem_cons_of_mem _ hy))
        have e := (List.perm_cons_erase hx).length_eq
        rw [List.length_cons] at e ⊢
        omega
    refine key _ _ nd fun x hx => ?_
    obtain ⟨c, hc, rfl⟩ := List.mem_map.mp hx
    exact all c hc
  rw [List.length_map, abcs_nd.2] at le
  omega
end KV

namespace KV
open PySem PySem.Spec PyProof.Rows L2 RZ
theorem sameX_old {B : List Addr} {H H' : Hp} {D : Addr} (h : SameX (D :: B) H H') (n : H D = none) : SameX B H H' := fun c o z e => h c o (fun y => (List.mem_cons.mp y).elim (ne_of_none e n) z) e
theorem op_notInK {X : Cx} {K : PySem.W.Frag} (h : X.K = K) : OpR X (compareOp .NotIn) (rIn K true) := by
  subst h
  exact op_notIn_seq
section
variable {P : Program} {w : World} {K : PySem.W.Frag} {mg : Str → Option Value} {base : Heap}
/-! ### _law_names -/
def spNames (K : PySem.W.Frag) : Sp := fun vs H Q _ => ∃ (b : Addr) (n m : Nat), vs = [.ref b, .int m] ∧ m ≤ 24 ∧ BoxAt H b n ∧ n + 1000 ≤ 2 ^ 40 ∧
  ∀ (p : Addr) (xs : List Str) (H' : Hp), SameX [b] H H' → H p = none → H' p = some (.lst (xs.map V.str)) → xs.Nodup → (∀ x ∈ xs, wordS x = true) → xs.length = m → BoxAt H' b (n + 24 * m) → Q (.ref p) H'
abbrev nNames : List Str := ["_law_box_here", "_law_many_so", "_law_found", "_law_k", "_law_some", "_law_turn", "_law_letter", "_law_word"]
theorem scNames : FnScope nNames ["_law_box_here", "_law_many_so"] (defScope sNames) :=
  ⟨rfl, rfl, rfl, by decide +kernel, rfl, by decide +kernel, by decide +kernel⟩
theorem ok_names {f fN : Addr} {fd fdN : FuncData} {k : Nat} (F : Fun K "_law_names" "_law_names" sNames f fd) (FN : Fun K "_law_name" "_law_name" sName fN fdN) (bN : Binds K fdN ["_law_box_here"] []) (mN : mg "_law_name" = some (.ref fN))
    (GN : FnOk P w K mg base CX0 (k + 3) fN fdN ["_law_box_here"] (spName K)) (mr : mg "range" = none) : FnOk P w K mg base CX0 (k + 4) f fd ["_law_box_here", "_law_many_so"] (spNames K) := by
  refine F.ok scNames (fun vs H Q E h => ?_) (fun cdv A outer s H vs Q E hr h => ?_)
  · obtain ⟨b, n, m, rfl, _⟩ := h
    rfl
  · obtain ⟨b, n, m, rfl, hm, hB, hn, q⟩ := h
    refine ⟨_, pss_cons (ps_set (i := 2) scNames.nd rfl (.inr rfl) (pe_lst pa_nil))
      (pss_cons (ps_for PassesOwn.never rfl (pi_range1 (by rfl) mr (pa_cons (pv 1) pa_nil)) (pg_name (i := 3) scNames.nd rfl (.inl rfl))
        (pss_cons (ps_set (i := 4) scNames.nd rfl (.inl rfl) (pe_op op_cat
            (pe_lc (own := [("_law_turn", 5)]) (g := gName 5) (tt := tYes) rfl scNames.nd (pi_range1 (by rfl) mr (pa_cons pe_int pa_nil)) (blkOk_by (N := nNames) (sc := defScope sNames) (by decide +kernel))
              (fun _ _ _ _ _ => pg_name (i := 5) scNames.nd rfl (Or.inl rfl)) (fun _ _ _ _ _ => pts_nil) (fun _ _ _ _ _ => pe_call GN hr (by rfl) mN FN.kp bN .nil pass0 (pa_cons (pv 0) pa_nil)))
            (pe_lc (own := [("_law_letter", 6)]) (g := gName 6) (tt := tYes) rfl scNames.nd (pi_str pe_str) (blkOk_by (N := nNames) (sc := defScope sNames) (by decide +kernel))
              (fun _ _ _ _ _ => pg_name (i := 6) scNames.nd rfl (Or.inl rfl)) (fun _ _ _ _ _ => pts_nil) (fun _ _ _ _ _ => pe_op op_mul8 (pv 6) pe_int))))
        (pss_one (ps_expr (pe_bm PySem.F.plainAttrs_list PySem.F.slot_list_append PySem.F.type_list_append mt_append (pv 2) (pa_cons (pe_ix ix_seq
            (pe_lc (own := [("_law_word", 7)]) (g := gName 7) rfl scNames.nd (pi_list (pv 4)) (blkOk_by (N := nNames) (sc := defScope sNames) (by decide +kernel))
              (fun _ _ _ _ _ => pg_name (i := 7) scNames.nd rfl (Or.inl rfl)) (fun _ _ _ _ _ => pts_one (pt_cmpR (op_notInK (K := K) rfl) (pv 7) (pv 2) (by rfl))) (fun _ _ _ _ _ => pv 7)) pe_int (fun _ _ => rfl)) pa_nil))))))
      (pss_one (ps_ret (pv 2)))), ?_⟩
    refine ⟨by decide, fun p np => ?_⟩
    refine ⟨_, rfl, m, rfl, by omega, by omega, for_range (lo := 0) (n := (m : Int).toNat) (fun i σ H' => ∃ x3 x4 xs, σ = [some (.ref b), some (.int m), some (.ref p), x3, x4, none, none, none] ∧ SameX [p, b] H H' ∧ BoxAt H' b (n + 24 * i) ∧ H' p = some (.lst (xs.map V.str)) ∧ xs.Nodup ∧ (∀ x ∈ xs, wordS x = true) ∧ xs.length = i)
      ⟨none, none, [], rfl, sameX_upd List.mem_cons_self, ?_, upd_same, List.nodup_nil, fun x hx => absurd hx List.not_mem_nil, rfl⟩ ?_ ?_⟩
    · have pb : b ≠ p := (hB.new np).symm
      obtain ⟨x, y, c, z, z2⟩ := hB
      exact ⟨x, y, c, by rw [upd_ne pb]; exact z, z2⟩
    · rintro i σ H1 hi ⟨x3, x4, xs, rfl, s1, b1, hp, nd, wf, hl⟩
      have pb : p ≠ b := hB.new np
      -- two names
      refine ⟨2, rfl, by decide, by decide, fun D nD => lc_it (walk_range (lo := 0) (n := 2)) (fun j H3 => SameX [D, b] H1 H3 ∧ BoxAt H3 b (n + 24 * i + 12 * j) ∧ ∃ ys : List Str, H3 D = some (.lst (ys.map V.str)) ∧ ys.length = j ∧ ∀ y ∈ ys, wordS y = true)
        ⟨sameX_upd List.mem_cons_self, ?_, [], upd_same, rfl, fun y hy => absurd hy List.not_mem_nil⟩ (fun _ _ _ _ => trivial) ?_ ?_⟩
      · have bD : b ≠ D := (b1.new nD).symm
        obtain ⟨x, y, c, z, z2⟩ := b1
        exact ⟨x, y, c, by rw [upd_ne bD]; exact z, z2⟩
      · rintro j x H3 H3' hj ⟨s3, b3, ys, hD, ly, wy⟩ ⟨rfl, rfl⟩
        have Db : D ≠ b := b1.new nD
        refine ⟨rfl, tYes_ok ⟨_, rfl, b, _, rfl, b3, by omega, fun y H4 hw s4 b4 => ?_⟩⟩
        have hD4 : H4 D = some (.lst (ys.map V.str)) := s4 D _ (fun z => Db (List.mem_singleton.mp z)) hD
        refine ⟨_, hD4, small1000 (by rw [List.length_map]; omega), s3.trans ((s4.sub fun z hz => List.mem_cons_of_mem _ hz).trans (sameX_upd List.mem_cons_self)), ?_, ys ++ [y], ?_, ?_, ?_⟩
        · obtain ⟨u1, u2, u3, z, z2⟩ := b4
          exact ⟨u1, u2, u3, by rw [upd_ne Db.symm]; exact z, by omega⟩
        · rw [upd_same, List.map_append]
          rfl
        · rw [List.length_append, ly]
          rfl
        · intro z hz
          rcases List.mem_append.mp hz with hz | hz
          · exact wy z hz
          · rw [List.mem_singleton.mp hz]
            exact hw
      rintro H2 ⟨s2, b2, ys, hD, ly, wy⟩
      have Db : D ≠ b := b1.new nD
      have pD : p ≠ D := fun e => by rw [e, nD] at hp; cases hp
      have hp2 : H2 p = some (.lst (xs.map V.str)) := s2 p _ (fun z => (List.mem_cons.mp z).elim pD fun z => pb (List.mem_singleton.mp z)) hp
      -- letters, eight times
      refine ⟨_, rfl, fun D2 nD2 => lc_it (walk_str (z := Str.ofString "abcdefghijklmnopqrstuvwxyz")) (fun j H3 => SameX [D2] H2 H3 ∧ H3 D2 = some (.lst (((abcs.take j).map eight).map V.str))) ⟨sameX_upd List.mem_cons_self, upd_same⟩ (fun _ _ _ _ => trivial) ?_ ?_⟩
      · rintro j x H3 H3' hj ⟨s3, hD2⟩ ⟨rfl, c, hc, rfl⟩
        have hc2 : abcs[j]? = some c := by
          rw [← hc]
          exact Array.getElem?_toList
        refine ⟨rfl, tYes_ok ⟨_, rfl, c, rfl, rfl, _, hD2, small1000 ?_, s3.trans (sameX_upd List.mem_cons_self), ?_⟩⟩
        · rw [List.length_map, List.length_map, List.length_take]
          have := abcs_nd.2
          omega
        · rw [upd_same, take_snoc hc2, List.map_append, List.map_append]
          rfl
      rintro H3 ⟨s3, hD2⟩
      have e26 : abcs.take (Str.ofString "abcdefghijklmnopqrstuvwxyz").cps.size = abcs := List.take_of_length_le (by rw [Array.length_toList.symm.trans rfl]; exact Nat.le_refl _)
      rw [e26] at hD2
      have DD2 : D ≠ D2 := fun e => by rw [e, nD2] at hD; cases hD
      have pD2 : p ≠ D2 := fun e => by rw [e, nD2] at hp2; cases hp2
      have hD3 : H3 D = some (.lst (ys.map V.str)) := s3 D _ (fun z => DD2 (List.mem_singleton.mp z)) hD
      have hp3 : H3 p = some (.lst (xs.map V.str)) := s3 p _ (fun z => pD2 (List.mem_singleton.mp z)) hp2
      refine ⟨D, D2, _, _, rfl, rfl, hD3, hD2, ?_, fun r nr => ?_⟩
      · rw [List.length_map, List.length_map, List.length_map, abcs_nd.2, ly]
        decide
      have pr : p ≠ r := fun e => by rw [e, nr] at hp3; cases hp3
      have br : BoxAt H3 b (n + 24 * i + 24) := by
        obtain ⟨u1, u2, u3, z, z2⟩ := b2
        exact ⟨u1, u2, u3, s3 b _ (fun y => by rw [List.mem_singleton.mp y, nD2] at z; cases z) z, z2⟩
      have ews : ys.map V.str ++ (abcs.map eight).map V.str = (ys ++ abcs.map eight).map V.str := by rw [List.map_append]
      rw [ews]
      have hr4 : (upd H3 r (.lst ((ys ++ abcs.map eight).map V.str))) r = some (.lst ((ys ++ abcs.map eight).map V.str)) := upd_same
      have hp4 : (upd H3 r (.lst ((ys ++ abcs.map eight).map V.str))) p = some (.lst (xs.map V.str)) := by rw [upd_ne pr]; exact hp3
      have s4 : Same H3 (upd H3 r (.lst ((ys ++ abcs.map eight).map V.str))) := same_upd nr
      have b4 := br.same s4
      have wall : ∀ x ∈ ys ++ abcs.map eight, wordS x = true := fun x hx => by
        rcases List.mem_append.mp hx with hx | hx
        · exact wy x hx
        · obtain ⟨c, hc, rfl⟩ := List.mem_map.mp hx
          exact eight_word (List.all_eq_true.mp letters_ok c hc)
      have wlen : (ys ++ abcs.map eight).length = 28 := by rw [List.length_append, List.length_map, abcs_nd.2, ly]
      obtain ⟨c0, hc0, hn0⟩ := fresh_word (xs := xs) (by omega)
      have hin : eight c0 ∈ ys ++ abcs.map eight := List.mem_append_right _ (List.mem_map.mpr ⟨c0, hc0, rfl⟩)
      generalize upd H3 r (.lst ((ys ++ abcs.map eight).map V.str)) = H4 at hr4 hp4 s4 b4
      generalize ys ++ abcs.map eight = ws at hr4 wall wlen hin
      refine ⟨_, rfl, .inl ⟨rfl, _, .inl (.inl hp4)⟩, _, rfl, r, rfl, ⟨_, SqL.of hr4⟩, fun D3 nD3 => lc_it (walk_list (xs := ws.map V.str)) (fun j H5 => SameX [D3] H4 H5 ∧ H5 D3 = some (.lst (((ws.take j).filter fun x => !decide (x ∈ xs)).map V.str)))
        ⟨sameX_upd List.mem_cons_self, upd_same⟩ (fun j H5 _ z => ?_) ?_ ?_⟩
      · exact SqL.of (z.1 r _ (fun y => by rw [List.mem_singleton.mp y, nD3] at hr4; cases hr4) hr4)
      · rintro j x H5 H5' hj ⟨s5, hD5⟩ ⟨rfl, hx⟩
        rw [List.getElem?_map] at hx
        obtain ⟨y, hy, rfl⟩ := Option.map_eq_some_iff.mp hx
        have hp5 : H5' p = some (.lst (xs.map V.str)) := s5 p _ (fun y => by rw [List.mem_singleton.mp y, nD3] at hp4; cases hp4) hp4
        refine ⟨rfl, _, rfl, _, rfl, p, _, rfl, .inl (SqL.of hp5), rfl, flat_strs xs, _, rfl, ?_⟩
        rw [in_strs]
        have ef : (ws.take (j + 1)).filter (fun x => !decide (x ∈ xs)) = (ws.take j).filter (fun x => !decide (x ∈ xs)) ++ (if (!decide (y ∈ xs)) = true then [y] else []) := by
          rw [take_snoc hy, List.filter_append, List.filter_cons, List.filter_nil]
        cases hk : (!decide (y ∈ xs)) with
        | true =>
          rw [hk] at ef
          refine iteT ⟨_, rfl, _, hD5, small1000 ?_, s5.trans (sameX_upd List.mem_cons_self), ?_⟩
          · rw [List.length_map]
            have h1 := List.length_filter_le (fun x => !decide (x ∈ xs)) (ws.take j)
            rw [List.length_take] at h1
            omega
          · rw [upd_same, ef, List.map_append]
            rfl
        | false =>
          rw [hk] at ef
          refine iteF ⟨s5, ?_⟩
          rw [hD5, ef]
          exact congrArg _ (congrArg _ (by simp))
      · rintro H5 ⟨s5, hD5⟩
        rw [List.length_map, List.take_length] at hD5
        have hne : eight c0 ∈ ws.filter (fun x => !decide (x ∈ xs)) := List.mem_filter.mpr ⟨hin, by rw [decide_eq_false hn0]; rfl⟩
        obtain ⟨w0, rest, hw⟩ : ∃ w0 rest, ws.filter (fun x => !decide (x ∈ xs)) = w0 :: rest := by
          cases hq : ws.filter (fun x => !decide (x ∈ xs)) with
          | nil => rw [hq] at hne; exact absurd hne List.not_mem_nil
          | cons w0 rest => exact ⟨w0, rest, rfl⟩
        have hw0 : w0 ∈ ws ∧ w0 ∉ xs := by
          have z : w0 ∈ ws.filter (fun x => !decide (x ∈ xs)) := by rw [hw]; exact List.mem_cons_self
          have z2 := List.mem_filter.mp z
          exact ⟨z2.1, fun y => by rw [decide_eq_true y] at z2; exact nomatch z2.2⟩
        rw [hw] at hD5
        have p3 : p ≠ D3 := fun e => by rw [e, nD3] at hp4; cases hp4
        have hp5 : H5 p = some (.lst (xs.map V.str)) := s5 p _ (fun y => p3 (List.mem_singleton.mp y)) hp4
        have b5 : BoxAt H5 b (n + 24 * i + 24) := by
          obtain ⟨u1, u2, u3, z, z2⟩ := b4
          exact ⟨u1, u2, u3, s5 b _ (fun y => by rw [List.mem_singleton.mp y, nD3] at z; cases z) z, z2⟩
        refine .inl ⟨D3, _, 0, .str w0, rfl, rfl, SqL.of hD5, atI_nat (j := 0) rfl, p, _, _, rfl, rfl, hp5, small1000 (by rw [List.length_map]; omega), _, _, xs ++ [w0], rfl, ?_, ?_, ?_, ?_, ?_, ?_⟩
        · refine s1.trans (SameX.trans (fun c o z e => ?_) (sameX_upd List.mem_cons_self))
          have cD : c ≠ D := ne_of_none e nD
          have e2 := s2 c o (fun y => (List.mem_cons.mp y).elim cD fun y => z (List.mem_cons_of_mem _ y)) e
          have e3 := s3 c o (fun y => ne_of_none e2 nD2 (List.mem_singleton.mp y)) e2
          have e4 := s4 c o e3
          exact s5 c o (fun y => ne_of_none e4 nD3 (List.mem_singleton.mp y)) e4
        · obtain ⟨u1, u2, u3, z, z2⟩ := b5
          exact ⟨u1, u2, u3, by rw [upd_ne pb.symm]; exact z, by omega⟩
        · rw [upd_same, List.map_append]
          rfl
        · refine List.nodup_append.mpr ⟨nd, List.nodup_cons.mpr ⟨List.not_mem_nil, List.nodup_nil⟩, fun x hx y hy e => ?_⟩
          rw [List.mem_singleton.mp hy] at e
          exact hw0.2 (by rw [← e]; exact hx)
        · intro x hx
          rcases List.mem_append.mp hx with hx | hx
          · exact wf x hx
          · rw [List.mem_singleton.mp hx]
            exact wall _ hw0.1
        · rw [List.length_append, hl]
          rfl
    · rintro σ H1 ⟨x3, x4, xs, rfl, s1, b1, hp, nd, wf, hl⟩
      exact ⟨_, rfl, q p xs H1 (sameX_old s1 np) np hp nd wf (by omega) (b1.le (by omega))⟩
end
end KV

namespace KV
open PySem PySem.Spec PyProof.Rows L2 RZ
theorem dp_new {K : PySem.W.Frag} {B : List Addr} {H : Hp} {p : Addr} {xs : List V} {ds : List PyData} (lv : Live B H) (n : H p = none) (h : DpAll K (hide B H) xs ds) : Dp K (hide B (upd H p (.tup xs))) (.ref p) (.tuple ds) :=
  .tup (SqT.of (hide_new lv n)) (dps_same (hide_grow lv n) h)
theorem dps_strs {K : PySem.W.Frag} {H : Hp} : ∀ xs : List Str, DpAll K H (xs.map V.str) (xs.map PyData.str)
  | [] => .nil
  | x :: xs => .cons (.str x) (dps_strs xs)
/-- a drawn SETUP -/
def SetupD (l : Nat) (d : PyData) : Prop := ∃ (sp rm : Int) (ps : List Str) (ss : List PyData), d = .tuple [.int sp, .int rm, .tuple (ps.map PyData.str), .tuple ss] ∧ 1 ≤ sp ∧ sp ≤ 6 ∧ 1 ≤ rm ∧ rm ≤ 8 ∧ (∀ p ∈ ps, wordS p = true) ∧ ascS ps = true ∧
  l ≤ ps.length ∧ ps.length ≤ 4 ∧ ss.length ≤ 5 ∧ ∀ e ∈ ss, e = .none ∨ ∃ p ∈ ps, e = .str p
theorem op_catK {X : Cx} {K : PySem.W.Frag} (h : X.K = K) : OpR X (binaryOp .Add) (rCatA K) := by
  subst h
  exact op_catA
def oV : Option Str → V
  | none => .non
  | some x => .str x
def oD : Option Str → PyData
  | none => .none
  | some x => .str x
theorem dps_opts {K : PySem.W.Frag} {H : Hp} : ∀ es : List (Option Str), DpAll K H (es.map oV) (es.map oD)
  | [] => .nil
  | none :: xs => .cons .non (dps_opts xs)
  | some x :: xs => .cons (.str x) (dps_opts xs)
theorem opt_at {ys : List Str} {i : Nat} {x : V} (h : (ys.map V.str ++ [V.non])[i]? = some x) : ∃ e : Option Str, x = oV e ∧ (e = none ∨ ∃ p ∈ ys, e = some p) := by
  have m := List.mem_of_getElem? h
  rcases List.mem_append.mp m with m | m
  · obtain ⟨y, hy, rfl⟩ := List.mem_map.mp m
    exact ⟨some y, rfl, .inr ⟨y, hy, rfl⟩⟩
  · exact ⟨none, List.mem_singleton.mp m, .inl rfl⟩
section
variable {P : Program} {w : World} {K : PySem.W.Frag} {mg : Str → Option Value} {base : Heap}
theorem BoxAt.up {H H' : Hp} {b : Addr} {n : Nat} (h : BoxAt H b n) {B : List Addr} (s : SameX B H H') (nb : b ∉ B) : BoxAt H' b n := by
  obtain ⟨x, y, c, z, z2⟩ := h
  exact ⟨x, y, c, s b _ nb z, z2⟩
theorem BoxAt.live {H : Hp} {b : Addr} {n : Nat} (h : BoxAt H b n) : H b ≠ none := by
  obtain ⟨x, y, c, z, z2⟩ := h
  rw [z]
  exact fun e => nomatch e
/-! ### _law_named_setup -/
def spNamed (K : PySem.W.Frag) : Sp := fun vs H Q _ => ∃ (B : List Addr) (b : Addr) (n l : Nat), vs = [.ref b, .int l] ∧ l ≤ 4 ∧ b ∈ B ∧ Live B H ∧ BoxAt H b n ∧ n + 2000 ≤ 2 ^ 40 ∧
  ∀ (v : V) (d : PyData) (H' : Hp), SetupD l d → SameX [b] H H' → BoxAt H' b (n + 400) → Dp K (hide B H') v d → Q v H'
abbrev nNamed : List Str := ["_law_box_here", "_law_least_so", "_law_pipes_so", "_law_slots_so", "_law_turn"]
theorem scNamed : FnScope nNamed ["_law_box_here", "_law_least_so"] (defScope sNamed) :=
  ⟨rfl, rfl, rfl, by decide +kernel, rfl, by decide +kernel, by decide +kernel⟩
theorem ok_named {f fT fO fN : Addr} {fd fdT fdO fdN : FuncData} {k : Nat} (F : Fun K "_law_named_setup" "_law_named_setup" sNamed f fd)
    (FT : Fun K "_law_take" "_law_take" sTake fT fdT) (bT : Binds K fdT ["_law_box_here", "_law_below"] []) (mT : mg "_law_take" = some (.ref fT)) (GT : FnOk P w K mg base CX0 (k + 4) fT fdT ["_law_box_here", "_law_below"] spTake)
    (FO : Fun K "_law_of" "_law_of" sOf fO fdO) (bO : Binds K fdO ["_law_box_here", "_law_some"] []) (mO : mg "_law_of" = some (.ref fO)) (GO : FnOk P w K mg base CX0 (k + 4) fO fdO ["_law_box_here", "_law_some"] (spOf K))
    (FN : Fun K "_law_names" "_law_names" sNames fN fdN) (bN : Binds K fdN ["_law_box_here", "_law_many_so"] []) (mN : mg "_law_names" = some (.ref fN)) (GN : FnOk P w K mg base CX0 (k + 4) fN fdN ["_law_box_here", "_law_many_so"] (spNames K))
    (mr : mg "range" = none) (mt : mg "tuple" = none) (ms : mg "sorted" = none) : FnOk P w K mg base CX0 (k + 5) f fd ["_law_box_here", "_law_least_so"] (spNamed K) := by
  refine F.ok scNamed (fun vs H Q E h => ?_) (fun cdv A outer s H vs Q E hr h => ?_)
  · obtain ⟨B, b, n, l, rfl, _⟩ := h
    rfl
  · obtain ⟨B, b, n, l, rfl, hl, hb, lv, hB, hn, q⟩ := h
    refine ⟨_, pss_cons (ps_set (i := 2) scNamed.nd rfl (.inr rfl) (pe_callTy call_tuple_of (by rfl) mt PyProof.Rows.boot_tuple (pa_cons (pe_callB cr_sortedS (by rfl) ms boot_sorted (pa_cons
          (pe_call GN hr (by rfl) mN FN.kp bN .nil pass0 (pa_cons (pv 0) (pa_cons (pe_op op_add (pv 1) (pe_call GT hr (by rfl) mT FT.kp bT .nil pass0 (pa_cons (pv 0) (pa_cons (pe_op op_sub pe_int (pv 1)) pa_nil)))) pa_nil))) pa_nil)) pa_nil)))
      (pss_cons (ps_setLc (i := 3) (own := [("_law_turn", 4)]) (g := gName 4) (tt := tYes) rfl scNamed.nd rfl rfl (sw_true rfl rfl rfl (by decide +kernel))
          (pi_range1 (by rfl) mr (pa_cons (pe_call GT hr (by rfl) mT FT.kp bT .nil pass0 (pa_cons (pv 0) (pa_cons pe_int pa_nil))) pa_nil)) (blkOk_by (N := nNamed) (sc := defScope sNamed) (by decide +kernel))
          (fun _ _ _ _ _ => pg_name (i := 4) scNamed.nd rfl (Or.inl rfl)) (fun _ _ _ _ _ => pts_nil) (fun _ _ _ _ _ => pe_call GO hr (by rfl) mO FO.kp bO .nil pass0 (pa_cons (pv 0) (pa_cons (pe_op (op_catK (K := K) rfl) (pv 2) (pe_tup (pa_cons pe_non pa_nil))) pa_nil))))
      (pss_one (ps_ret (pe_tup (pa_cons (pe_op op_add pe_int (pe_call GT hr (by rfl) mT FT.kp bT .nil pass0 (pa_cons (pv 0) (pa_cons pe_int pa_nil)))) (pa_cons (pe_op op_add pe_int (pe_call GT hr (by rfl) mT FT.kp bT .nil pass0 (pa_cons (pv 0) (pa_cons pe_int pa_nil))))
        (pa_cons (pv 2) (pa_cons (pe_callTy call_tuple_of (by rfl) mt PyProof.Rows.boot_tuple (pa_cons (pv 3) pa_nil)) pa_nil)))))))), ?_⟩
    refine ⟨_, rfl, _, rfl, _, rfl, _, rfl, _, _, rfl, rfl, b, n, 5 - l, rfl, by omega, by omega, hB, by omega, fun r H1 r0 r1 s1 b1 => ?_⟩
    obtain ⟨j, rfl⟩ : ∃ j : Nat, r = j := ⟨r.toNat, by omega⟩
    refine ⟨_, _, rfl, rfl, b, n + 1, l + j, congrArg (fun z => [V.ref b, V.int z]) (Int.natCast_add l j).symm, by omega, b1, by omega, fun p xs H2 s2 np hp nd wf hlen b2 => ?_⟩
    refine ⟨p, xs, rfl, SqL.of hp, by omega, fun ys p2 pm hs np2 => ⟨p2, _, rfl, .inl ⟨SqL.of upd_same, fun p3 np3 => ?_⟩⟩⟩
    have lys : ys.length = l + j := by rw [pm.length_eq, hlen]
    have asc : ascS ys = true := pw_ascS _ (strict_of (sorted_pw hs) (pm.nodup_iff.mpr nd))
    have wys : ∀ y ∈ ys, wordS y = true := fun y hy => wf y (pm.mem_iff.mp hy)
    have s3 : SameX [b] H (upd (upd H2 p2 (.lst (ys.map V.str))) p3 (.tup (ys.map V.str))) := s1.trans (s2.trans (SameX.of ((same_upd np2).trans (same_upd np3))))
    have b3 := b2.same ((same_upd (o := .lst (ys.map V.str)) np2).trans (same_upd (o := .tup (ys.map V.str)) np3))
    have hp3 : (upd (upd H2 p2 (.lst (ys.map V.str))) p3 (.tup (ys.map V.str))) p3 = some (.tup (ys.map V.str)) := upd_same
    have lv2 : Live B H2 := (s1.trans s2).live lv fun c hc => by rw [List.mem_singleton.mp hc]; exact b2.live
    have p3B : p3 ∉ B := (lv2.upd (p := p2)).new np3
    generalize upd (upd H2 p2 (.lst (ys.map V.str))) p3 (.tup (ys.map V.str)) = H3 at s3 b3 hp3
    refine ⟨_, rfl, b, _, 6, rfl, by decide, by decide, b3, by omega, fun r2 H4 r20 r21 s4 b4 => ?_⟩
    have p3b : p3 ≠ b := fun e => by
      obtain ⟨_, _, _, z, _⟩ := b3
      rw [e, z] at hp3
      cases hp3
    have hp4 : H4 p3 = some (.tup (ys.map V.str)) := s4 p3 _ (fun z => p3b (List.mem_singleton.mp z)) hp3
    refine ⟨r2, rfl, by omega, by omega, fun D nD => lc_it (walk_range (lo := 0) (n := r2.toNat)) (fun i H5 => SameX [D, b] H4 H5 ∧ BoxAt H5 b (n + 200 + i) ∧ ∃ es : List (Option Str), H5 D = some (.lst (es.map oV)) ∧ es.length = i ∧ ∀ e ∈ es, e = none ∨ ∃ p ∈ ys, e = some p)
      ⟨sameX_upd List.mem_cons_self, ?_, [], upd_same, rfl, fun y hy => absurd hy List.not_mem_nil⟩ (fun _ _ _ _ => trivial) ?_ ?_⟩
    · have bD : b ≠ D := (b4.new nD).symm
      obtain ⟨x, y, c, z, z2⟩ := b4
      exact ⟨x, y, c, by rw [upd_ne bD]; exact z, by omega⟩
    · rintro i x H5 H5' hi ⟨s5, b5, es, hD, le, we⟩ ⟨rfl, rfl⟩
      have Db : D ≠ b := b4.new nD
      have pD : p3 ≠ D := fun e => by rw [e, nD] at hp4; cases hp4
      have hp5 : H5' p3 = some (.tup (ys.map V.str)) := s5 p3 _ (fun z => (List.mem_cons.mp z).elim pD fun z => p3b (List.mem_singleton.mp z)) hp4
      refine ⟨rfl, tYes_ok ⟨_, rfl, _, rfl, by show 1 ≤ sizeLine; decide, fun t nt => ?_⟩⟩
      have hp6 : (upd H5' t (.tup [V.non])) p3 = some (.tup (ys.map V.str)) := same_upd nt _ _ hp5
      have ht6 : (upd H5' t (.tup [V.non])) t = some (.tup [V.non]) := upd_same
      have s6 : Same H5' (upd H5' t (.tup [V.non])) := same_upd nt
      generalize upd H5' t (.tup [V.non]) = H6 at hp6 ht6 s6
      have b6 := b5.same s6
      have fin : ∀ (u : Addr) (H7 : Hp), Same H6 H7 → H7 u = some (.tup (ys.map V.str ++ [V.non])) → spOf K [.ref b, .ref u] H7 (fun y H4_1 => ∃ acc, H4_1 D = some (.lst acc) ∧ acc.length < sizeLine ∧ SameX [D, b] H4 (upd H4_1 D (.lst (acc ++ [y]))) ∧
          BoxAt (upd H4_1 D (.lst (acc ++ [y]))) b (n + 200 + (i + 1)) ∧ ∃ es : List (Option Str), (upd H4_1 D (.lst (acc ++ [y]))) D = some (.lst (es.map oV)) ∧ es.length = i + 1 ∧ ∀ e ∈ es, e = none ∨ ∃ p ∈ ys, e = some p) E0 := by
        intro u H7 s7 hu
        have b7 := b6.same s7
        have ub : u ≠ b := fun e => by
          obtain ⟨_, _, _, z, _⟩ := b7
          rw [e, z] at hu
          cases hu
        refine ⟨b, _, .ref u, rfl, b7, by omega, .inr ⟨[b], u, _, rfl, List.mem_singleton.mpr rfl, .inr (SqT.of (by rw [hide_out (fun z => ub (List.mem_singleton.mp z))]; exact hu)), by rw [List.length_append]; exact Nat.succ_pos _, ?_, fun k x H8 hx s8 b8 => ?_⟩⟩
        · rw [List.length_append, List.length_map, lys]
          show l + j + 1 ≤ 1000
          omega
        · obtain ⟨e, rfl, he⟩ := opt_at hx
          have hD8 : H8 D = some (.lst (es.map oV)) := s8 D _ (fun z => Db (List.mem_singleton.mp z)) (s7 _ _ (s6 _ _ hD))
          refine ⟨_, hD8, small1000 (by rw [List.length_map]; omega), ?_, ?_, es ++ [e], ?_, ?_, ?_⟩
          · exact s5.trans ((SameX.of (s6.trans s7)).trans ((s8.sub fun z hz => List.mem_cons_of_mem _ hz).trans (sameX_upd List.mem_cons_self)))
          · obtain ⟨u1, u2, u3, z, z2⟩ := b8
            exact ⟨u1, u2, u3, by rw [upd_ne Db.symm]; exact z, by omega⟩
          · rw [upd_same, List.map_append]
            rfl
          · rw [List.length_append, le]
            rfl
          · intro y hy
            rcases List.mem_append.mp hy with hy | hy
            · exact we y hy
            · rw [List.mem_singleton.mp hy]
              exact he
      refine ⟨p3, t, _, _, rfl, rfl, SqT.of hp6, SqT.of ht6, ?_, fun e0 => ?_, fun _ e0 => (nomatch e0), fun _ _ u nu => ?_⟩
      · rw [List.length_map, lys]
        show l + j + 1 ≤ sizeLine
        rw [sizeLine_eq]
        omega
      · exact fin t H6 (fun _ _ z => z) (by rw [e0]; exact ht6)
      · exact fin u _ (same_upd nu) upd_same
    · rintro H5 ⟨s5, b5, es, hD, le, we⟩
      have Db : D ≠ b := b4.new nD
      have pD : p3 ≠ D := fun e => by rw [e, nD] at hp4; cases hp4
      have hp5 : H5 p3 = some (.tup (ys.map V.str)) := s5 p3 _ (fun z => (List.mem_cons.mp z).elim pD fun z => p3b (List.mem_singleton.mp z)) hp4
      refine ⟨_, rfl, b, _, 6, rfl, by decide, by decide, b5, by omega, fun r5 H6 r50 r51 s6 b6 => ⟨_, _, rfl, rfl, _, rfl, b, _, 8, rfl, by decide, by decide, b6, by omega, fun r6 H7 r60 r61 s7 b7 => ⟨_, _, rfl, rfl, _, rfl, _, rfl, D, es.map oV, rfl, .inl ⟨SqL.of ?_, fun p5 np5 => ⟨by show 4 ≤ sizeLine; decide, fun p6 np6 => ?_⟩⟩⟩⟩⟩
      · exact s7 D _ (fun z => Db (List.mem_singleton.mp z)) (s6 D _ (fun z => Db (List.mem_singleton.mp z)) hD)
      · have S7 : SameX [b] H H7 := s3.trans (s4.trans ((sameX_old s5 nD).trans (s6.trans s7)))
        have lv7 : Live B H7 := S7.live lv fun c hc => by rw [List.mem_singleton.mp hc]; exact b7.live
        have hp7 : H7 p3 = some (.tup (ys.map V.str)) := s7 p3 _ (fun z => p3b (List.mem_singleton.mp z)) (s6 p3 _ (fun z => p3b (List.mem_singleton.mp z)) hp5)
        have d3 : Dp K (hide B H7) (.ref p3) (.tuple (ys.map PyData.str)) := .tup (SqT.of (by rw [hide_out p3B]; exact hp7)) (dps_strs ys)
        have d5 := dp_new (K := K) lv7 np5 (dps_opts es)
        have d6 := dp_new (K := K) (lv7.upd (p := p5) (o := .tup (es.map oV))) np6 (.cons (.int (1 + r5)) (.cons (.int (1 + r6)) (.cons (dp_same (hide_grow lv7 np5) d3) (.cons d5 .nil))))
        refine q _ _ _ ⟨1 + r5, 1 + r6, ys, es.map oD, rfl, by omega, by omega, by omega, by omega, wys, asc, by omega, by omega, by rw [List.length_map]; omega, fun e he => ?_⟩ (S7.trans (SameX.of ((same_upd np5).trans (same_upd np6)))) ((b7.same ((same_upd np5).trans (same_upd np6))).le (by omega)) d6
        obtain ⟨o, ho, rfl⟩ := List.mem_map.mp he
        rcases we o ho with rfl | ⟨y, hy, rfl⟩
        · exact .inl rfl
        · exact .inr ⟨y, hy, rfl⟩
end
end KV

namespace KV
open PySem PySem.Spec PyProof.Rows L2 RZ
/-! ### data of small leaves, short sequences, little depth -/
mutual
def gD (lf : PyData → Bool) (L : Nat) : PyData → Nat → Bool
  | .list xs, n => decide (0 < n) && decide (xs.length ≤ L) && gDs lf L xs (n - 1)
  | .tuple xs, n => decide (0 < n) && decide (xs.length ≤ L) && gDs lf L xs (n - 1)
  | .none, _ => true
  | .bool _, _ => true
  | .int i, _ => lf (.int i)
  | .str x, _ => lf (.str x)
  | .dict _, _ => false
def gDs (lf : PyData → Bool) (L : Nat) : List PyData → Nat → Bool
  | [], _ => true
  | d :: ds, n => gD lf L d n && gDs lf L ds n
end
theorem gDs_all (lf : PyData → Bool) (L : Nat) : ∀ ds n, gDs lf L ds n = ds.all fun d => gD lf L d n
  | [], _ => by simp [gDs]
  | d :: ds, n => by simp [gDs, gDs_all lf L ds n]
theorem gD_seq {lf : PyData → Bool} {L : Nat} {xs : List PyData} {n : Nat} {d : PyData} (hd : d = .list xs ∨ d = .tuple xs) (h : gD lf L d n = true) : ∃ m, n = m + 1 ∧ xs.length ≤ L ∧ gDs lf L xs m = true := by
  have h' : (decide (0 < n) && decide (xs.length ≤ L) && gDs lf L xs (n - 1)) = true := by
    rcases hd with rfl | rfl <;> simpa only [gD] using h
  simp only [Bool.and_eq_true, decide_eq_true_eq] at h'
  obtain ⟨⟨h1, h2⟩, h3⟩ := h'
  exact ⟨n - 1, by omega, h2, h3⟩
theorem gD_mk {lf : PyData → Bool} {L : Nat} {xs : List PyData} {m : Nat} (h1 : xs.length ≤ L) (h2 : gDs lf L xs m = true) : gD lf L (.list xs) (m + 1) = true ∧ gD lf L (.tuple xs) (m + 1) = true := by
  have h : (decide (0 < m + 1) && decide (xs.length ≤ L) && gDs lf L xs (m + 1 - 1)) = true := by
    rw [decide_eq_true (Nat.succ_pos m), decide_eq_true h1, Nat.add_sub_cancel, h2]
    rfl
  exact ⟨by simpa only [gD] using h, by simpa only [gD] using h⟩
mutual
theorem gD_mono {lf lg : PyData → Bool} {L M : Nat} (hl : ∀ d, lf d = true → lg d = true) (hL : L ≤ M) : ∀ (d : PyData) (n m : Nat), n ≤ m → gD lf L d n = true → gD lg M d m = true
  | .list xs, n, m, hn, h => by
    obtain ⟨k, rfl, h1, h2⟩ := gD_seq (.inl rfl) h
    obtain ⟨j, rfl⟩ : ∃ j, m = j + 1 := ⟨m - 1, by omega⟩
    exact (gD_mk (Nat.le_trans h1 hL) (gDs_mono hl hL xs k j (by omega) h2)).1
  | .tuple xs, n, m, hn, h => by
    obtain ⟨k, rfl, h1, h2⟩ := gD_seq (.inr rfl) h
    obtain ⟨j, rfl⟩ : ∃ j, m = j + 1 := ⟨m - 1, by omega⟩
    exact (gD_mk (Nat.le_trans h1 hL) (gDs_mono hl hL xs k j (by omega) h2)).2
  | .none, _, _, _, _ => by simp only [gD]
  | .bool _, _, _, _, _ => by simp only [gD]
  | .int i, _, _, _, h => by
    simp only [gD] at h ⊢
    exact hl _ h
  | .str i, _, _, _, h => by
    simp only [gD] at h ⊢
    exact hl _ h
  | .dict _, _, _, _, h => by simp only [gD] at h; cases h
theorem gDs_mono {lf lg : PyData → Bool} {L M : Nat} (hl : ∀ d, lf d = true → lg d = true) (hL : L ≤ M) : ∀ (ds : List PyData) (n m : Nat), n ≤ m → gDs lf L ds n = true → gDs lg M ds m = true
  | [], _, _, _, _ => by simp only [gDs]
  | d :: ds, n, m, hn, h => by
    simp only [gDs, Bool.and_eq_true] at h ⊢
    exact ⟨gD_mono hl hL d n m hn h.1, gDs_mono hl hL ds n m hn h.2⟩
end
mutual
theorem gD_ok {lf : PyData → Bool} {L : Nat} (hL : L ≤ 1000) : ∀ (d : PyData) (n : Nat), gD lf L d n = true → okD d n = true
  | .list xs, n, h => by
    obtain ⟨k, rfl, h1, h2⟩ := gD_seq (.inl rfl) h
    exact (ok_mk (Nat.le_trans h1 hL) (gDs_ok hL xs k h2)).1
  | .tuple xs, n, h => by
    obtain ⟨k, rfl, h1, h2⟩ := gD_seq (.inr rfl) h
    exact (ok_mk (Nat.le_trans h1 hL) (gDs_ok hL xs k h2)).2
  | .none, _, _ => by simp only [okD]
  | .bool _, _, _ => by simp only [okD]
  | .int i, _, h => by simp only [okD]
  | .str i, _, h => by simp only [okD]
  | .dict _, _, h => by simp only [gD] at h; cases h
theorem gDs_ok {lf : PyData → Bool} {L : Nat} (hL : L ≤ 1000) : ∀ (ds : List PyData) (n : Nat), gDs lf L ds n = true → okDs ds n = true
  | [], _, _ => by simp only [okDs]
  | d :: ds, n, h => by
    simp only [gDs, Bool.and_eq_true] at h
    simp only [okDs, Bool.and_eq_true]
    exact ⟨gD_ok hL d n h.1, gDs_ok hL ds n h.2⟩
end
/-- leaves before, and behind a bend -/
def lf1 : PyData → Bool
  | .int i => decide (i.natAbs ≤ 10 ^ 29)
  | .str x => decide (x.length ≤ 15) && x.cps.toList.all fun c => decide (c < 128)
  | _ => false
def lf2 : PyData → Bool
  | .int i => decide (i.natAbs < 10 ^ 31)
  | .str x => decide (x.length ≤ 60) && x.cps.toList.all fun c => decide (c < 1114112)
  | _ => false
theorem lf12 : ∀ d, lf1 d = true → lf2 d = true
  | .int i, h => by
    have h1 : i.natAbs ≤ 10 ^ 29 := of_decide_eq_true h
    show decide (i.natAbs < 10 ^ 31) = true
    rw [decide_eq_true_eq]
    omega
  | .str x, h => by
    have h1 : (decide (x.length ≤ 15) && x.cps.toList.all fun c => decide (c < 128)) = true := h
    show (decide (x.length ≤ 60) && x.cps.toList.all fun c => decide (c < 1114112)) = true
    rw [Bool.and_eq_true, decide_eq_true_eq, List.all_eq_true] at h1 ⊢
    refine ⟨by omega, fun c hc => ?_⟩
    have h2 := h1.2 c hc
    rw [decide_eq_true_eq] at h2 ⊢
    omega
theorem ofs_len (s : String) : (Str.ofString s).length = s.length := by
  show (Str.ofString s).cps.size = s.length
  rw [Str.ofString_eq_toList]
  simp only [List.size_toArray, List.length_map]
  first
    | exact String.length_toList
    | exact s.length_toList
    | rfl
mutual
theorem gD_dep {lf : PyData → Bool} {L : Nat} : ∀ (d : PyData) (n : Nat), gD lf L d n = true → d.depth ≤ n
  | .list xs, n, h => by
    obtain ⟨m, rfl, _, h2⟩ := gD_seq (.inl rfl) h
    have := gDs_dep xs m h2
    simp only [PyData.depth]
    omega
  | .tuple xs, n, h => by
    obtain ⟨m, rfl, _, h2⟩ := gD_seq (.inr rfl) h
    have := gDs_dep xs m h2
    simp only [PyData.depth]
    omega
  | .none, n, _ => by simp [PyData.depth]
  | .bool _, n, _ => by simp [PyData.depth]
  | .int _, n, _ => by simp [PyData.depth]
  | .str _, n, _ => by simp [PyData.depth]
  | .dict _, n, h => by simp [gD] at h
theorem gDs_dep {lf : PyData → Bool} {L : Nat} : ∀ (ds : List PyData) (n : Nat), gDs lf L ds n = true → PyData.depthAll ds ≤ n
  | [], n, _ => by simp [PyData.depthAll]
  | d :: ds, n, h => by
    simp only [gDs, Bool.and_eq_true] at h
    have h1 := gD_dep d n h.1
    have h2 := gDs_dep ds n h.2
    simp only [PyData.depthAll]
    omega
end
mutual
theorem gD_facts {L : Nat} : ∀ (d : PyData) (n : Nat), gD lf2 L d n = true → d.showable = true ∧ d.hasDict = false ∧ d.leavesShort 130 = true
  | .list xs, n, h => by
    obtain ⟨m, rfl, _, h2⟩ := gD_seq (.inl rfl) h
    have := gDs_facts xs m h2
    simpa only [PyData.showable, PyData.hasDict, PyData.leavesShort] using this
  | .tuple xs, n, h => by
    obtain ⟨m, rfl, _, h2⟩ := gD_seq (.inr rfl) h
    have := gDs_facts xs m h2
    simpa only [PyData.showable, PyData.hasDict, PyData.leavesShort] using this
  | .none, n, _ => ⟨rfl, rfl, rfl⟩
  | .bool _, n, _ => ⟨rfl, rfl, rfl⟩
  | .int i, n, h => by
    have h1 : i.natAbs < 10 ^ 31 := of_decide_eq_true (show decide (i.natAbs < 10 ^ 31) = true by simp only [gD] at h; exact h)
    refine ⟨?_, rfl, ?_⟩
    · show decide (i.natAbs.log2 < 1920) = true
      rw [decide_eq_true_eq]
      by_cases z : i.natAbs = 0
      · rw [z]; decide
      · exact (Nat.log2_lt z).mpr (Nat.lt_trans h1 (by decide +kernel))
    · show decide ((PyData.shown (.int i)).length ≤ 130) = true
      rw [decide_eq_true_eq]
      have e := int_text_length_le10 (k := 31) (by decide) h1
      show (Str.ofString (toString i)).length ≤ 130
      rw [ofs_len]
      omega
  | .str x, n, h => by
    refine ⟨rfl, rfl, ?_⟩
    have h1 : (decide (x.length ≤ 60) && x.cps.toList.all fun c => decide (c < 1114112)) = true := by simp only [gD] at h; exact h
    rw [Bool.and_eq_true] at h1
    show (x.cps.toList.all fun c => decide (c < 16 ^ 8)) = true
    have h2 := h1.2
    rw [List.all_eq_true] at h2 ⊢
    intro c hc
    have h3 := of_decide_eq_true (h2 c hc)
    exact decide_eq_true (by omega)
  | .dict _, n, h => by simp [gD] at h
theorem gDs_facts {L : Nat} : ∀ (ds : List PyData) (n : Nat), gDs lf2 L ds n = true → PyData.showableAll ds = true ∧ PyData.hasDictAll ds = false ∧ PyData.leavesShortAll 130 ds = true
  | [], n, _ => ⟨rfl, rfl, rfl⟩
  | d :: ds, n, h => by
    simp only [gDs, Bool.and_eq_true] at h
    obtain ⟨a1, a2, a3⟩ := gD_facts d n h.1
    obtain ⟨b1, b2, b3⟩ := gDs_facts ds n h.2
    simp only [PyData.showableAll, PyData.hasDictAll, PyData.leavesShortAll, a1, a2, a3, b1, b2, b3, Bool.and_self, Bool.or_self, and_self]
end
def bulkN (L : Nat) : Nat → Nat
  | 0 => 60
  | n + 1 => 60 + L * (bulkN L n + 1)
mutual
theorem gD_bulk {L : Nat} : ∀ (d : PyData) (n : Nat), gD lf2 L d n = true → d.bulk ≤ bulkN L n
  | .list xs, n, h => by
    obtain ⟨m, rfl, h1, h2⟩ := gD_seq (.inl rfl) h
    have h3 := gDs_bulk xs m h2
    have h4 := Nat.mul_le_mul_right (bulkN L m + 1) h1
    simp only [PyData.bulk, bulkN]
    omega
  | .tuple xs, n, h => by
    obtain ⟨m, rfl, h1, h2⟩ := gD_seq (.inr rfl) h
    have h3 := gDs_bulk xs m h2
    have h4 := Nat.mul_le_mul_right (bulkN L m + 1) h1
    simp only [PyData.bulk, bulkN]
    omega
  | .none, n, _ => Nat.zero_le _
  | .bool _, n, _ => Nat.zero_le _
  | .int _, n, _ => Nat.zero_le _
  | .str x, n, h => by
    have h1 : (decide (x.length ≤ 60) && x.cps.toList.all fun c => decide (c < 1114112)) = true := by simp only [gD] at h; exact h
    rw [Bool.and_eq_true, decide_eq_true_eq] at h1
    have h2 : x.cps.size ≤ 60 := h1.1
    simp only [PyData.bulk]
    cases n <;> simp only [bulkN] <;> omega
  | .dict _, n, h => by simp [gD] at h
theorem gDs_bulk {L : Nat} : ∀ (ds : List PyData) (n : Nat), gDs lf2 L ds n = true → PyData.bulkAll ds ≤ ds.length * (bulkN L n + 1)
  | [], n, _ => Nat.zero_le _
  | d :: ds, n, h => by
    simp only [gDs, Bool.and_eq_true] at h
    have h1 := gD_bulk d n h.1
    have h2 := gDs_bulk ds n h.2
    simp only [PyData.bulkAll, List.length_cons, Nat.succ_mul]
    omega
end
theorem gD_size {L n : Nat} {d : PyData} (h : gD lf2 L d n = true) (hb : 132 * bulkN L n + 130 ≤ 16777216) : d.shown.length ≤ sizeLine := by
  have h1 := PyData.shown_le_bulk 130 (by decide) d (gD_facts d n h).2.2
  have h2 := Nat.mul_le_mul_left 132 (gD_bulk d n h)
  rw [sizeLine_eq]
  omega
theorem cps_small (s : String) : (Str.ofString s).cps.toList.all (fun c => decide (c < 1114112)) = true := by
  rw [List.all_eq_true]
  intro c hc
  rw [decide_eq_true_eq]
  rw [Str.ofString_eq_toList] at hc
  have hc2 : c ∈ s.toList.map Char.toNat := by simpa using hc
  obtain ⟨z, _, rfl⟩ := List.mem_map.mp hc2
  have h1 := z.valid
  rcases h1 with h1 | h1
  · have h2 : z.toNat < 0xd800 := h1
    omega
  · exact h1.2
end KV

namespace KV
open PySem PySem.Spec PyProof.Rows L2 RZ Builtin
theorem upper_table : ((List.range 128).all fun c => (Unicode.upperOf c).all fun d => decide (d < 1114112)) = true := by decide +kernel
theorem upper_small {x : Str} (h : (x.cps.toList.all fun c => decide (c < 128)) = true) : ((Txt.upper x).cps.toList.all fun c => decide (c < 1114112)) = true := by
  rw [List.all_eq_true] at h ⊢
  intro c hc
  have hc2 : c ∈ (x.cps.mapIdx fun i c => (Unicode.upperOf c).toArray).flatten := by
    have z : c ∈ (Txt.upper x).cps := Array.mem_toList_iff.mp hc
    exact z
  rw [Array.mem_flatten] at hc2
  obtain ⟨l, hl, hcl⟩ := hc2
  rw [Array.mem_mapIdx] at hl
  obtain ⟨i, hi, rfl⟩ := hl
  have h1 := h _ (Array.mem_toList_iff.mpr (Array.getElem_mem hi))
  rw [decide_eq_true_eq] at h1
  have h2 := List.all_eq_true.mp upper_table _ (List.mem_range.mpr h1)
  exact List.all_eq_true.mp h2 c (by simpa using hcl)
theorem str_good {L n : Nat} {x : Str} (h1 : x.length ≤ 60) (h2 : (x.cps.toList.all fun c => decide (c < 1114112)) = true) : gD lf2 L (.str x) n = true := by
  simp only [gD]
  show (decide (x.length ≤ 60) && x.cps.toList.all fun c => decide (c < 1114112)) = true
  rw [decide_eq_true h1, h2]
  rfl
theorem int_good {L n : Nat} {i : Int} (h : i.natAbs < 10 ^ 31) : gD lf2 L (.int i) n = true := by
  simp only [gD]
  exact decide_eq_true h
theorem all_up {l : List Nat} (h : (l.all fun c => decide (c < 128)) = true) : (l.all fun c => decide (c < 1114112)) = true := by
  rw [List.all_eq_true] at h ⊢
  intro c hc
  have := h c hc
  rw [decide_eq_true_eq] at this ⊢
  omega
theorem bent_add {L n : Nat} {x : Str} (h1 : x.length ≤ 15) (h2 : (x.cps.toList.all fun c => decide (c < 128)) = true) : gD lf2 L (.str (x ++ Str.ofString "x")) n = true := by
  have e : (x ++ Str.ofString "x").cps.toList = x.cps.toList ++ [120] := by
    show (x.cps ++ (Str.ofString "x").cps).toList = _
    rw [Array.toList_append]
    rfl
  refine str_good ?_ ?_
  · rw [← sgn_len, e, List.length_append, sgn_len]
    show x.length + 1 ≤ 60
    omega
  · rw [e, List.all_append, all_up h2]
    rfl
theorem bent_cut {L n : Nat} {x : Str} (lo hi : Option Int) (h1 : x.length ≤ 15) (h2 : (x.cps.toList.all fun c => decide (c < 128)) = true) : gD lf2 L (.str (cutS x lo hi)) n = true := by
  have e : (cutS x lo hi).cps.toList = (x.cps.toList.drop (HT.sIx x.length 0 lo)).take (HT.sIx x.length x.length hi - HT.sIx x.length 0 lo) := rfl
  refine str_good ?_ ?_
  · rw [← sgn_len, e, List.length_take, List.length_drop, sgn_len]
    omega
  · rw [e]
    refine all_up ?_
    rw [List.all_eq_true] at h2 ⊢
    exact fun c hc => h2 c (List.mem_of_mem_drop (List.mem_of_mem_take hc))
theorem bent_up {L n : Nat} {x : Str} (h1 : x.length ≤ 15) (h2 : (x.cps.toList.all fun c => decide (c < 128)) = true) : gD lf2 L (.str (Txt.upper x)) n = true := by
  have := len_upper x
  exact str_good (by omega) (upper_small h2)
theorem bent_int {L n : Nat} {i : Int} (h : i.natAbs < 10 ^ 30) : gD lf2 L (.str (Str.ofString (toString i))) n = true := by
  have := int_text_length_le10 (k := 30) (by decide) h
  exact str_good (by rw [ofs_len]; omega) (cps_small _)
end KV

namespace KV
open PySem PySem.Spec PyProof.Rows L2 RZ
theorem kit_tl {K : PySem.W.Frag} {a : String} {r1 r2 : Bool} (h1 : kitB a "tuple" = some r1) (h2 : kitB a "list" = some r2) : PySem.W.kitAny K (.type a) [.type "tuple", .type "list"] = some (r1 || r2) := by
  cases r1 with
  | true => exact kitAny_cons (kit_ty h1) (fun z => nomatch z) fun _ => rfl
  | false =>
    cases r2 with
    | true => exact kitAny_cons (kit_ty h1) (fun _ => kitAny_cons (kit_ty h2) (fun z => nomatch z) fun _ => rfl) fun z => nomatch z
    | false => exact kitAny_cons (kit_ty h1) (fun _ => kitAny_cons (kit_ty h2) (fun _ => kitAny_nil) fun z => nomatch z) fun z => nomatch z
theorem kit_seq2 {K : PySem.W.Frag} : ∀ (d : PyData), PySem.W.kitAny K (.type (tyD d)) [.type "tuple", .type "list"] = some (isSeq d)
  | .none => kit_tl (a := "NoneType") (r1 := false) (r2 := false) (by decide +kernel) (by decide +kernel)
  | .bool _ => kit_tl (a := "bool") (r1 := false) (r2 := false) (by decide +kernel) (by decide +kernel)
  | .int _ => kit_tl (a := "int") (r1 := false) (r2 := false) (by decide +kernel) (by decide +kernel)
  | .str _ => kit_tl (a := "str") (r1 := false) (r2 := false) (by decide +kernel) (by decide +kernel)
  | .list _ => kit_tl (a := "list") (r1 := false) (r2 := true) (by decide +kernel) (by decide +kernel)
  | .tuple _ => kit_tl (a := "tuple") (r1 := true) (r2 := false) (by decide +kernel) (by decide +kernel)
  | .dict _ => kit_tl (a := "dict") (r1 := false) (r2 := false) (by decide +kernel) (by decide +kernel)
/-- isinstance(x, (tuple, list)) of data -/
def rIsSeq2 (K : PySem.W.Frag) : List V → Hp → VK → Prop := fun vs H Q => ∃ v tp d, vs = [v, .ref tp] ∧ H tp = some (.tup [.ty "tuple", .ty "list"]) ∧ Dp K H v d ∧ Q (.bl (isSeq d)) H
theorem cr_isSeq2 {X : Cx} : CallR X (.builtin "isinstance") (rIsSeq2 X.K) := by
  intro pins s σ H vs us Q I r h
  obtain ⟨v, tp, d, rfl, ht, hd, q⟩ := h
  exact call_isiT pins s σ H _ us Q I r ⟨v, tp, _, _, _, _, rfl, ht, .cons (.ty _) (.cons (.ty _) .nil), dp_ty hd, kit_seq2 d, q⟩
theorem none_okk {P : Program} {w : World} {K : PySem.W.Frag} {mg : Str → Option Value} {base : Heap} {k : Nat} {f : Addr} {fd : FuncData} {ps : List Str} {sp : Sp} (no : ∀ vs H Q E, ¬ sp vs H Q E) : FnOk P w K mg base CX0 k f fd ps sp :=
  ⟨fun vs H Q E h => absurd h (no vs H Q E), fun A outer s H args us vs Q E _ _ _ _ h => absurd h (no vs H Q E)⟩
theorem dps_erase {K : PySem.W.Frag} {H : Hp} : ∀ {vs : List V} {ds : List PyData} (i : Nat), DpAll K H vs ds → DpAll K H (vs.eraseIdx i) (ds.eraseIdx i)
  | _, _, 0, .nil => .nil
  | _, _, i + 1, .nil => .nil
  | _, _, 0, .cons _ h => h
  | _, _, i + 1, .cons h1 h => .cons h1 (dps_erase i h)
theorem dps_set {K : PySem.W.Frag} {H : Hp} {v : V} {d : PyData} (hv : Dp K H v d) : ∀ {vs : List V} {ds : List PyData} (i : Nat), DpAll K H vs ds → DpAll K H (vs.set i v) (ds.set i d)
  | _, _, 0, .nil => .nil
  | _, _, i + 1, .nil => .nil
  | _, _, 0, .cons _ h => .cons hv h
  | _, _, i + 1, .cons h1 h => .cons h1 (dps_set hv i h)
theorem gDs_of {lf : PyData → Bool} {L n : Nat} {ds : List PyData} (h : ∀ e ∈ ds, gD lf L e n = true) : gDs lf L ds n = true := by
  rw [gDs_all, List.all_eq_true]
  exact h
theorem okGet {lf : PyData → Bool} {L n : Nat} {ds : List PyData} {e : PyData} (h : gDs lf L ds n = true) (k : e ∈ ds) : gD lf L e n = true := by
  rw [gDs_all, List.all_eq_true] at h
  exact h e k
def rTupOf (K : PySem.W.Frag) : List V → Hp → VK → Prop := fun xs H Q => ∃ p ys, xs = [V.ref p] ∧ ((SqL K H p ys ∧ ∀ l : Addr, H l = none → Q (V.ref l) (upd H l (HO.tup ys))) ∨ (SqT K H p ys ∧ Q (V.ref p) H))
theorem dp_newL {K : PySem.W.Frag} {B : List Addr} {H : Hp} {p : Addr} {xs : List V} {ds : List PyData} (lv : Live B H) (n : H p = none) (h : DpAll K (hide B H) xs ds) : Dp K (hide B (upd H p (.lst xs))) (.ref p) (.list ds) :=
  .lst (SqL.of (hide_new lv n)) (dps_same (hide_grow lv n) h)
section
variable {P : Program} {w : World} {K : PySem.W.Frag} {mg : Str → Option Value} {base : Heap}
/-! ### _law_bent -/
def spBent (K : PySem.W.Frag) (N : Nat) : Sp := fun vs H Q _ => ∃ (n : Nat) (B : List Addr) (b : Addr) (m L : Nat) (v : V) (d : PyData), N = n + 1 ∧ vs = [.ref b, v] ∧ b ∈ B ∧ Live B H ∧ BoxAt H b m ∧ m + 10 * (n + 1) ≤ 2 ^ 40 ∧ L ≤ 100 ∧ Dp K (hide B H) v d ∧ gD lf1 L d n = true ∧
  ∀ (v' : V) (d' : PyData) (H' : Hp), gD lf2 (L + 1) d' (n + 1) = true → SameX [b] H H' → BoxAt H' b (m + 10 * (n + 1)) → Dp K (hide B H') v' d' → Q v' H'
abbrev nBent : List Str := ["_law_box_here", "_law_bit", "_law_way", "_law_at", "_law_some", "_law_odd"]
end
end KV

namespace KV
open PySem PySem.Spec PyProof.Rows L2 RZ
abbrev sNum : Stmt := topS 3
abbrev sRow : Stmt := topS 8
abbrev sRowOf : Stmt := topS 114
abbrev sWhole : Stmt := topS 115
/-- a tuple of so many -/
def isRowD : PyData → Nat → Bool
  | .tuple ds, n => decide (ds.length = n)
  | _, _ => false
/-- a whole number, not below k -/
def isNumD : PyData → Int → Bool
  | .int i, k => decide (k ≤ i)
  | _, _ => false
section
variable {P : Program} {w : World} {K : PySem.W.Frag} {mg : Str → Option Value} {base : Heap}
def spRow (K : PySem.W.Frag) : Sp := fun vs H Q _ => ∃ (v : V) (d : PyData) (n : Nat), vs = [v, .int n] ∧ Dp K H v d ∧ Q (.bl (isRowD d n)) H
def spNum (K : PySem.W.Frag) : Sp := fun vs H Q _ => ∃ (v : V) (d : PyData) (k : Int), vs = [v, .int k] ∧ Dp K H v d ∧ Q (.bl (isNumD d k)) H
theorem scRow : FnScope ["thing", "many"] ["thing", "many"] (defScope sRow) :=
  ⟨rfl, rfl, rfl, by decide +kernel, rfl, by decide +kernel, by decide +kernel⟩
theorem scRowOf : FnScope ["_law_matter", "_law_size"] ["_law_matter", "_law_size"] (defScope sRowOf) :=
  ⟨rfl, rfl, rfl, by decide +kernel, rfl, by decide +kernel, by decide +kernel⟩
theorem scNum : FnScope ["thing", "least"] ["thing", "least"] (defScope sNum) :=
  ⟨rfl, rfl, rfl, by decide +kernel, rfl, by decide +kernel, by decide +kernel⟩
theorem scWhole : FnScope ["_law_matter", "_law_least_so"] ["_law_matter", "_law_least_so"] (defScope sWhole) :=
  ⟨rfl, rfl, rfl, by decide +kernel, rfl, by decide +kernel, by decide +kernel⟩
theorem ok_row {f : Addr} {fd : FuncData} {k : Nat} (F : Fun K "is_row" "is_row" sRow f fd) (mi : mg "isinstance" = none) (me : mg "len" = none) (mt : mg "tuple" = none) : FnOk P w K mg base CX0 (k + 1) f fd ["thing", "many"] (spRow K) := by
  refine F.ok scRow (fun vs H Q E h => ?_) (fun cdv A outer s H vs Q E hr h => ?_)
  · obtain ⟨v, d, n, rfl, _⟩ := h
    rfl
  · obtain ⟨v, d, n, rfl, hd, q⟩ := h
    refine ⟨_, pss_one (ps_ret (pe_and (pe_callB (cr_isOne "tuple") (by rfl) mi boot_isinstance (pa_cons (pv 0) (pa_cons (pe_bltn (v := .ty "tuple") (by rfl) mt (by decide +kernel) rfl) pa_nil)))
      (pe_one (pe_cmpR op_eq (pe_callB call_len_seq (by rfl) me PySem.boot_len (pa_cons (pv 0) pa_nil)) (pv 1) (nomark _))))), ?_⟩
    have hv := hd
    cases hd with
    | non => exact ⟨_, rfl, ⟨_, _, rfl, hv, false, (show kitB "NoneType" "tuple" = some false by decide +kernel), _, rfl, iteF q⟩⟩
    | bl c => exact ⟨_, rfl, ⟨_, _, rfl, hv, false, (show kitB "bool" "tuple" = some false by decide +kernel), _, rfl, iteF q⟩⟩
    | int c => exact ⟨_, rfl, ⟨_, _, rfl, hv, false, (show kitB "int" "tuple" = some false by decide +kernel), _, rfl, iteF q⟩⟩
    | str c => exact ⟨_, rfl, ⟨_, _, rfl, hv, false, (show kitB "str" "tuple" = some false by decide +kernel), _, rfl, iteF q⟩⟩
    | lst h1 h2 => exact ⟨_, rfl, ⟨_, _, rfl, hv, false, (show kitB "list" "tuple" = some false by decide +kernel), _, rfl, iteF q⟩⟩
    | tup h1 h2 =>
      rename_i a xs ds
      have hl := dps_len h2
      refine ⟨_, rfl, ⟨_, _, rfl, hv, true, (show kitB "tuple" "tuple" = some true by decide +kernel), _, rfl, iteT ⟨_, rfl, a, xs, rfl, .inr h1, _, rfl, rfl, ?_⟩⟩⟩
      have e : isRowD (.tuple ds) n = decide (V.int (xs.length : Int) = V.int (n : Int)) := by
        rw [hl, Bool.eq_iff_iff]
        show decide (ds.length = n) = true ↔ _
        rw [decide_eq_true_eq, decide_eq_true_eq]
        exact ⟨fun z => by rw [z], fun z => by injection z with z; omega⟩
      rw [e] at q
      exact q
theorem ok_num {f : Addr} {fd : FuncData} {k : Nat} (F : Fun K "is_number" "is_number" sNum f fd) (mi : mg "isinstance" = none) (mn : mg "int" = none) (mb : mg "bool" = none) : FnOk P w K mg base CX0 (k + 1) f fd ["thing", "least"] (spNum K) := by
  refine F.ok scNum (fun vs H Q E h => ?_) (fun cdv A outer s H vs Q E hr h => ?_)
  · obtain ⟨v, d, n, rfl, _⟩ := h
    rfl
  · obtain ⟨v, d, k, rfl, hd, q⟩ := h
    refine ⟨_, pss_one (ps_ret (pe_and (pe_callB (cr_isOne "int") (by rfl) mi boot_isinstance (pa_cons (pv 0) (pa_cons (pe_bltn (v := .ty "int") (by rfl) mn (by decide +kernel) rfl) pa_nil)))
      (pe_and (pe_not (pe_callB (cr_isOne "bool") (by rfl) mi boot_isinstance (pa_cons (pv 0) (pa_cons (pe_bltn (v := .ty "bool") (by rfl) mb (by decide +kernel) rfl) pa_nil)))) (pe_one (pe_cmpR op_ge (pv 0) (pv 1) (nomark _)))))), ?_⟩
    have hv := hd
    cases hd with
    | non => exact ⟨_, rfl, ⟨_, _, rfl, hv, false, (show kitB "NoneType" "int" = some false by decide +kernel), _, rfl, iteF q⟩⟩
    | bl c => exact ⟨_, rfl, ⟨_, _, rfl, hv, true, (show kitB "bool" "int" = some true by decide +kernel), _, rfl, iteT ⟨_, rfl, ⟨_, _, rfl, hv, true, (show kitB "bool" "bool" = some true by decide +kernel), _, rfl, _, rfl, iteF q⟩⟩⟩⟩
    | int c => exact ⟨_, rfl, ⟨_, _, rfl, hv, true, (show kitB "int" "int" = some true by decide +kernel), _, rfl, iteT ⟨_, rfl, ⟨_, _, rfl, hv, false, (show kitB "int" "bool" = some false by decide +kernel), _, rfl, _, rfl, iteT ⟨_, rfl, _, rfl, _, _, rfl, rfl, q⟩⟩⟩⟩⟩
    | str c => exact ⟨_, rfl, ⟨_, _, rfl, hv, false, (show kitB "str" "int" = some false by decide +kernel), _, rfl, iteF q⟩⟩
    | lst h1 h2 => exact ⟨_, rfl, ⟨_, _, rfl, hv, false, (show kitB "list" "int" = some false by decide +kernel), _, rfl, iteF q⟩⟩
    | tup h1 h2 => exact ⟨_, rfl, ⟨_, _, rfl, hv, false, (show kitB "tuple" "int" = some false by decide +kernel), _, rfl, iteF q⟩⟩
theorem ok_rowOf {f : Addr} {fd : FuncData} {k : Nat} (F : Fun K "_law_row_of" "_law_row_of" sRowOf f fd) (mi : mg "isinstance" = none) (me : mg "len" = none) (mt : mg "tuple" = none) : FnOk P w K mg base CX0 (k + 1) f fd ["_law_matter", "_law_size"] (spRow K) := by
  refine F.ok scRowOf (fun vs H Q E h => ?_) (fun cdv A outer s H vs Q E hr h => ?_)
  · obtain ⟨v, d, n, rfl, _⟩ := h
    rfl
  · obtain ⟨v, d, n, rfl, hd, q⟩ := h
    refine ⟨_, pss_one (ps_ret (pe_and (pe_callB (cr_isOne "tuple") (by rfl) mi boot_isinstance (pa_cons (pv 0) (pa_cons (pe_bltn (v := .ty "tuple") (by rfl) mt (by decide +kernel) rfl) pa_nil)))
      (pe_one (pe_cmpR op_eq (pe_callB call_len_seq (by rfl) me PySem.boot_len (pa_cons (pv 0) pa_nil)) (pv 1) (nomark _))))), ?_⟩
    have hv := hd
    cases hd with
    | non => exact ⟨_, rfl, ⟨_, _, rfl, hv, false, (show kitB "NoneType" "tuple" = some false by decide +kernel), _, rfl, iteF q⟩⟩
    | bl c => exact ⟨_, rfl, ⟨_, _, rfl, hv, false, (show kitB "bool" "tuple" = some false by decide +kernel), _, rfl, iteF q⟩⟩
    | int c => exact ⟨_, rfl, ⟨_, _, rfl, hv, false, (show kitB "int" "tuple" = some false by decide +kernel), _, rfl, iteF q⟩⟩
    | str c => exact ⟨_, rfl, ⟨_, _, rfl, hv, false, (show kitB "str" "tuple" = some false by decide +kernel), _, rfl, iteF q⟩⟩
    | lst h1 h2 => exact ⟨_, rfl, ⟨_, _, rfl, hv, false, (show kitB "list" "tuple" = some false by decide +kernel), _, rfl, iteF q⟩⟩
    | tup h1 h2 =>
      rename_i a xs ds
      have hl := dps_len h2
      refine ⟨_, rfl, ⟨_, _, rfl, hv, true, (show kitB "tuple" "tuple" = some true by decide +kernel), _, rfl, iteT ⟨_, rfl, a, xs, rfl, .inr h1, _, rfl, rfl, ?_⟩⟩⟩
      have e : isRowD (.tuple ds) n = decide (V.int (xs.length : Int) = V.int (n : Int)) := by
        rw [hl, Bool.eq_iff_iff]
        show decide (ds.length = n) = true ↔ _
        rw [decide_eq_true_eq, decide_eq_true_eq]
        exact ⟨fun z => by rw [z], fun z => by injection z with z; omega⟩
      rw [e] at q
      exact q
theorem ok_whole {f : Addr} {fd : FuncData} {k : Nat} (F : Fun K "_law_whole" "_law_whole" sWhole f fd) (mi : mg "isinstance" = none) (mn : mg "int" = none) (mb : mg "bool" = none) : FnOk P w K mg base CX0 (k + 1) f fd ["_law_matter", "_law_least_so"] (spNum K) := by
  refine F.ok scWhole (fun vs H Q E h => ?_) (fun cdv A outer s H vs Q E hr h => ?_)
  · obtain ⟨v, d, n, rfl, _⟩ := h
    rfl
  · obtain ⟨v, d, k, rfl, hd, q⟩ := h
    refine ⟨_, pss_one (ps_ret (pe_and (pe_callB (cr_isOne "int") (by rfl) mi boot_isinstance (pa_cons (pv 0) (pa_cons (pe_bltn (v := .ty "int") (by rfl) mn (by decide +kernel) rfl) pa_nil)))
      (pe_and (pe_not (pe_callB (cr_isOne "bool") (by rfl) mi boot_isinstance (pa_cons (pv 0) (pa_cons (pe_bltn (v := .ty "bool") (by rfl) mb (by decide +kernel) rfl) pa_nil)))) (pe_one (pe_cmpR op_ge (pv 0) (pv 1) (nomark _)))))), ?_⟩
    have hv := hd
    cases hd with
    | non => exact ⟨_, rfl, ⟨_, _, rfl, hv, false, (show kitB "NoneType" "int" = some false by decide +kernel), _, rfl, iteF q⟩⟩
    | bl c => exact ⟨_, rfl, ⟨_, _, rfl, hv, true, (show kitB "bool" "int" = some true by decide +kernel), _, rfl, iteT ⟨_, rfl, ⟨_, _, rfl, hv, true, (show kitB "bool" "bool" = some true by decide +kernel), _, rfl, _, rfl, iteF q⟩⟩⟩⟩
    | int c => exact ⟨_, rfl, ⟨_, _, rfl, hv, true, (show kitB "int" "int" = some true by decide +kernel), _, rfl, iteT ⟨_, rfl, ⟨_, _, rfl, hv, false, (show kitB "int" "bool" = some false by decide +kernel), _, rfl, _, rfl, iteT ⟨_, rfl, _, rfl, _, _, rfl, rfl, q⟩⟩⟩⟩⟩
    | str c => exact ⟨_, rfl, ⟨_, _, rfl, hv, false, (show kitB "str" "int" = some false by decide +kernel), _, rfl, iteF q⟩⟩
    | lst h1 h2 => exact ⟨_, rfl, ⟨_, _, rfl, hv, false, (show kitB "list" "int" = some false by decide +kernel), _, rfl, iteF q⟩⟩
    | tup h1 h2 => exact ⟨_, rfl, ⟨_, _, rfl, hv, false, (show kitB "tuple" "int" = some false by decide +kernel), _, rfl, iteF q⟩⟩
end
end KV

namespace KV
open PySem PySem.Spec PyProof.Rows L2 RZ
abbrev sLets : Stmt := topS 5
abbrev sIsName : Stmt := topS 6
abbrev sIsWord : Stmt := topS 111
def isLet (c : Nat) : Bool := decide (97 ≤ c) && decide (c ≤ 122)
theorem abcs_all : (List.range 123).all (fun c => decide (c ∈ abcs) == isLet c) = true := by decide +kernel
theorem abcs_top : abcs.all (fun c => decide (c < 123)) = true := by decide +kernel
theorem mem_abcs (c : Nat) : decide (c ∈ abcs) = isLet c := by
  by_cases h : c < 123
  · exact eq_of_beq (List.all_eq_true.mp abcs_all c (List.mem_range.mpr h))
  · have h1 : c ∉ abcs := fun z => h (of_decide_eq_true (List.all_eq_true.mp abcs_top c z))
    rw [decide_eq_false h1]
    unfold isLet
    rw [decide_eq_false (show ¬ c ≤ 122 by omega), Bool.and_false]
/-- a word of small letters, of 1 to m signs -/
def isWordD : PyData → Nat → Bool
  | .str x, m => decide (0 < x.length) && decide (x.length ≤ m) && x.cps.toList.all isLet
  | _, _ => false
/-- a text of small letters, of m signs or more -/
def isLetsD : PyData → Nat → Bool
  | .str x, m => decide (m ≤ x.length) && x.cps.toList.all isLet
  | _, _ => false
def sgS (c : Nat) : Str := ⟨#[c]⟩
theorem lay_sgs : ∀ is : List Nat, (is.all fun c => decide (c < 1114112)) = true → PyData.canLayAll0 ((is.map sgS).map PyData.str) = true
  | [], _ => by simp [PyData.canLayAll0]
  | i :: is, h => by
    rw [List.all_cons, Bool.and_eq_true, decide_eq_true_eq] at h
    have e : PyData.strOk (sgS i) = true := by
      unfold PyData.strOk sgS
      simp only [List.all_toArray, List.all_cons, List.all_nil, Bool.and_true, decide_eq_true_eq]
      omega
    simp only [List.map_cons, PyData.canLayAll0, PyData.canLay0, e, Bool.true_and]
    exact lay_sgs is h.2
theorem depth_strs : ∀ is : List Str, PyData.depthAll (is.map PyData.str) = 0
  | [] => by simp [PyData.depthAll]
  | i :: is => by simp [PyData.depthAll, PyData.depth, depth_strs is]
theorem shaped_sgs {is : List Nat} (h : (is.all fun c => decide (c < 1114112)) = true) : SeqAt.shaped (.list ((is.map sgS).map PyData.str)) = true := by
  show (PyData.canLay0 (.list _) && decide (PyData.depth (.list _) ≤ 64)) = true
  simp only [PyData.canLay0, PyData.depth, lay_sgs is h, depth_strs]
  decide
theorem op_inSK : True := trivial
theorem shaped_nilL : SeqAt.shaped (.list []) = true := by decide +kernel
theorem eqv_nil (is : List Str) : PyData.eqv (.list (is.map PyData.str)) (.list []) = is.isEmpty := by
  cases is <;> simp [PyData.eqv, PyData.eqvAll]
theorem op_notInSK {X : Cx} : OpR X (compareOp .NotIn) rNotInS := op_notInS
section
variable {P : Program} {w : World} {K : PySem.W.Frag} {mg : Str → Option Value} {base : Heap}
def spIsWord (K : PySem.W.Frag) : Sp := fun vs H Q _ => ∃ (v : V) (d : PyData) (m : Nat), vs = [v, .int m] ∧ m ≤ 1000000 ∧ Dp K H v d ∧ (∀ x, d = .str x → x.length ≤ 1000 ∧ (x.cps.toList.all fun c => decide (c < 1114112)) = true) ∧ ∀ H', Same H H' → Q (.bl (isWordD d m)) H'
abbrev nIsWord : List Str := ["_law_matter", "_law_most_so", "_law_sign"]
theorem scIsWord : FnScope nIsWord ["_law_matter", "_law_most_so"] (defScope sIsWord) :=
  ⟨rfl, rfl, rfl, by decide +kernel, rfl, by decide +kernel, by decide +kernel⟩
theorem ok_isWord {f : Addr} {fd : FuncData} {k : Nat} (F : Fun K "_law_is_word" "_law_is_word" sIsWord f fd) (mi : mg "isinstance" = none) (me : mg "len" = none) (ms : mg "str" = none) : FnOk P w K mg base CX0 (k + 1) f fd ["_law_matter", "_law_most_so"] (spIsWord K) := by
  refine F.ok scIsWord (fun vs H Q E h => ?_) (fun cdv A outer s H vs Q E hr h => ?_)
  · obtain ⟨v, d, m, rfl, _⟩ := h
    rfl
  · obtain ⟨v, d, m, rfl, hm, hd, hx, q⟩ := h
    refine ⟨_, pss_cons (ps_if (PW.pt (pw_or (pt_not (pt_val (pe_callB (cr_isOne "str") (by rfl) mi boot_isinstance (pa_cons (pv 0) (pa_cons (pe_bltn (v := .ty "str") (by rfl) ms (by decide +kernel) rfl) pa_nil)))))
        (pw_or1 (pt_not (pt_chain op_lt op_le pe_int (pe_callB call_len_str (by rfl) me PySem.boot_len (pa_cons (pv 0) pa_nil)) (pv 1)))))) (pss_one (ps_ret pe_bl)) pss_nil)
      (pss_one (ps_ret (pe_cmpR (op_eqD hr.units) (pe_lc (own := [("_law_sign", 2)]) (g := gName 2) rfl scIsWord.nd (pi_str (pv 0)) (blkOk_by (N := nIsWord) (sc := defScope sIsWord) (by decide +kernel))
          (fun _ _ _ _ _ => pg_name (i := 2) scIsWord.nd rfl (Or.inl rfl)) (fun _ _ _ _ _ => pts_one (pt_cmpR op_notInS (pv 2) pe_str (by rfl))) (fun _ _ _ _ _ => pv 2)) (pe_lst pa_nil) (nomark _)))), ?_⟩
    have hv := hd
    have q0 : isWordD d m = false → Q (.bl false) H := fun e => by
      have := q H fun _ _ z => z
      rw [e] at this
      exact this
    cases hd with
    | non => exact ⟨_, rfl, ⟨_, _, rfl, hv, false, (show kitB "NoneType" "str" = some false by decide +kernel), _, rfl, iteT (iteT (q0 rfl))⟩⟩
    | bl c => exact ⟨_, rfl, ⟨_, _, rfl, hv, false, (show kitB "bool" "str" = some false by decide +kernel), _, rfl, iteT (iteT (q0 rfl))⟩⟩
    | int c => exact ⟨_, rfl, ⟨_, _, rfl, hv, false, (show kitB "int" "str" = some false by decide +kernel), _, rfl, iteT (iteT (q0 rfl))⟩⟩
    | lst h1 h2 => exact ⟨_, rfl, ⟨_, _, rfl, hv, false, (show kitB "list" "str" = some false by decide +kernel), _, rfl, iteT (iteT (q0 rfl))⟩⟩
    | tup h1 h2 => exact ⟨_, rfl, ⟨_, _, rfl, hv, false, (show kitB "tuple" "str" = some false by decide +kernel), _, rfl, iteT (iteT (q0 rfl))⟩⟩
    | str x =>
      obtain ⟨lx, cx⟩ := hx x rfl
      refine ⟨_, rfl, ⟨_, _, rfl, hv, true, (show kitB "str" "str" = some true by decide +kernel), _, rfl, iteF ?_⟩⟩
      refine ⟨_, rfl, x, rfl, Nat.le_of_lt (small1000 lx), _, _, rfl, rfl, _, rfl, ite2 (fun e1 => ?_) (fun e1 => ?_)⟩
      · refine ⟨_, rfl, _, _, rfl, rfl, _, rfl, ite2 (fun e2 => ?_) (fun e2 => ?_)⟩
        · refine q0 ?_
          have z : ¬ x.length ≤ m := fun z => by
            rw [decide_eq_true (show (x.length : Int) ≤ (m : Int) by omega)] at e2
            exact nomatch e2
          show (decide (0 < x.length) && decide (x.length ≤ m) && x.cps.toList.all isLet) = false
          rw [decide_eq_false z, Bool.and_false, Bool.false_and]
        · have z : x.length ≤ m := Classical.byContradiction fun z => e2 (by rw [decide_eq_false (show ¬ (x.length : Int) ≤ (m : Int) by omega)]; rfl)
          have z0 : 0 < x.length := by
            have := of_decide_eq_true e1
            omega
          have ed : isWordD (.str x) m = x.cps.toList.all isLet := by
            show (decide (0 < x.length) && decide (x.length ≤ m) && x.cps.toList.all isLet) = _
            rw [decide_eq_true z, decide_eq_true z0]
            rfl
          refine ⟨_, rfl, x, rfl, fun D nD => lc_it (walk_str (z := x)) (fun j H3 => SameX [D] H H3 ∧ H3 D = some (.lst ((((x.cps.toList.take j).filter fun c => !isLet c).map sgS).map V.str))) ⟨sameX_upd List.mem_cons_self, upd_same⟩ (fun _ _ _ _ => trivial) ?_ ?_⟩
          · rintro j v H3 H3' hj ⟨s3, hD⟩ ⟨rfl, c, hc, rfl⟩
            have hc2 : x.cps.toList[j]? = some c := by
              rw [← hc]
              exact Array.getElem?_toList
            refine ⟨rfl, _, rfl, c, _, rfl, rfl, _, rfl, ?_⟩
            rw [show decide (c ∈ (Str.ofString "abcdefghijklmnopqrstuvwxyz").cps.toList) = isLet c from mem_abcs c]
            have ef : (x.cps.toList.take (j + 1)).filter (fun c => !isLet c) = (x.cps.toList.take j).filter (fun c => !isLet c) ++ (if (!isLet c) = true then [c] else []) := by
              rw [take_snoc hc2, List.filter_append, List.filter_cons, List.filter_nil]
            cases hk : (!isLet c) with
            | true =>
              rw [hk] at ef
              refine iteT ⟨_, rfl, _, hD, small1000 ?_, s3.trans (sameX_upd List.mem_cons_self), ?_⟩
              · rw [List.length_map, List.length_map]
                have h1 := List.length_filter_le (fun c => !isLet c) (x.cps.toList.take j)
                rw [List.length_take, sgn_len] at h1
                omega
              · rw [upd_same, ef, List.map_append, List.map_append]
                rfl
            | false =>
              rw [hk] at ef
              refine iteF ⟨s3, ?_⟩
              rw [hD, ef]
              exact congrArg _ (congrArg _ (by simp))
          · rintro H3 ⟨s3, hD⟩
            have eT : x.cps.toList.take x.cps.size = x.cps.toList := List.take_of_length_le (by rw [Array.length_toList]; exact Nat.le_refl _)
            rw [eT] at hD
            have s0 : Same H H3 := fun c o e => s3 c o (fun y => ne_of_none e nD (List.mem_singleton.mp y)) e
            have call : ((x.cps.toList.filter fun c => !isLet c).all fun c => decide (c < 1114112)) = true := by
              rw [List.all_eq_true] at cx ⊢
              exact fun c hc => cx c (List.mem_filter.mp hc).1
            refine ⟨by show 0 ≤ sizeLine; decide, fun t nt => ⟨_, .list [], .lst (SqL.of (same_upd nt _ _ hD)) (dps_strs _), .lst (SqL.of upd_same) .nil, shaped_sgs call, shaped_nilL, ?_⟩⟩
            rw [eqv_nil]
            have ee : (((x.cps.toList.filter fun c => !isLet c).map sgS)).isEmpty = x.cps.toList.all isLet := by
              rw [Bool.eq_iff_iff, List.isEmpty_iff, List.map_eq_nil_iff, List.filter_eq_nil_iff, List.all_eq_true]
              exact ⟨fun h c hc => by simpa using h c hc, fun h c hc => by simpa using h c hc⟩
            rw [ee, ← ed]
            exact q _ (s0.trans (same_upd nt))
      · refine ⟨_, rfl, iteT (q0 ?_)⟩
        have z : ¬ 0 < x.length := fun z => e1 (decide_eq_true (by omega))
        show (decide (0 < x.length) && decide (x.length ≤ m) && x.cps.toList.all isLet) = false
        rw [decide_eq_false z, Bool.false_and, Bool.false_and]
/-! ### is_letters, is_name -/
def spLets (K : PySem.W.Frag) : Sp := fun vs H Q _ => ∃ (v : V) (d : PyData) (m : Nat), vs = [v, .int m] ∧ Dp K H v d ∧ (∀ x, d = .str x → x.length ≤ 1000) ∧ ∀ H', Same H H' → Q (.bl (isLetsD d m)) H'
abbrev nLets : List Str := ["thing", "least", "letter"]
theorem scLets : FnScope nLets ["thing", "least"] (defScope sLets) :=
  ⟨rfl, rfl, rfl, by decide +kernel, rfl, by decide +kernel, by decide +kernel⟩
theorem ok_lets {f : Addr} {fd : FuncData} {k : Nat} {tk : Tok} (F : Fun K "is_letters" "is_letters" sLets f fd) (mi : mg "isinstance" = none) (me : mg "len" = none) (ms : mg "str" = none) (ma : mg "all" = none) (mL : mg "LETTERS" = some (.str "abcdefghijklmnopqrstuvwxyz" tk)) : FnOk P w K mg base CX0 (k + 1) f fd ["thing", "least"] (spLets K) := by
  refine F.ok scLets (fun vs H Q E h => ?_) (fun cdv A outer s H vs Q E hr h => ?_)
  · obtain ⟨v, d, m, rfl, _⟩ := h
    rfl
  · obtain ⟨v, d, m, rfl, hd, hx, q⟩ := h
    refine ⟨_, pss_one (ps_ret (pe_and (pe_callB (cr_isOne "str") (by rfl) mi boot_isinstance (pa_cons (pv 0) (pa_cons (pe_bltn (v := .ty "str") (by rfl) ms (by decide +kernel) rfl) pa_nil)))
      (pe_and (pe_cmpR op_ge (pe_callB call_len_str (by rfl) me PySem.boot_len (pa_cons (pv 0) pa_nil)) (pv 1) (nomark _))
      (pe_one (pe_callB (cr_all rfl) (by rfl) ma boot_all (pa_cons
        (pe_lc (own := [("letter", 2)]) (g := gName 2) (tt := tYes) rfl scLets.nd (pi_str (pv 0)) (blkOk_by (N := nLets) (sc := defScope sLets) (by decide +kernel))
          (fun _ _ _ _ _ => pg_name (i := 2) scLets.nd rfl (Or.inl rfl)) (fun _ _ _ _ _ => pts_nil) (fun _ _ _ _ _ => pe_cmpR op_inS (pv 2) (pe_glob (v := .str "abcdefghijklmnopqrstuvwxyz") (by rfl) mL ⟨_, rfl⟩) (by rfl))) pa_nil)))))), ?_⟩
    have hv := hd
    have q0 : isLetsD d m = false → Q (.bl false) H := fun e => by
      have := q H fun _ _ z => z
      rw [e] at this
      exact this
    cases hd with
    | non => exact ⟨_, rfl, ⟨_, _, rfl, hv, false, (show kitB "NoneType" "str" = some false by decide +kernel), _, rfl, iteF (q0 rfl)⟩⟩
    | bl c => exact ⟨_, rfl, ⟨_, _, rfl, hv, false, (show kitB "bool" "str" = some false by decide +kernel), _, rfl, iteF (q0 rfl)⟩⟩
    | int c => exact ⟨_, rfl, ⟨_, _, rfl, hv, false, (show kitB "int" "str" = some false by decide +kernel), _, rfl, iteF (q0 rfl)⟩⟩
    | lst h1 h2 => exact ⟨_, rfl, ⟨_, _, rfl, hv, false, (show kitB "list" "str" = some false by decide +kernel), _, rfl, iteF (q0 rfl)⟩⟩
    | tup h1 h2 => exact ⟨_, rfl, ⟨_, _, rfl, hv, false, (show kitB "tuple" "str" = some false by decide +kernel), _, rfl, iteF (q0 rfl)⟩⟩
    | str x =>
      have lx := hx x rfl
      refine ⟨_, rfl, ⟨_, _, rfl, hv, true, (show kitB "str" "str" = some true by decide +kernel), _, rfl, iteT ?_⟩⟩
      refine ⟨_, rfl, x, rfl, Nat.le_of_lt (small1000 lx), _, rfl, _, _, rfl, rfl, _, rfl, ite2 (fun e1 => ?_) (fun e1 => ?_)⟩
      · have z : m ≤ x.length := by
          have := of_decide_eq_true e1
          omega
        have ed : isLetsD (.str x) m = x.cps.toList.all isLet := by
          show (decide (m ≤ x.length) && x.cps.toList.all isLet) = _
          rw [decide_eq_true z]
          rfl
        refine ⟨_, rfl, x, rfl, fun D nD => lc_it (walk_str (z := x)) (fun j H3 => SameX [D] H H3 ∧ H3 D = some (.lst (((x.cps.toList.take j).map isLet).map V.bl))) ⟨sameX_upd List.mem_cons_self, upd_same⟩ (fun _ _ _ _ => trivial) ?_ ?_⟩
        · rintro j v H3 H3' hj ⟨s3, hD⟩ ⟨rfl, c, hc, rfl⟩
          have hc2 : x.cps.toList[j]? = some c := by
            rw [← hc]
            exact Array.getElem?_toList
          refine ⟨rfl, tYes_ok ⟨_, rfl, c, _, rfl, rfl, _, hD, small1000 ?_, s3.trans (sameX_upd List.mem_cons_self), ?_⟩⟩
          · rw [List.length_map, List.length_map, List.length_take, sgn_len]
            omega
          · rw [upd_same, take_snoc hc2, List.map_append, List.map_append]
            show some (HO.lst (_ ++ [V.bl (decide (c ∈ (Str.ofString "abcdefghijklmnopqrstuvwxyz").cps.toList))])) = _
            rw [show decide (c ∈ (Str.ofString "abcdefghijklmnopqrstuvwxyz").cps.toList) = isLet c from mem_abcs c]
            rfl
        · rintro H3 ⟨s3, hD⟩
          have eT : x.cps.toList.take x.cps.size = x.cps.toList := List.take_of_length_le (by rw [Array.length_toList]; exact Nat.le_refl _)
          rw [eT] at hD
          refine ⟨D, _, rfl, SqL.of hD, ?_⟩
          have ea : (x.cps.toList.map isLet).all id = isLetsD (.str x) m := by
            rw [ed, List.all_map]
            rfl
          rw [ea]
          exact q _ fun c o e => s3 c o (fun y => ne_of_none e nD (List.mem_singleton.mp y)) e
      · refine q0 ?_
        have z : ¬ m ≤ x.length := fun z => e1 (decide_eq_true (by omega))
        show (decide (m ≤ x.length) && x.cps.toList.all isLet) = false
        rw [decide_eq_false z, Bool.false_and]
end
end KV

namespace KV
open PySem PySem.Spec PyProof.Rows L2 RZ
abbrev sAsc : Stmt := topS 9
abbrev sAreNames : Stmt := topS 10
/-- what ascends finds, pair by pair -/
def adjS : List Str → List Bool
  | [] => []
  | [_] => []
  | a :: b :: r => decide (ltS a b) :: adjS (b :: r)
theorem adj_asc : ∀ l : List Str, (adjS l).all id = ascS l
  | [] => rfl
  | [_] => rfl
  | a :: b :: r => by
    show (decide (ltS a b) && (adjS (b :: r)).all id) = (decide (ltS a b) && ascS (b :: r))
    rw [adj_asc (b :: r)]
theorem adj_len : ∀ l : List Str, (adjS l).length = l.length - 1
  | [] => rfl
  | [_] => rfl
  | a :: b :: r => by
    show (adjS (b :: r)).length + 1 = (r.length + 1 + 1) - 1
    rw [adj_len (b :: r)]
    rfl
theorem adj_get : ∀ (l : List Str) (j : Nat) (x y : Str), l[j]? = some x → l[j + 1]? = some y → (adjS l)[j]? = some (decide (ltS x y))
  | [], _, _, _, h, _ => by cases h
  | [_], 0, _, _, _, h => by cases h
  | [_], j + 1, _, _, h, _ => by cases h
  | a :: b :: r, 0, x, y, h1, h2 => by
    cases h1
    cases h2
    rfl
  | a :: b :: r, j + 1, x, y, h1, h2 => adj_get (b :: r) j x y h1 h2
theorem lc_asc {K : PySem.W.Frag} {J : It} {G : Hp → Prop} {ss : List Str} {n : Nat} (w : Walk J n G (YPair (fun i => (ss.map V.str)[i]?) (fun i => ((ss.drop 1).map V.str)[i]?))) (hn : n = ss.length - 1) (hz : ss.length ≤ 1000) {σ : L2.St} {vs : List Nat} {te : TE} {H1 : Hp} {D : Addr} {Qd : Hp → Prop}
    (nD : H1 D = none) (hG : ∀ H, Same H1 H → G H) (hw : ∀ x y : V, wipe (((wipe σ vs).set 1 (some x)).set 2 (some y)) vs = wipe σ vs)
    (step : ∀ (x y : Str) (H : Hp) (Q : VK), Q (.bl (decide (ltS x y))) H → te (((wipe σ vs).set 1 (some (.str x))).set 2 (some (.str y))) H Q)
    (hd : ∀ H, SameX [D] H1 H → H D = some (.lst ((adjS ss).map V.bl)) → Qd H) :
    ∃ W : Nat → Nat → Hp → Prop, (∃ m, W 0 m (upd H1 D (.lst []))) ∧ ∀ i' m H, W i' m H →
      (J.stop i' H ∧ Qd H) ∨ (J.go i' H ∧ ∃ Nx : Hp → Prop, (∀ H', Nx H' → ∃ m', m' < m ∧ W (i' + 1) m' H') ∧ ∀ x H', J.yld i' H x H' → gTup K 2 (gCons (gName 1) (gCons (gName 2) gNil)) x (wipe σ vs) H' fun σ2 H2 => wipe σ2 vs = wipe σ vs ∧ tYes σ2 H2 fun b H3 =>
        if b = true then te σ2 H3 fun y H4 => ∃ acc, H4 D = some (.lst acc) ∧ acc.length < sizeLine ∧ Nx (upd H4 D (.lst (acc ++ [y]))) else Nx H3) := by
  have base : ∀ {H : Hp}, SameX [D] H1 H → Same H1 H := fun {H} h c o e => h c o (fun z => ne_of_none e nD (List.mem_singleton.mp z)) e
  refine lc_it w (fun j H => SameX [D] H1 H ∧ H D = some (.lst (((adjS ss).take j).map V.bl))) ⟨sameX_upd List.mem_cons_self, upd_same⟩ (fun j H _ h => hG H (base h.1)) ?_ (fun H h => ?_)
  · rintro j v H H' hj ⟨hs, hD⟩ ⟨T, x, y, rfl, nT, rfl, ex, ey⟩
    have ex : (ss.map V.str)[j]? = some x := ex
    have ey : ((ss.drop 1).map V.str)[j]? = some y := ey
    rw [List.getElem?_map] at ex ey
    obtain ⟨x, ex2, rfl⟩ := Option.map_eq_some_iff.mp ex
    obtain ⟨y, ey2, rfl⟩ := Option.map_eq_some_iff.mp ey
    rw [List.getElem?_drop, Nat.add_comm] at ey2
    have ea := adj_get ss j x y ex2 ey2
    have hD2 : (upd H T (.tup [.str x, .str y])) D = some (.lst (((adjS ss).take j).map V.bl)) := same_upd nT _ _ hD
    refine ⟨T, [.str x, .str y], rfl, SqT.of upd_same, rfl, .str x, [.str y], rfl, .str y, [], rfl, rfl, hw _ _, tYes_ok (step x y _ _ ⟨_, hD2, ?_, ?_, ?_⟩)⟩
    · rw [List.length_map, List.length_take, adj_len]
      exact small1000 (by omega)
    · exact hs.trans ((SameX.of (same_upd nT)).trans (sameX_upd List.mem_cons_self))
    · rw [upd_same, take_snoc ea, List.map_append]
      rfl
  · refine hd H h.1 ?_
    rw [h.2, hn, ← adj_len, List.take_length]
section
variable {P : Program} {w : World} {K : PySem.W.Frag} {mg : Str → Option Value} {base : Heap}
/-! ### is_name -/
def spIsName (K : PySem.W.Frag) : Sp := fun vs H Q _ => ∃ (v : V) (d : PyData), vs = [v] ∧ Dp K H v d ∧ (∀ x, d = .str x → x.length ≤ 1000) ∧ ∀ H', Same H H' → Q (.bl (isWordD d 8)) H'
theorem scIsName : FnScope ["thing"] ["thing"] (defScope sIsName) :=
  ⟨rfl, rfl, rfl, by decide +kernel, rfl, by decide +kernel, by decide +kernel⟩
theorem ok_isName {f fL : Addr} {fd fdL : FuncData} {k : Nat} (F : Fun K "is_name" "is_name" sIsName f fd) (FL : Fun K "is_letters" "is_letters" sLets fL fdL) (bL : Binds K fdL ["thing", "least"] []) (mL : mg "is_letters" = some (.ref fL))
    (GL : FnOk P w K mg base CX0 (k + 1) fL fdL ["thing", "least"] (spLets K)) (me : mg "len" = none) : FnOk P w K mg base CX0 (k + 2) f fd ["thing"] (spIsName K) := by
  refine F.ok scIsName (fun vs H Q E h => ?_) (fun cdv A outer s H vs Q E hr h => ?_)
  · obtain ⟨v, d, rfl, _⟩ := h
    rfl
  · obtain ⟨v, d, rfl, hd, hx, q⟩ := h
    refine ⟨_, pss_one (ps_ret (pe_and (pe_call GL hr (by rfl) mL FL.kp bL .nil pass0 (pa_cons (pv 0) (pa_cons pe_int pa_nil)))
      (pe_one (pe_cmpR op_le (pe_callB call_len_str (by rfl) me PySem.boot_len (pa_cons (pv 0) pa_nil)) pe_int (nomark _))))), ?_⟩
    refine ⟨_, rfl, v, d, 1, rfl, hd, hx, fun H1 s1 => ⟨_, rfl, ?_⟩⟩
    cases he : isLetsD d 1 with
    | false =>
      refine iteF ?_
      have e : isWordD d 8 = false := by
        cases d with
        | str x =>
          have z : (decide (1 ≤ x.length) && x.cps.toList.all isLet) = false := he
          show (decide (0 < x.length) && decide (x.length ≤ 8) && x.cps.toList.all isLet) = false
          rw [Bool.and_assoc, Bool.and_comm (decide (x.length ≤ 8)), ← Bool.and_assoc]
          have e0 : decide (0 < x.length) = decide (1 ≤ x.length) := rfl
          rw [e0, z]
          rfl
        | _ => rfl
      rw [e] at q
      exact q _ s1
    | true =>
      refine iteT ?_
      cases d with
      | str x =>
        have hv := dp_same s1 hd
        cases hv
        have z : (decide (1 ≤ x.length) && x.cps.toList.all isLet) = true := he
        rw [Bool.and_eq_true] at z
        have lx := hx x rfl
        refine ⟨_, rfl, x, rfl, Nat.le_of_lt (small1000 lx), _, _, rfl, rfl, ?_⟩
        have e : isWordD (.str x) 8 = decide ((x.length : Int) ≤ 8) := by
          show (decide (0 < x.length) && decide (x.length ≤ 8) && x.cps.toList.all isLet) = _
          have e0 : decide (0 < x.length) = decide (1 ≤ x.length) := rfl
          rw [e0, z.1, z.2, Bool.true_and, Bool.and_true, Bool.eq_iff_iff, decide_eq_true_eq, decide_eq_true_eq]
          omega
        have q1 := q _ s1
        rw [e] at q1
        exact q1
      | none => exact nomatch he
      | bool b => exact nomatch he
      | int i => exact nomatch he
      | list xs => exact nomatch he
      | tuple xs => exact nomatch he
      | dict xs => exact nomatch he
/-! ### ascends, of texts -/
def spAsc (K : PySem.W.Frag) : Sp := fun vs H Q _ => ∃ (a : Addr) (xs : List Str), vs = [.ref a] ∧ SqT K H a (xs.map V.str) ∧ xs.length ≤ 1000 ∧ ∀ H', Same H H' → Q (.bl (ascS xs)) H'
abbrev nAsc : List Str := ["names", "one", "other"]
theorem scAsc : FnScope nAsc ["names"] (defScope sAsc) :=
  ⟨rfl, rfl, rfl, by decide +kernel, rfl, by decide +kernel, by decide +kernel⟩
theorem ok_asc {f : Addr} {fd : FuncData} {k : Nat} (F : Fun K "ascends" "ascends" sAsc f fd) (ma : mg "all" = none) (mz : mg "zip" = none) : FnOk P w K mg base CX0 (k + 1) f fd ["names"] (spAsc K) := by
  refine F.ok scAsc (fun vs H Q E h => ?_) (fun cdv A outer s H vs Q E hr h => ?_)
  · obtain ⟨a, xs, rfl, _⟩ := h
    rfl
  · obtain ⟨a, xs, rfl, hS, hz, q⟩ := h
    refine ⟨_, pss_one (ps_ret (pe_callB (cr_all rfl) (by rfl) ma boot_all (pa_cons
      (pe_lc (own := [("one", 1), ("other", 2)]) (g := gTup K 2 (gCons (gName 1) (gCons (gName 2) gNil))) (tt := tYes) rfl scAsc.nd (pi_zipA (by rfl) mz (pa_cons (pv 0) (pa_cons (pe_slice sl_tupA (pv 0) (po_some pe_int) po_none) pa_nil)))
        (blkOk_by (N := nAsc) (sc := defScope sAsc) (by decide +kernel))
        (fun _ _ _ _ _ => pg_tup rfl (pgs_cons (pg_name (i := 1) scAsc.nd rfl (.inl rfl)) (pgs_cons (pg_name (i := 2) scAsc.nd rfl (.inl rfl)) pgs_nil))) (fun _ _ _ _ _ => pts_nil)
        (fun _ _ _ _ _ => pe_cmpR op_lt_str (pv 1) (pv 2) (nomark _))) pa_nil))), ?_⟩
    have fin : ∀ H1, Same H H1 → ∀ H2 D, SameX [D] H1 H2 → H1 D = none → H2 D = some (.lst ((adjS xs).map V.bl)) → rAll K [.ref D] H2 Q := by
      intro H1 s1 H2 D s2 nD hD
      refine ⟨D, _, rfl, SqL.of hD, ?_⟩
      rw [adj_asc]
      exact q _ (s1.trans fun c o e => s2 c o (fun y => ne_of_none e nD (List.mem_singleton.mp y)) e)
    have ex : cutV (xs.map V.str) (some (1 : Int)) none = (xs.drop 1).map V.str := by
      unfold cutV
      have e1 : HT.sIx (xs.map V.str).length 0 (some (1 : Int)) = min 1 (xs.map V.str).length := HT.sIx_nat _ _ 1
      rw [e1, HT.sIx_none, List.length_map, List.map_drop]
      by_cases h : 1 ≤ xs.length
      · rw [Nat.min_eq_left h, List.take_of_length_le (by rw [List.length_drop, List.length_map]; exact Nat.le_refl _)]
      · have h0 : xs = [] := List.eq_nil_of_length_eq_zero (by omega)
        subst h0
        rfl
    refine ⟨_, rfl, _, rfl, _, rfl, a, _, rfl, hS, fun e0 => ?_, fun _ p np => ?_⟩
    · have h0 : xs = [] := by
        have e1 : HT.sIx (xs.map V.str).length 0 (some (1 : Int)) = min 1 (xs.map V.str).length := HT.sIx_nat _ _ 1
        rw [e1, List.length_map] at e0
        exact List.eq_nil_of_length_eq_zero (by omega)
      subst h0
      exact ⟨a, a, _, _, rfl, .inr ⟨hS, hS, fun D nD => lc_asc (K := K) (ss := []) (walk_zipT (n := 0) rfl) rfl (by decide) nD (fun H2 s2 => ⟨same_seqT s2 hS, same_seqT s2 hS⟩) (fun _ _ => rfl) (fun x y H2 Q2 k2 => ⟨_, rfl, _, rfl, x, y, rfl, rfl, k2⟩) fun H2 s2 hD2 => fin H (fun _ _ z => z) H2 D s2 nD hD2⟩⟩
    · rw [ex]
      have sp : Same H (upd H p (.tup ((xs.drop 1).map V.str))) := same_upd np
      exact ⟨a, p, _, _, rfl, .inr ⟨same_seqT sp hS, SqT.of upd_same, fun D nD => lc_asc (K := K) (ss := xs) (walk_zipT (n := xs.length - 1) (by rw [List.length_map, List.length_map, List.length_drop]; omega)) rfl hz nD (fun H2 s2 => ⟨same_seqT (sp.trans s2) hS, same_seqT s2 (SqT.of upd_same)⟩) (fun _ _ => rfl) (fun x y H2 Q2 k2 => ⟨_, rfl, _, rfl, x, y, rfl, rfl, k2⟩) fun H2 s2 hD2 => fin _ sp H2 D s2 nD hD2⟩⟩
end
end KV

namespace KV
open PySem PySem.Spec PyProof.Rows L2 RZ
/-- a comprehension of flags over a sequence of data -/
theorem lc_flags {K : PySem.W.Frag} {J : It} {G : Hp → Prop} {xs : List V} (w : Walk J xs.length G (YAt xs)) {ds : List PyData} {σ : L2.St} {i : Nat} {te : TE} {H1 : Hp} {D : Addr} {Qd : Hp → Prop}
    (hx : DpAll K H1 xs ds) (nD : H1 D = none) (hz : xs.length ≤ 1000) (hG : ∀ H, Same H1 H → G H) (Pf : PyData → Bool)
    (step : ∀ (j : Nat) (x : V) (d : PyData) (H : Hp) (Q : VK), ds[j]? = some d → Same H1 H → Dp K H x d → (∀ H', Same H H' → Q (.bl (Pf d)) H') → te ((wipe σ [i]).set i (some x)) H Q)
    (hd : ∀ H, Same H1 H → H D = some (.lst ((ds.map Pf).map V.bl)) → Qd H) :
    ∃ W : Nat → Nat → Hp → Prop, (∃ m, W 0 m (upd H1 D (.lst []))) ∧ ∀ i' m H, W i' m H →
      (J.stop i' H ∧ Qd H) ∨ (J.go i' H ∧ ∃ Nx : Hp → Prop, (∀ H', Nx H' → ∃ m', m' < m ∧ W (i' + 1) m' H') ∧ ∀ x H', J.yld i' H x H' → gName i x (wipe σ [i]) H' fun σ2 H2 => wipe σ2 [i] = wipe σ [i] ∧ tYes σ2 H2 fun b H3 =>
        if b = true then te σ2 H3 fun y H4 => ∃ acc, H4 D = some (.lst acc) ∧ acc.length < sizeLine ∧ Nx (upd H4 D (.lst (acc ++ [y]))) else Nx H3) := by
  have old : ∀ {H : Hp}, SameX [D] H1 H → Same H1 H := fun {H} h c o e => h c o (fun z => ne_of_none e nD (List.mem_singleton.mp z)) e
  have hl := dps_len hx
  refine lc_it w (fun j H => SameX [D] H1 H ∧ H D = some (.lst (((ds.take j).map Pf).map V.bl))) ⟨sameX_upd List.mem_cons_self, upd_same⟩ (fun j H _ h => hG H (old h.1)) ?_ (fun H h => ?_)
  · rintro j x H H' hj ⟨hs, hD⟩ ⟨rfl, hx1⟩
    obtain ⟨d, hd1, hdp⟩ := dps_get hx hx1
    refine ⟨?_, tYes_ok (step j x d _ _ hd1 (old hs) (dp_same (old hs) hdp) fun H4 s4 => ⟨_, s4 _ _ hD, ?_, ?_, ?_⟩)⟩
    · show ((((σ.set i none)).set i (some x)).set i none) = σ.set i none
      rw [List.set_set, List.set_set]
    · rw [List.length_map, List.length_map, List.length_take]
      exact small1000 (by omega)
    · exact hs.trans ((SameX.of s4).trans (sameX_upd List.mem_cons_self))
    · rw [upd_same, take_snoc hd1, List.map_append, List.map_append]
      rfl
  · refine hd H (old h.1) ?_
    rw [h.2, hl, List.take_length]
def strOfD : PyData → Str
  | .str x => x
  | _ => Str.empty
/-- a tuple of names, each below the next -/
def areNamesD : PyData → Bool
  | .tuple ds => ds.all (fun e => isWordD e 8) && ascS (ds.map strOfD)
  | _ => false
theorem words_back {ds : List PyData} (h : ds.all (fun e => isWordD e 8) = true) : ds = (ds.map strOfD).map PyData.str := by
  induction ds with
  | nil => rfl
  | cons d ds ih =>
    rw [List.all_cons, Bool.and_eq_true] at h
    rw [List.map_cons, List.map_cons, ← ih h.2]
    cases d with
    | str x => rfl
    | _ => exact nomatch h.1
theorem dps_strV {K : PySem.W.Frag} {H : Hp} : ∀ {xs : List V} {ss : List Str}, DpAll K H xs (ss.map PyData.str) → xs = ss.map V.str
  | _, [], h => by
    cases h
    rfl
  | _, s :: ss, h => by
    cases h with
    | cons h1 h2 =>
      cases h1
      rw [dps_strV h2]
      rfl
section
variable {P : Program} {w : World} {K : PySem.W.Frag} {mg : Str → Option Value} {base : Heap}
/-! ### are_names -/
def spAre (K : PySem.W.Frag) : Sp := fun vs H Q _ => ∃ (v : V) (d : PyData) (L n : Nat), vs = [v] ∧ Dp K H v d ∧ gD lf2 L d n = true ∧ L ≤ 100 ∧ ∀ H', Same H H' → Q (.bl (areNamesD d)) H'
abbrev nAre : List Str := ["thing", "name"]
theorem scAre : FnScope nAre ["thing"] (defScope sAreNames) :=
  ⟨rfl, rfl, rfl, by decide +kernel, rfl, by decide +kernel, by decide +kernel⟩
theorem str_fine {L n : Nat} {x : Str} (h : gD lf2 L (.str x) n = true) : x.length ≤ 1000 ∧ (x.cps.toList.all fun c => decide (c < 1114112)) = true := by
  have h1 : (decide (x.length ≤ 60) && x.cps.toList.all fun c => decide (c < 1114112)) = true := by simp only [gD] at h; exact h
  rw [Bool.and_eq_true, decide_eq_true_eq] at h1
  exact ⟨by omega, h1.2⟩
theorem ok_are {f fN fA : Addr} {fd fdN fdA : FuncData} {k : Nat} (F : Fun K "are_names" "are_names" sAreNames f fd)
    (FN : Fun K "is_name" "is_name" sIsName fN fdN) (bN : Binds K fdN ["thing"] []) (mN : mg "is_name" = some (.ref fN)) (GN : FnOk P w K mg base CX0 (k + 2) fN fdN ["thing"] (spIsName K))
    (FA : Fun K "ascends" "ascends" sAsc fA fdA) (bA : Binds K fdA ["names"] []) (mA : mg "ascends" = some (.ref fA)) (GA : FnOk P w K mg base CX0 (k + 2) fA fdA ["names"] (spAsc K))
    (mi : mg "isinstance" = none) (mt : mg "tuple" = none) (ma : mg "all" = none) : FnOk P w K mg base CX0 (k + 3) f fd ["thing"] (spAre K) := by
  refine F.ok scAre (fun vs H Q E h => ?_) (fun cdv A outer s H vs Q E hr h => ?_)
  · obtain ⟨v, d, L, n, rfl, _⟩ := h
    rfl
  · obtain ⟨v, d, L, n, rfl, hd, hg, hL, q⟩ := h
    refine ⟨_, pss_one (ps_ret (pe_and (pe_callB (cr_isOne "tuple") (by rfl) mi boot_isinstance (pa_cons (pv 0) (pa_cons (pe_bltn (v := .ty "tuple") (by rfl) mt (by decide +kernel) rfl) pa_nil)))
      (pe_and (pe_callB (cr_all rfl) (by rfl) ma boot_all (pa_cons
        (pe_lc (own := [("name", 1)]) (g := gName 1) (tt := tYes) rfl scAre.nd (pi_tup (pv 0)) (blkOk_by (N := nAre) (sc := defScope sAreNames) (by decide +kernel))
          (fun _ _ _ _ _ => pg_name (i := 1) scAre.nd rfl (Or.inl rfl)) (fun _ _ _ _ _ => pts_nil) (fun _ _ _ _ _ => pe_call GN hr (by rfl) mN FN.kp bN .nil pass0 (pa_cons (pv 1) pa_nil))) pa_nil))
        (pe_one (pe_call GA hr (by rfl) mA FA.kp bA .nil pass0 (pa_cons (pv 0) pa_nil)))))), ?_⟩
    have hv := hd
    have q0 : areNamesD d = false → Q (.bl false) H := fun e => by
      have := q H fun _ _ z => z
      rw [e] at this
      exact this
    cases hd with
    | non => exact ⟨_, rfl, ⟨_, _, rfl, hv, false, (show kitB "NoneType" "tuple" = some false by decide +kernel), _, rfl, iteF (q0 rfl)⟩⟩
    | bl c => exact ⟨_, rfl, ⟨_, _, rfl, hv, false, (show kitB "bool" "tuple" = some false by decide +kernel), _, rfl, iteF (q0 rfl)⟩⟩
    | int c => exact ⟨_, rfl, ⟨_, _, rfl, hv, false, (show kitB "int" "tuple" = some false by decide +kernel), _, rfl, iteF (q0 rfl)⟩⟩
    | str c => exact ⟨_, rfl, ⟨_, _, rfl, hv, false, (show kitB "str" "tuple" = some false by decide +kernel), _, rfl, iteF (q0 rfl)⟩⟩
    | lst h1 h2 => exact ⟨_, rfl, ⟨_, _, rfl, hv, false, (show kitB "list" "tuple" = some false by decide +kernel), _, rfl, iteF (q0 rfl)⟩⟩
    | tup h1 h2 =>
      rename_i a xs ds
      have hl := dps_len h2
      obtain ⟨n0, _, hlen, hgs⟩ := gD_seq (.inr rfl) hg
      refine ⟨_, rfl, ⟨_, _, rfl, hv, true, (show kitB "tuple" "tuple" = some true by decide +kernel), _, rfl, iteT ?_⟩⟩
      refine ⟨_, rfl, a, rfl, ⟨xs, h1⟩, fun D nD => lc_flags (K := K) (walk_tup (xs := xs)) h2 nD (by omega) (fun H2 s2 => same_seqT s2 h1) (fun e => isWordD e 8)
        (fun j x e H2 Q2 he s2 dx k2 => ⟨_, rfl, x, e, rfl, dx, fun z ez => (str_fine (n := n0) (L := L) (by rw [← ez]; exact okGet hgs (List.mem_of_getElem? he))).1, k2⟩) fun H2 s2 hD2 => ⟨D, _, rfl, SqL.of hD2, ?_⟩⟩
      rw [List.all_map]
      refine ⟨_, rfl, ?_⟩
      have eall : ds.all (id ∘ fun e => isWordD e 8) = ds.all fun e => isWordD e 8 := rfl
      rw [eall]
      cases he : ds.all fun e => isWordD e 8 with
      | false =>
        refine iteF ?_
        have e : areNamesD (.tuple ds) = false := by
          show (ds.all (fun e => isWordD e 8) && ascS (ds.map strOfD)) = false
          rw [he]
          rfl
        have q1 := q _ s2
        rw [e] at q1
        exact q1
      | true =>
        refine iteT ?_
        have eb := words_back he
        rw [eb] at h2
        have ev := dps_strV h2
        have e : areNamesD (.tuple ds) = ascS (ds.map strOfD) := by
          show (ds.all (fun e => isWordD e 8) && ascS (ds.map strOfD)) = _
          rw [he]
          rfl
        refine ⟨_, rfl, a, ds.map strOfD, rfl, by rw [← ev]; exact same_seqT s2 h1, by rw [List.length_map]; omega, fun H3 s3 => ?_⟩
        have q1 := q _ (s2.trans s3)
        rw [e] at q1
        exact q1
end
end KV

namespace KV
open PySem PySem.Spec PyProof.Rows L2 RZ
abbrev sIsSetup : Stmt := topS 56
def rInT (K : PySem.W.Frag) : R2 := fun x y H Q => ∃ d ds, Dp K H x d ∧ Dp K H y (.tuple ds) ∧ PyData.canLayAll0 ds = true ∧ d.canLay0 = true ∧ PyData.depthAll ds = 0 ∧ Q (.bl (ds.any fun z => PyData.eqv z d)) H
theorem op_inT {X : Cx} {K : PySem.W.Frag} (hK : X.K = K) (hu : X.A.units + 64 < cLine) : OpR X (compareOp .In) (rInT K) := by
  subst hK
  intro pins s σ H x y v u Q I rx ry h
  obtain ⟨d, ds, hd, he, c1, c2, d0, q⟩ := h
  obtain ⟨as, r1⟩ := Dp.reads I d x v hd rx
  obtain ⟨bs, r2⟩ := Dp.reads I (.tuple ds) y u he ry
  refine SeqAt.in_tuple_reads r2 r1 c1 c2 ?_ ⟨.bl _, H, I, rfl, q⟩
  have := Nat.min_le_left (PyData.depthAll ds) d.depth
  omega
mutual
theorem gD_lay {L : Nat} : ∀ (d : PyData) (n : Nat), gD lf2 L d n = true → d.canLay0 = true
  | .list xs, n, h => by
    obtain ⟨m, rfl, _, h2⟩ := gD_seq (.inl rfl) h
    simpa only [PyData.canLay0] using gDs_lay xs m h2
  | .tuple xs, n, h => by
    obtain ⟨m, rfl, _, h2⟩ := gD_seq (.inr rfl) h
    simpa only [PyData.canLay0] using gDs_lay xs m h2
  | .none, n, _ => rfl
  | .bool _, n, _ => rfl
  | .int _, n, _ => rfl
  | .str x, n, h => by
    have h1 : (decide (x.length ≤ 60) && x.cps.toList.all fun c => decide (c < 1114112)) = true := by simp only [gD] at h; exact h
    rw [Bool.and_eq_true] at h1
    show PyData.strOk x = true
    unfold PyData.strOk
    rw [← Array.all_toList]
    exact h1.2
  | .dict _, n, h => by simp [gD] at h
theorem gDs_lay {L : Nat} : ∀ (ds : List PyData) (n : Nat), gDs lf2 L ds n = true → PyData.canLayAll0 ds = true
  | [], n, _ => rfl
  | d :: ds, n, h => by
    simp only [gDs, Bool.and_eq_true] at h
    simp only [PyData.canLayAll0, gD_lay d n h.1, gDs_lay ds n h.2, Bool.and_self]
end
/-- None, or one of these -/
def slotD (ss : List Str) : PyData → Bool
  | .none => true
  | .str x => decide (x ∈ ss)
  | _ => false
theorem eqv_strs (d : PyData) (h : d ≠ .none) (ss : List Str) : ((ss.map PyData.str).any fun z => PyData.eqv z d) = slotD ss d := by
  cases d with
  | none => exact absurd rfl h
  | str x =>
    show _ = decide (x ∈ ss)
    rw [List.any_map, Bool.eq_iff_iff, List.any_eq_true, decide_eq_true_eq]
    constructor
    · rintro ⟨y, hy, e⟩
      have e2 : (y == x) = true := by simpa [PyData.eqv] using e
      rw [← eq_of_beq e2]
      exact hy
    · intro hx
      exact ⟨x, hx, by simp [PyData.eqv]⟩
  | bool c =>
    show _ = false
    rw [List.any_map, List.any_eq_false]
    intro y _
    simp [PyData.eqv]
  | int c =>
    show _ = false
    rw [List.any_map, List.any_eq_false]
    intro y _
    simp [PyData.eqv]
  | list c =>
    show _ = false
    rw [List.any_map, List.any_eq_false]
    intro y _
    simp [PyData.eqv]
  | tuple c =>
    show _ = false
    rw [List.any_map, List.any_eq_false]
    intro y _
    simp [PyData.eqv]
  | dict c =>
    show _ = false
    rw [List.any_map, List.any_eq_false]
    intro y _
    simp [PyData.eqv]
def pipesD : PyData → List Str
  | .tuple ds => ds.map strOfD
  | _ => []
def slotsD (ss : List Str) : PyData → Bool
  | .tuple es => es.all (slotD ss)
  | _ => false
/-- a SETUP -/
def isSetupD : PyData → Bool
  | .tuple [a, b, p, s] => isNumD a 1 && isNumD b 1 && areNamesD p && slotsD (pipesD p) s
  | _ => false
theorem setup_row : ∀ {d : PyData}, isRowD d 4 = false → isSetupD d = false
  | .tuple [a, b, c, e], h => nomatch h
  | .tuple [], _ => rfl
  | .tuple [_], _ => rfl
  | .tuple [_, _], _ => rfl
  | .tuple [_, _, _], _ => rfl
  | .tuple (_ :: _ :: _ :: _ :: _ :: _), _ => rfl
  | .none, _ => rfl
  | .bool _, _ => rfl
  | .int _, _ => rfl
  | .str _, _ => rfl
  | .list _, _ => rfl
  | .dict _, _ => rfl
theorem row_four : ∀ {d : PyData}, isRowD d 4 = true → ∃ a b c e, d = .tuple [a, b, c, e]
  | .tuple [a, b, c, e], _ => ⟨a, b, c, e, rfl⟩
  | .tuple [], h => nomatch h
  | .tuple [_], h => nomatch h
  | .tuple [_, _], h => nomatch h
  | .tuple [_, _, _], h => nomatch h
  | .tuple (_ :: _ :: _ :: _ :: _ :: r), h => by
    have z : (r.length + 1 + 1 + 1 + 1 + 1) = 4 := of_decide_eq_true h
    omega
  | .none, h => nomatch h
  | .bool _, h => nomatch h
  | .int _, h => nomatch h
  | .str _, h => nomatch h
  | .list _, h => nomatch h
  | .dict _, h => nomatch h
theorem are_pipes : ∀ {d : PyData}, areNamesD d = true → d = .tuple ((pipesD d).map PyData.str) ∧ ascS (pipesD d) = true
  | .tuple ds, h => by
    have z : (ds.all (fun e => isWordD e 8) && ascS (ds.map strOfD)) = true := h
    rw [Bool.and_eq_true] at z
    exact ⟨congrArg PyData.tuple (words_back z.1), z.2⟩
  | .none, h => nomatch h
  | .bool _, h => nomatch h
  | .int _, h => nomatch h
  | .str _, h => nomatch h
  | .list _, h => nomatch h
  | .dict _, h => nomatch h
theorem dp_four {K : PySem.W.Frag} {H : Hp} {v : V} {a b c e : PyData} (h : Dp K H v (.tuple [a, b, c, e])) : ∃ (p : Addr) (x y z u : V), v = .ref p ∧ SqT K H p [x, y, z, u] ∧ Dp K H x a ∧ Dp K H y b ∧ Dp K H z c ∧ Dp K H u e := by
  cases h with
  | tup h1 h2 =>
    cases h2 with
    | cons a1 h2 =>
      cases h2 with
      | cons a2 h2 =>
        cases h2 with
        | cons a3 h2 =>
          cases h2 with
          | cons a4 h2 =>
            cases h2
            exact ⟨_, _, _, _, _, rfl, h1, a1, a2, a3, a4⟩
section
variable {P : Program} {w : World} {K : PySem.W.Frag} {mg : Str → Option Value} {base : Heap}
def spIsSetup (K : PySem.W.Frag) : Sp := fun vs H Q _ => ∃ (v : V) (d : PyData) (L n : Nat), vs = [v] ∧ Dp K H v d ∧ gD lf2 L d n = true ∧ L ≤ 100 ∧ ∀ H', Same H H' → Q (.bl (isSetupD d)) H'
abbrev nIsSetup : List Str := ["thing", "space", "room", "pipes", "slots", "entry"]
theorem scIsSetup : FnScope nIsSetup ["thing"] (defScope sIsSetup) :=
  ⟨rfl, rfl, rfl, by decide +kernel, rfl, by decide +kernel, by decide +kernel⟩
theorem ok_isSetup {f fR fN fA : Addr} {fd fdR fdN fdA : FuncData} {k : Nat} (F : Fun K "is_setup" "is_setup" sIsSetup f fd)
    (FR : Fun K "is_row" "is_row" sRow fR fdR) (bR : Binds K fdR ["thing", "many"] []) (mR : mg "is_row" = some (.ref fR)) (GR : FnOk P w K mg base CX0 (k + 3) fR fdR ["thing", "many"] (spRow K))
    (FN : Fun K "is_number" "is_number" sNum fN fdN) (bN : Binds K fdN ["thing", "least"] []) (mN : mg "is_number" = some (.ref fN)) (GN : FnOk P w K mg base CX0 (k + 3) fN fdN ["thing", "least"] (spNum K))
    (FA : Fun K "are_names" "are_names" sAreNames fA fdA) (bA : Binds K fdA ["thing"] []) (mA : mg "are_names" = some (.ref fA)) (GA : FnOk P w K mg base CX0 (k + 3) fA fdA ["thing"] (spAre K))
    (mi : mg "isinstance" = none) (mt : mg "tuple" = none) (ma : mg "all" = none) : FnOk P w K mg base CX0 (k + 4) f fd ["thing"] (spIsSetup K) := by
  refine F.ok scIsSetup (fun vs H Q E h => ?_) (fun cdv A outer s H vs Q E hr h => ?_)
  · obtain ⟨v, d, L, n, rfl, _⟩ := h
    rfl
  · obtain ⟨v, d, L, n, rfl, hd, hg, hL, q⟩ := h
    refine ⟨_, pss_cons (ps_if (pt_not (pt_val (pe_call GR hr (by rfl) mR FR.kp bR .nil pass0 (pa_cons (pv 0) (pa_cons pe_int pa_nil))))) (pss_one (ps_ret pe_bl)) pss_nil)
      (pss_cons (ps_asg (pv 0) (pg_tup rfl (pgs_cons (pg_name (i := 1) scIsSetup.nd rfl (.inl rfl)) (pgs_cons (pg_name (i := 2) scIsSetup.nd rfl (.inl rfl)) (pgs_cons (pg_name (i := 3) scIsSetup.nd rfl (.inr rfl)) (pgs_cons (pg_name (i := 4) scIsSetup.nd rfl (.inl rfl)) pgs_nil))))))
      (pss_cons (ps_if (PW.pt (pw_or (pt_not (pt_val (pe_call GN hr (by rfl) mN FN.kp bN .nil pass0 (pa_cons (pv 1) (pa_cons pe_int pa_nil)))))
          (pw_or (pt_not (pt_val (pe_call GN hr (by rfl) mN FN.kp bN .nil pass0 (pa_cons (pv 2) (pa_cons pe_int pa_nil)))))
          (pw_or1 (pt_not (pt_val (pe_call GA hr (by rfl) mA FA.kp bA .nil pass0 (pa_cons (pv 3) pa_nil)))))))) (pss_one (ps_ret pe_bl)) pss_nil)
      (pss_one (ps_ret (pe_and (pe_callB (cr_isOne "tuple") (by rfl) mi boot_isinstance (pa_cons (pv 4) (pa_cons (pe_bltn (v := .ty "tuple") (by rfl) mt (by decide +kernel) rfl) pa_nil)))
        (pe_one (pe_callB (cr_all rfl) (by rfl) ma boot_all (pa_cons
          (pe_lc (own := [("entry", 5)]) (g := gName 5) (tt := tYes) rfl scIsSetup.nd (pi_tup (pv 4)) (blkOk_by (N := nIsSetup) (sc := defScope sIsSetup) (by decide +kernel))
            (fun _ _ _ _ _ => pg_name (i := 5) scIsSetup.nd rfl (Or.inl rfl)) (fun _ _ _ _ _ => pts_nil) (fun _ _ _ _ _ => pe_or (pe_cmpR op_isN (pv 5) pe_non (nomark _)) (pe_one (pe_cmpR (op_inT (K := K) rfl hr.units) (pv 5) (pv 3) (by rfl))))) pa_nil)))))))), ?_⟩
    have q0 : isSetupD d = false → ∀ H', Same H H' → Q (.bl false) H' := fun e H' s' => by
      have := q H' s'
      rw [e] at this
      exact this
    refine ⟨_, rfl, v, d, 4, rfl, hd, _, rfl, ?_⟩
    cases h4 : isRowD d 4 with
    | false => exact iteT (q0 (setup_row h4) H fun _ _ z => z)
    | true =>
      refine iteF ?_
      obtain ⟨da, db, dc, de, rfl⟩ := row_four h4
      obtain ⟨p, x, y, z, u, rfl, hS, d1, d2, d3, d4⟩ := dp_four hd
      obtain ⟨n0, rfl, _, hgs⟩ := gD_seq (.inr rfl) hg
      simp only [gDs, Bool.and_eq_true] at hgs
      obtain ⟨g1, g2, g3, g4, _⟩ := hgs
      have es : isSetupD (.tuple [da, db, dc, de]) = (isNumD da 1 && isNumD db 1 && areNamesD dc && slotsD (pipesD dc) de) := rfl
      refine ⟨_, rfl, p, _, rfl, hS, rfl, x, _, rfl, y, _, rfl, z, _, rfl, u, _, rfl, rfl, ?_⟩
      refine ⟨_, rfl, x, da, 1, rfl, d1, _, rfl, ?_⟩
      cases n1 : isNumD da 1 with
      | false => exact iteT (iteT (q0 (by rw [es, n1]; rfl) H fun _ _ z => z))
      | true =>
        refine iteF ⟨_, rfl, y, db, 1, rfl, d2, _, rfl, ?_⟩
        cases n2 : isNumD db 1 with
        | false => exact iteT (iteT (q0 (by rw [es, n1, n2]; rfl) H fun _ _ z => z))
        | true =>
          refine iteF ⟨_, rfl, z, dc, L, n0, rfl, d3, g3, hL, fun H1 s1 => ⟨_, rfl, ?_⟩⟩
          cases n3 : areNamesD dc with
          | false => exact iteT (q0 (by rw [es, n1, n2, n3]; rfl) H1 s1)
          | true =>
            refine iteF ?_
            obtain ⟨ep, _⟩ := are_pipes n3
            have es2 : isSetupD (.tuple [da, db, dc, de]) = slotsD (pipesD dc) de := by
              rw [es, n1, n2, n3]
              rfl
            have e3 : Dp K H1 z (.tuple ((pipesD dc).map PyData.str)) := by
              rw [← ep]
              exact dp_same s1 d3
            have lay : PyData.canLayAll0 ((pipesD dc).map PyData.str) = true := by
              have z1 := gD_lay dc n0 g3
              rw [ep] at z1
              simpa only [PyData.canLay0, pipesD, List.map_map] using z1
            have hv := dp_same s1 d4
            have hv0 := hv
            cases hv with
            | non => exact ⟨_, rfl, ⟨_, _, rfl, hv0, false, (show kitB "NoneType" "tuple" = some false by decide +kernel), _, rfl, iteF (q0 (by rw [es2]; rfl) H1 s1)⟩⟩
            | bl c => exact ⟨_, rfl, ⟨_, _, rfl, hv0, false, (show kitB "bool" "tuple" = some false by decide +kernel), _, rfl, iteF (q0 (by rw [es2]; rfl) H1 s1)⟩⟩
            | int c => exact ⟨_, rfl, ⟨_, _, rfl, hv0, false, (show kitB "int" "tuple" = some false by decide +kernel), _, rfl, iteF (q0 (by rw [es2]; rfl) H1 s1)⟩⟩
            | str c => exact ⟨_, rfl, ⟨_, _, rfl, hv0, false, (show kitB "str" "tuple" = some false by decide +kernel), _, rfl, iteF (q0 (by rw [es2]; rfl) H1 s1)⟩⟩
            | lst h1 h2 => exact ⟨_, rfl, ⟨_, _, rfl, hv0, false, (show kitB "list" "tuple" = some false by decide +kernel), _, rfl, iteF (q0 (by rw [es2]; rfl) H1 s1)⟩⟩
            | tup h1 h2 =>
              rename_i a xs ds _
              have hl := dps_len h2
              obtain ⟨m0, _, hlen, hgs4⟩ := gD_seq (.inr rfl) g4
              refine ⟨_, rfl, ⟨_, _, rfl, hv0, true, (show kitB "tuple" "tuple" = some true by decide +kernel), _, rfl, iteT ?_⟩⟩
              refine ⟨_, rfl, a, rfl, ⟨xs, h1⟩, fun D nD => lc_flags (K := K) (walk_tup (xs := xs)) h2 nD (by omega) (fun H2 s2 => same_seqT s2 h1) (slotD (pipesD dc))
                (fun j x e H2 Q2 he s2 dx k2 => ?_) fun H2 s2 hD2 => ⟨D, _, rfl, SqL.of hD2, ?_⟩⟩
              · have e3' := dp_same s2 e3
                have le := gD_lay e m0 (okGet hgs4 (List.mem_of_getElem? he))
                by_cases en : e = .none
                · subst en
                  cases dx
                  exact ⟨_, rfl, rfl, _, rfl, iteD rfl (k2 H2 fun _ _ z => z)⟩
                · have xn : x ≠ .non := fun xe => by
                    subst xe
                    cases dx
                    exact en rfl
                  refine ⟨_, rfl, rfl, _, rfl, iteDN xn ⟨_, rfl, _, rfl, e, _, dx, e3', lay, le, depth_strs _, ?_⟩⟩
                  rw [eqv_strs e en]
                  exact k2 H2 fun _ _ z => z
              · have q1 := q _ (s1.trans s2)
                rw [es2] at q1
                have ea : (ds.map (slotD (pipesD dc))).all id = slotsD (pipesD dc) (.tuple ds) := by
                  rw [List.all_map]
                  rfl
                rw [ea]
                exact q1
end
end KV

namespace KV
open PySem PySem.Spec PyProof.Rows L2 RZ
abbrev sLawSetup : Stmt := topS 116
theorem ix_seqK {X : Cx} {K : PySem.W.Frag} (h : X.K = K) : IxR X (rIx K) := by
  subst h
  exact ix_seq
theorem op_inSeqK {X : Cx} {K : PySem.W.Frag} (h : X.K = K) : OpR X (compareOp .In) (rIn K false) := by
  subst h
  exact op_in_seq
theorem cr_isOneK {X : Cx} {K : PySem.W.Frag} (h : X.K = K) (n : String) : CallR X (.builtin "isinstance") (rIsOne K n) := by
  subst h
  exact cr_isOne n
theorem eqv_texts : ∀ xs ts : List Str, PyData.eqv (.list (xs.map PyData.str)) (.list (ts.map PyData.str)) = decide (xs = ts) := by
  have key : ∀ xs ts : List Str, PyData.eqvAll (xs.map PyData.str) (ts.map PyData.str) = decide (xs = ts) := by
    intro xs
    induction xs with
    | nil => intro ts; cases ts <;> simp [PyData.eqvAll]
    | cons x xs ih =>
      intro ts
      cases ts with
      | nil => simp [PyData.eqvAll]
      | cons t ts =>
        rw [List.map_cons, List.map_cons]
        simp only [PyData.eqvAll, PyData.eqv, ih ts]
        rw [Bool.eq_iff_iff]
        simp
  intro xs ts
  simp only [PyData.eqv]
  exact key xs ts
theorem word_lay {x : Str} (h : isWordD (.str x) 8 = true) : PyData.strOk x = true := by
  have z : (decide (0 < x.length) && decide (x.length ≤ 8) && x.cps.toList.all isLet) = true := h
  rw [Bool.and_eq_true] at z
  unfold PyData.strOk
  rw [← Array.all_toList, List.all_eq_true]
  intro c hc
  have z2 := List.all_eq_true.mp z.2 c hc
  unfold isLet at z2
  rw [Bool.and_eq_true, decide_eq_true_eq, decide_eq_true_eq] at z2
  rw [decide_eq_true_eq]
  omega
theorem lay_of : ∀ ts : List Str, (∀ t ∈ ts, PyData.strOk t = true) → PyData.canLayAll0 (ts.map PyData.str) = true
  | [], _ => rfl
  | t :: ts, h => by
    simp only [List.map_cons, PyData.canLayAll0, PyData.canLay0, h t List.mem_cons_self, lay_of ts fun u hu => h u (List.mem_cons_of_mem _ hu), Bool.and_self]
theorem shaped_texts {ts : List Str} (h : ∀ t ∈ ts, PyData.strOk t = true) : SeqAt.shaped (.list (ts.map PyData.str)) = true := by
  show (PyData.canLay0 (.list _) && decide (PyData.depth (.list _) ≤ 64)) = true
  simp only [PyData.canLay0, PyData.depth, lay_of ts h, depth_strs]
  decide
def isTupD : PyData → Bool
  | .tuple _ => true
  | _ => false
theorem kit_tup : ∀ d : PyData, kitB (tyD d) "tuple" = some (isTupD d)
  | .none => (by decide +kernel : kitB "NoneType" "tuple" = some false)
  | .bool _ => (by decide +kernel : kitB "bool" "tuple" = some false)
  | .int _ => (by decide +kernel : kitB "int" "tuple" = some false)
  | .str _ => (by decide +kernel : kitB "str" "tuple" = some false)
  | .list _ => (by decide +kernel : kitB "list" "tuple" = some false)
  | .tuple _ => (by decide +kernel : kitB "tuple" "tuple" = some true)
  | .dict _ => (by decide +kernel : kitB "dict" "tuple" = some false)
theorem are_not : ∀ {d : PyData}, isTupD d = false → areNamesD d = false
  | .tuple _, h => nomatch h
  | .none, _ => rfl
  | .bool _, _ => rfl
  | .int _, _ => rfl
  | .str _, _ => rfl
  | .list _, _ => rfl
  | .dict _, _ => rfl
theorem slots_not : ∀ {d : PyData} {ss : List Str}, isTupD d = false → slotsD ss d = false
  | .tuple _, _, h => nomatch h
  | .none, _, _ => rfl
  | .bool _, _, _ => rfl
  | .int _, _, _ => rfl
  | .str _, _, _ => rfl
  | .list _, _, _ => rfl
  | .dict _, _, _ => rfl
theorem tup_of : ∀ {d : PyData}, isTupD d = true → ∃ ds, d = .tuple ds
  | .tuple ds, _ => ⟨ds, rfl⟩
  | .none, h => nomatch h
  | .bool _, h => nomatch h
  | .int _, h => nomatch h
  | .str _, h => nomatch h
  | .list _, h => nomatch h
  | .dict _, h => nomatch h
theorem dp_tupR {K : PySem.W.Frag} {H : Hp} {v : V} {es : List PyData} (h : Dp K H v (.tuple es)) : ∃ a xs, v = .ref a ∧ SqT K H a xs ∧ DpAll K H xs es := by
  cases h with
  | tup h1 h2 => exact ⟨_, _, rfl, h1, h2⟩
section
variable {P : Program} {w : World} {K : PySem.W.Frag} {mg : Str → Option Value} {base : Heap}
abbrev nLawSetup : List Str := ["_law_matter", "_law_bit"]
theorem scLawSetup : FnScope nLawSetup ["_law_matter"] (defScope sLawSetup) :=
  ⟨rfl, rfl, rfl, by decide +kernel, rfl, by decide +kernel, by decide +kernel⟩
theorem ok_lawSetup {f fR fN fA : Addr} {fd fdR fdN fdA : FuncData} {k : Nat} (F : Fun K "_law_is_setup" "_law_is_setup" sLawSetup f fd)
    (FR : Fun K "_law_row_of" "_law_row_of" sRowOf fR fdR) (bR : Binds K fdR ["_law_matter", "_law_size"] []) (mR : mg "_law_row_of" = some (.ref fR)) (GR : FnOk P w K mg base CX0 (k + 3) fR fdR ["_law_matter", "_law_size"] (spRow K))
    (FN : Fun K "_law_whole" "_law_whole" sWhole fN fdN) (bN : Binds K fdN ["_law_matter", "_law_least_so"] []) (mN : mg "_law_whole" = some (.ref fN)) (GN : FnOk P w K mg base CX0 (k + 3) fN fdN ["_law_matter", "_law_least_so"] (spNum K))
    (FA : Fun K "_law_is_word" "_law_is_word" sIsWord fA fdA) (bA : Binds K fdA ["_law_matter", "_law_most_so"] []) (mA : mg "_law_is_word" = some (.ref fA)) (GA : FnOk P w K mg base CX0 (k + 3) fA fdA ["_law_matter", "_law_most_so"] (spIsWord K))
    (mi : mg "isinstance" = none) (mt : mg "tuple" = none) (ma : mg "all" = none) (ml : mg "list" = none) (mst : mg "set" = none) (mso : mg "sorted" = none) (ms : mg "str" = none) : FnOk P w K mg base CX0 (k + 4) f fd ["_law_matter"] (spIsSetup K) := by
  refine F.ok scLawSetup (fun vs H Q E h => ?_) (fun cdv A outer s H vs Q E hr h => ?_)
  · obtain ⟨v, d, L, n, rfl, _⟩ := h
    rfl
  · obtain ⟨v, d, L, n, rfl, hd, hg, hL, q⟩ := h
    refine ⟨_, pss_cons (ps_if (PW.pt (pw_or (pt_not (pt_val (pe_call GR hr (by rfl) mR FR.kp bR .nil pass0 (pa_cons (pv 0) (pa_cons pe_int pa_nil)))))
          (pw_or (pt_not (pt_val (pe_call GN hr (by rfl) mN FN.kp bN .nil pass0 (pa_cons (pe_ix ix_seq (pv 0) pe_int (fun _ _ => rfl)) (pa_cons pe_int pa_nil)))))
          (pw_or1 (pt_not (pt_val (pe_call GN hr (by rfl) mN FN.kp bN .nil pass0 (pa_cons (pe_ix ix_seq (pv 0) pe_int (fun _ _ => rfl)) (pa_cons pe_int pa_nil))))))))) (pss_one (ps_ret pe_bl)) pss_nil)
      (pss_cons (ps_if (PW.pt (pw_or (pt_not (pt_val (pe_callB (cr_isOne "tuple") (by rfl) mi boot_isinstance (pa_cons (pe_ix ix_seq (pv 0) pe_int (fun _ _ => rfl)) (pa_cons (pe_bltn (v := .ty "tuple") (by rfl) mt (by decide +kernel) rfl) pa_nil)))))
          (pw_or1 (pt_not (pt_val (pe_callB (cr_isOne "tuple") (by rfl) mi boot_isinstance (pa_cons (pe_ix ix_seq (pv 0) pe_int (fun _ _ => rfl)) (pa_cons (pe_bltn (v := .ty "tuple") (by rfl) mt (by decide +kernel) rfl) pa_nil)))))))) (pss_one (ps_ret pe_bl)) pss_nil)
      (pss_cons (ps_for PassesOwn.never rfl (pi_tup (pe_ix ix_seq (pv 0) pe_int (fun _ _ => rfl))) (pg_name (i := 1) scLawSetup.nd rfl (.inl rfl))
          (pss_one (ps_if (pt_not (pt_val (pe_call GA hr (by rfl) mA FA.kp bA .nil pass0 (pa_cons (pv 1) (pa_cons pe_int pa_nil))))) (pss_one (ps_ret pe_bl)) pss_nil)))
      (pss_cons (ps_if (pt_cmpR (op_neD hr.units) (pe_callTy call_list_of (by rfl) ml PyProof.Rows.boot_list (pa_cons (pe_ix ix_seq (pv 0) pe_int (fun _ _ => rfl)) pa_nil))
          (pe_callB (cr_sortedT rfl) (by rfl) mso boot_sorted (pa_cons (pe_callTy (cr_setT rfl) (by rfl) mst PyProof.Rows.boot_set (pa_cons (pe_ix ix_seq (pv 0) pe_int (fun _ _ => rfl)) pa_nil)) pa_nil)) (nomark _)) (pss_one (ps_ret pe_bl)) pss_nil)
      (pss_one (ps_ret (pe_callB (cr_all rfl) (by rfl) ma boot_all (pa_cons
          (pe_lc (own := [("_law_bit", 1)]) (g := gName 1) (tt := tYes) rfl scLawSetup.nd (pi_tup (pe_ix ix_seq (pv 0) pe_int (fun _ _ => rfl))) (blkOk_by (N := nLawSetup) (sc := defScope sLawSetup) (by decide +kernel))
            (fun _ _ _ _ _ => pg_name (i := 1) scLawSetup.nd rfl (Or.inl rfl)) (fun _ _ _ _ _ => pts_nil) (fun _ _ _ _ _ => pe_or (pe_cmpR op_isN (pv 1) pe_non (nomark _))
              (pe_one (pe_and (pe_callB (cr_isOneK (K := K) rfl "str") (by rfl) mi boot_isinstance (pa_cons (pv 1) (pa_cons (pe_bltn (v := .ty "str") (by rfl) ms (by decide +kernel) rfl) pa_nil)))
                (pe_one (pe_cmpR (op_inSeqK (K := K) rfl) (pv 1) (pe_ix (ix_seqK (K := K) rfl) (pv 0) pe_int (fun _ _ => rfl)) (by rfl))))))) pa_nil))))))), ?_⟩
    have q0 : isSetupD d = false → ∀ H', Same H H' → Q (.bl false) H' := fun e H' s' => by
      have := q H' s'
      rw [e] at this
      exact this
    refine ⟨_, rfl, v, d, 4, rfl, hd, _, rfl, ?_⟩
    cases h4 : isRowD d 4 with
    | false => exact iteT (iteT (q0 (setup_row h4) H fun _ _ z => z))
    | true =>
      refine iteF ?_
      obtain ⟨da, db, dc, de, rfl⟩ := row_four h4
      obtain ⟨p, x, y, z, u, rfl, hS, d1, d2, d3, d4⟩ := dp_four hd
      obtain ⟨n0, rfl, _, hgs⟩ := gD_seq (.inr rfl) hg
      simp only [gDs, Bool.and_eq_true] at hgs
      obtain ⟨g1, g2, g3, g4, _⟩ := hgs
      have es : isSetupD (.tuple [da, db, dc, de]) = (isNumD da 1 && isNumD db 1 && areNamesD dc && slotsD (pipesD dc) de) := rfl
      refine ⟨_, rfl, .inr (.inl ⟨p, _, 0, x, rfl, rfl, hS, atI_nat (j := 0) rfl, x, da, 1, rfl, d1, _, rfl, ?_⟩)⟩
      cases n1 : isNumD da 1 with
      | false => exact iteT (iteT (q0 (by rw [es, n1]; rfl) H fun _ _ z => z))
      | true =>
        refine iteF ⟨_, rfl, .inr (.inl ⟨p, _, 1, y, rfl, rfl, hS, atI_nat (j := 1) rfl, y, db, 1, rfl, d2, _, rfl, ?_⟩)⟩
        cases n2 : isNumD db 1 with
        | false => exact iteT (q0 (by rw [es, n1, n2]; rfl) H fun _ _ z => z)
        | true =>
          refine iteF ⟨_, rfl, .inr (.inl ⟨p, _, 2, z, rfl, rfl, hS, atI_nat (j := 2) rfl, ⟨_, _, rfl, d3, _, kit_tup dc, _, rfl, ?_⟩⟩)⟩
          cases t1 : isTupD dc with
          | false => exact iteT (iteT (q0 (by rw [es, n1, n2, are_not t1]; rfl) H fun _ _ z => z))
          | true =>
            refine iteF ⟨_, rfl, .inr (.inl ⟨p, _, 3, u, rfl, rfl, hS, atI_nat (j := 3) rfl, ⟨_, _, rfl, d4, _, kit_tup de, _, rfl, ?_⟩⟩)⟩
            cases t2 : isTupD de with
            | false => exact iteT (q0 (by rw [es, slots_not t2, Bool.and_false]) H fun _ _ z => z)
            | true =>
              refine iteF ?_
              obtain ⟨ds, rfl⟩ := tup_of t1
              obtain ⟨fs, rfl⟩ := tup_of t2
              obtain ⟨a3, xs3, rfl, S3, A3⟩ := dp_tupR d3
              obtain ⟨a4, xs4, rfl, S4, A4⟩ := dp_tupR d4
              have l3 := dps_len A3
              have l4 := dps_len A4
              obtain ⟨m3, _, len3, gs3⟩ := gD_seq (.inr rfl) g3
              obtain ⟨m4, _, len4, gs4⟩ := gD_seq (.inr rfl) g4
              refine ⟨_, rfl, .inr (.inl ⟨p, _, 2, .ref a3, rfl, rfl, hS, atI_nat (j := 2) rfl, a3, rfl, ⟨xs3, S3⟩, for_it (walk_tup (xs := xs3)) (fun j σ H' => ∃ y, σ = [some (.ref p), y] ∧ Same H H' ∧ ∀ e ∈ ds.take j, isWordD e 8 = true)
                ⟨none, rfl, fun _ _ z => z, fun e he => absurd he List.not_mem_nil⟩ (fun j σ H' _ hp => ?_) ?_ ?_⟩)⟩
              · obtain ⟨_, _, s', _⟩ := hp
                exact same_seqT s' S3
              · rintro j x' σ H' H'' hj ⟨y', rfl, s', w'⟩ ⟨rfl, hx⟩
                obtain ⟨e, he, dx⟩ := dps_get A3 hx
                refine ⟨_, rfl, x', e, 8, rfl, by decide, dp_same s' dx, fun w ew => str_fine (n := m3) (L := L) (by rw [← ew]; exact okGet gs3 (List.mem_of_getElem? he)), fun H2 s2 => ⟨_, rfl, ?_⟩⟩
                cases hw : isWordD e 8 with
                | false =>
                  refine iteT (q0 ?_ H2 (s'.trans s2))
                  have no : areNamesD (.tuple ds) = false := by
                    show (ds.all (fun e => isWordD e 8) && ascS (ds.map strOfD)) = false
                    have na : ds.all (fun e => isWordD e 8) = false := by
                      rw [List.all_eq_false]
                      exact ⟨e, List.mem_of_getElem? he, by rw [hw]; exact Bool.false_ne_true⟩
                    rw [na]
                    rfl
                  rw [es, n1, n2, no]
                  rfl
                | true =>
                  refine iteF ⟨some x', rfl, s'.trans s2, fun e2 he2 => ?_⟩
                  rw [take_snoc he] at he2
                  rcases List.mem_append.mp he2 with he2 | he2
                  · exact w' e2 he2
                  · rw [List.mem_singleton.mp he2]
                    exact hw
              · rintro σ H' ⟨y', rfl, s', w'⟩
                rw [l3, List.take_length] at w'
                have hall : ds.all (fun e => isWordD e 8) = true := List.all_eq_true.mpr w'
                have eb := words_back hall
                have ean : areNamesD (.tuple ds) = ascS (ds.map strOfD) := by
                  show (ds.all (fun e => isWordD e 8) && ascS (ds.map strOfD)) = _
                  rw [hall]
                  rfl
                have epi : pipesD (.tuple ds) = ds.map strOfD := rfl
                rw [ean, epi, n1, n2] at es
                have okS : ∀ t ∈ ds.map strOfD, PyData.strOk t = true := fun t ht => by
                  obtain ⟨e, he, rfl⟩ := List.mem_map.mp ht
                  have hw := w' e he
                  cases e with
                  | str x => exact word_lay hw
                  | _ => exact nomatch hw
                have A3' := A3
                rw [eb] at A3'
                have ev := dps_strV A3'
                have lss : (ds.map strOfD).length = ds.length := List.length_map _
                generalize ds.map strOfD = ss at eb es okS ev lss
                have S3' : SqT K H' a3 (ss.map V.str) := by
                  rw [← ev]
                  exact same_seqT s' S3
                have hS' := same_seqT s' hS
                refine ⟨_, rfl, .inr (.inl ⟨p, _, 2, .ref a3, rfl, rfl, hS', atI_nat (j := 2) rfl, a3, _, rfl, .inr S3', fun l nl => ?_⟩)⟩
                have sl : Same H' (upd H' l (.lst (ss.map V.str))) := same_upd nl
                refine ⟨_, rfl, .inr (.inl ⟨p, _, 2, .ref a3, rfl, rfl, same_seqT sl hS', atI_nat (j := 2) rfl, a3, ss, rfl, same_seqT sl S3', by omega, fun a l2 na hm hl2 => ⟨a, l2, rfl, upd_same, by omega, fun ts p2 hs pm nd np => ?_⟩⟩)⟩
                have sa := same_upd (o := TxO P w a l2) na
                have sp := same_upd (o := HO.lst (ts.map V.str)) np
                have okT : ∀ t ∈ ts, PyData.strOk t = true := fun t ht => okS t ((hm t).mp (pm.mem_iff.mp ht))
                refine ⟨.list (ss.map PyData.str), .list (ts.map PyData.str), .lst (SqL.of (sp _ _ (sa _ _ upd_same))) (dps_strs ss), .lst (SqL.of upd_same) (dps_strs ts), shaped_texts okS, shaped_texts okT, _, rfl, ?_⟩
                have s8 : Same H' _ := (sl.trans sa).trans sp
                have iff := sorted_set_iff hm nd hs pm
                rw [eqv_texts]
                by_cases e9 : ss = ts
                · rw [decide_eq_true e9]
                  refine iteF ?_
                  rw [iff.mp e9] at es
                  have s9 := s'.trans s8
                  refine ⟨_, rfl, .inr (.inl ⟨p, _, 3, .ref a4, rfl, rfl, same_seqT s9 hS, atI_nat (j := 3) rfl, a4, rfl, ⟨xs4, same_seqT s9 S4⟩, fun D nD => lc_flags (K := K) (walk_tup (xs := xs4)) (dps_same s9 A4) nD (by omega) (fun H2 s2 => same_seqT (s9.trans s2) S4) (slotD ss)
                    (fun j x e H2 Q2 he s2 dx k2 => ?_) fun H2 s2 hD2 => ⟨D, _, rfl, SqL.of hD2, ?_⟩⟩)⟩
                  · cases dx with
                    | non => exact ⟨_, rfl, rfl, _, rfl, iteD rfl (k2 H2 fun _ _ z => z)⟩
                    | bl c => exact ⟨_, rfl, rfl, _, rfl, iteDN (fun z => nomatch z) ⟨_, rfl, ⟨_, _, rfl, .bl c, false, (show kitB "bool" "str" = some false by decide +kernel), _, rfl, iteF (k2 H2 fun _ _ z => z)⟩⟩⟩
                    | int c => exact ⟨_, rfl, rfl, _, rfl, iteDN (fun z => nomatch z) ⟨_, rfl, ⟨_, _, rfl, .int c, false, (show kitB "int" "str" = some false by decide +kernel), _, rfl, iteF (k2 H2 fun _ _ z => z)⟩⟩⟩
                    | lst h1 h2 => exact ⟨_, rfl, rfl, _, rfl, iteDN (fun z => nomatch z) ⟨_, rfl, ⟨_, _, rfl, .lst h1 h2, false, (show kitB "list" "str" = some false by decide +kernel), _, rfl, iteF (k2 H2 fun _ _ z => z)⟩⟩⟩
                    | tup h1 h2 => exact ⟨_, rfl, rfl, _, rfl, iteDN (fun z => nomatch z) ⟨_, rfl, ⟨_, _, rfl, .tup h1 h2, false, (show kitB "tuple" "str" = some false by decide +kernel), _, rfl, iteF (k2 H2 fun _ _ z => z)⟩⟩⟩
                    | str c =>
                      refine ⟨_, rfl, rfl, _, rfl, iteDN (fun z => nomatch z) ⟨_, rfl, ⟨_, _, rfl, .str c, true, (show kitB "str" "str" = some true by decide +kernel), _, rfl, iteT ⟨_, rfl, _, rfl, .inr (.inl ⟨p, _, 2, .ref a3, rfl, rfl, same_seqT (s9.trans s2) hS, atI_nat (j := 2) rfl, a3, _, rfl, .inr (same_seqT (s8.trans s2) S3'), rfl, flat_strs ss, ?_⟩)⟩⟩⟩⟩
                      rw [in_strs]
                      exact k2 H2 fun _ _ z => z
                  · have q1 := q _ (s9.trans s2)
                    rw [es] at q1
                    have ea : (fs.map (slotD ss)).all id = slotsD ss (.tuple fs) := by
                      rw [List.all_map]
                      rfl
                    rw [ea]
                    exact q1
                · rw [decide_eq_false e9]
                  refine iteT (q0 ?_ _ (s'.trans s8))
                  have na : ascS ss = false := by
                    cases z : ascS ss with
                    | false => rfl
                    | true => exact absurd (iff.mpr z) e9
                  rw [es, na]
                  rfl
end
end KV

namespace L2
open PySem PySem.Spec PyProof.Rows
/-! ### try .. except (A, B, C, D) as e, where what is raised is one of these; what was caught stays tracked -/
/-- an exception that was caught, of the class cls, its own dict d, at a -/
def exq (a : Addr) (cls : Value) (d : Option Addr) : HO := .ext fun h => ∃ (oe : Obj) (vs : Array Value), h.get? a = some oe ∧ Zc cls d oe ∧ oe.data = .fields vs
theorem exq_ok {P : Program} {w : World} {H : Hp} {h : Heap} {a : Addr} {cls : Value} {d : Option Addr} {oe : Obj} {vs : Array Value} (e : h.get? a = some oe) (z : Zc cls d oe) (hd : oe.data = .fields vs) : ObjOk P w H h a (exq a cls d) :=
  ⟨⟨oe, vs, e, z, hd⟩, ⟨oe, e⟩, fun _ _ ⟨o, v, q, r⟩ k => ⟨o, v, k o q, r⟩⟩
/-- an object of ours that stands already is tracked -/
theorem Inv.track {X : Cx} {pins : List (Addr × Obj)} {σ : St} {H : Hp} {s : Shared} {a : Addr} {o : HO} (I : Inv X pins σ H s) (hn : H a = none) (h0 : X.s_0.heap.get? a = none) (nL : X.env.locals ≠ a)
    (nc : ∀ x c, X.env.cells.lookup x = some c → c ≠ a) (np : ∀ p ∈ X.pn ++ pins, p.1 ≠ a) (new : ObjOk X.prog X.w (upd H a o) s.heap a o) : Inv X pins σ (upd H a o) s := by
  have ne0 : ∀ b u, X.s_0.heap.get? b = some u → b ≠ a := fun b u e z => by
    rw [z, h0] at e
    cases e
  refine ⟨I.ok, I.os, I.bare, ⟨I.base.keep, I.base.slot, fun b u e n hx => ?_, I.base.there, fun b xs e => ?_, fun b u v e => ?_, fun b ps e => ?_⟩, I.loc, I.cell, ?_, fun x c e => ?_, fun p hp => ?_, I.hok.laidN (fun _ _ z => z) hn new, I.len⟩
  · rw [upd_ne (ne0 b u e)]
    exact I.base.free b u e n hx
  · have q := I.base.tups b xs e
    rw [upd_ne (ne_of_none q hn)]
    exact q
  · have q := I.base.frzs b u v e
    rw [upd_ne (ne_of_none q hn)]
    exact q
  · obtain ⟨m, q⟩ := I.base.tbls b ps e
    exact ⟨m, by rw [upd_ne (ne_of_none q hn)]; exact q⟩
  · rw [upd_ne nL]
    exact I.free
  · rw [upd_ne (nc x c e)]
    exact I.freeC x c e
  · obtain ⟨e, n, ne, nf, d⟩ := I.pin p hp
    exact ⟨e, by rw [upd_ne (np p hp)]; exact n, ne, nf, d⟩
/-- an exception at a, on the ground of X: sI is the state without it -/
structure FlyAt (X : Cx) (pins : List (Addr × Obj)) (σ : St) (H : Hp) (a : Addr) (cls : Value) (d : Option Addr) (B : Heap) (sI s : Shared) : Prop where
  inv : Inv X pins σ H sI
  nb : ∀ b o, sI.heap.get? b = some o → b ∉ frs X.stack → B.get? b = some o
  up : sI.heap.UpToSlots s.heap
  fly : HandSPX.FlyingZ B (X.env :: X.outer) a (Zc cls d) s.heap
  na : H a = none
  os : s.os = sI.os
  ag : AllBare s.gens
section
variable {X : Cx} {pins : List (Addr × Obj)} {σ : St} {H : Hp} {a : Addr} {cls : Value} {d : Option Addr} {B : Heap} {sI s : Shared}
theorem FlyAt.state (F : FlyAt X pins σ H a cls d B sI s) : Inv X pins σ H s := F.inv.landed F.nb F.fly.1 F.up F.os F.ag
theorem FlyAt.out (F : FlyAt X pins σ H a cls d B sI s) : a ∉ frs (X.env :: X.outer) := fun hm => by
  obtain ⟨oe, vs, e, _, dd⟩ := F.fly.there
  obtain ⟨_, o, e2, n⟩ := F.fly.2.2.1.mem hm
  cases e.symm.trans e2
  exact n _ dd
theorem FlyAt.noLoc (F : FlyAt X pins σ H a cls d B sI s) (hf : X.env.frame = some X.env.locals) : a ≠ X.env.locals := fun z =>
  F.out (List.mem_filterMap.mpr ⟨X.env, List.mem_cons_self, hf.trans (congrArg some z.symm)⟩)
theorem FlyAt.noFs (F : FlyAt X pins σ H a cls d B sI s) : a ∉ X.fs := fun hm => by
  obtain ⟨e, he, q⟩ := List.mem_filterMap.mp hm
  exact F.out (List.mem_filterMap.mpr ⟨e, List.mem_cons_of_mem _ he, q⟩)
/-- it was not there -/
theorem FlyAt.new (F : FlyAt X pins σ H a cls d B sI s) (hs : X.stack = X.env :: X.outer) : sI.heap.get? a = none := by
  cases e : sI.heap.get? a with
  | none => rfl
  | some o =>
    have z := F.nb a o e (hs ▸ F.out)
    rw [F.fly.2.1] at z
    cases z
theorem FlyAt.new0 (F : FlyAt X pins σ H a cls d B sI s) (hs : X.stack = X.env :: X.outer) (hex : X.ex = []) : X.s_0.heap.get? a = none := by
  cases e : X.s_0.heap.get? a with
  | none => rfl
  | some o =>
    obtain ⟨_, z⟩ := F.inv.base.there a o e (by rw [hex]; exact List.not_mem_nil)
    rw [F.new hs] at z
    cases z
/-- more objects, or the same in another state of its slots -/
theorem FlyAt.to {h : Heap} (F : FlyAt X pins σ H a cls d B sI s) (fl : HandSPX.FlyingZ B (X.env :: X.outer) a (Zc cls d) h) (up : s.heap.UpToSlots h) : FlyAt X pins σ H a cls d B sI { s with heap := h } :=
  ⟨F.inv, F.nb, F.up.trans up, fl, F.na, F.os, F.ag⟩
theorem FlyAt.grow {h : Heap} (F : FlyAt X pins σ H a cls d B sI s) (k : ∀ b o, s.heap.get? b = some o → h.get? b = some o) : FlyAt X pins σ H a cls d B sI { s with heap := h } := by
  refine F.to ?_ (Heap.UpToSlots.of_keeps k)
  obtain ⟨f1, f2, f3, oe, vs, T, oT, ts, he, hz, hd, h1, hn, hne, hT, hdT, h3⟩ := F.fly
  exact ⟨fun b o q => k b o (f1 b o q), f2, f3.of_keeps fun b o q _ => ⟨o, k b o q, rfl⟩, oe, vs, T, oT, ts, k _ _ he, hz, hd, h1, hn, hne, k _ _ hT, hdT, h3⟩
/-- behind the suite it is tracked -/
theorem FlyAt.kept {oe : Obj} {pn' : List (Addr × Obj)} {σ' : St} {H' : Hp} {s' : Shared} (F : FlyAt X pins σ H a cls d B sI s) (hs : X.stack = X.env :: X.outer) (hex : X.ex = []) (hz : Zc cls d oe) (hd : ∃ vs, oe.data = .fields vs)
    (S : Inv (X.suite a ((a, oe) :: (X.pn ++ pins))) pn' σ' H' s') : Inv X pins σ' (upd H' a (exq a cls d)) s' := by
  obtain ⟨vs, hd⟩ := hd
  obtain ⟨p1, p2, p3, _, p5⟩ := S.pin (a, oe) (List.mem_append_left _ List.mem_cons_self)
  have J := S.unsuite F.inv.ok
  refine J.track p2 (F.new0 hs hex) (fun z => p3 z.symm) (fun x c ec z => ?_) (fun p hp z => ?_) (exq_ok p1 hz hd)
  · obtain ⟨v, o, ho, hdc⟩ := J.cell x c ec
    rw [z] at ho
    cases p1.symm.trans ho
    exact p5 v hdc
  · have e := (F.inv.pin p hp).1
    rw [z, F.new hs] at e
    cases e
end
/-- what the clause 'except (..) as n' wishes of an exception of the body: it is one of these -/
def wKeep4 (K : PySem.W.Frag) (c1 c2 c3 c4 : Value) (i : Nat) (ts : Addr → Value → Option Addr → TS) (D : Ends) : WX := fun cls d σ H =>
  PySem.W.exmAny K cls [c1, c2, c3, c4] = some true ∧ ∀ a, H a = none → ts a cls d { nx := fun σ' H' => D.nx (σ'.set i none) (upd H' a (exq a cls d)), rt := fun _ _ => False, bk := fun _ _ => False, ct := fun _ _ => False } (σ.set i (some (.ref a))) H
section
variable {X : Cx} {x1 x2 x3 x4 n : Str} {c1 c2 c3 c4 : Value} {i kk : Nat} {body suite : List Stmt} {b₀ : Stmt} {p1 p2 p3 p4 np pos pos' : Pos} {tb : WX → TS} {ts : Addr → Value → Option Addr → TS}
theorem ps_try_keep4 (hex : X.ex = []) (hs : X.stack = X.env :: X.outer) (hf : X.env.frame = some X.env.locals) (hN : X.N.Nodup) (hi : X.N[i]? = some n) (hln : X.env.kindOf n = some .local)
    (h1 : Names X x1 c1) (h2 : Names X x2 c2) (h3 : Names X x3 c3) (h4 : Names X x4 c4)
    (hb : ∀ (W : WX) (pn : List (Addr × Obj)) (xe : Value → Shared → Prop), Takes (X.tr pn xe) W → PassesOwn (model X.prog X.w) X.A X.env xe → PSs (X.tr pn xe) body (tb W))
    (hsu : ∀ (a : Addr) (oe : Obj) (cls : Value) (d : Option Addr) (pn : List (Addr × Obj)), Zc cls d oe → (∃ vs, oe.data = .fields vs) → PSs (X.suite a ((a, oe) :: pn)) (b₀ :: suite) (ts a cls d)) :
    PS X (.Try body [.ExceptHandler (some (.Tuple [.Name x1 p1, .Name x2 p2, .Name x3 p3, .Name x4 p4] kk np)) (some n) (b₀ :: suite) pos'] [] [] pos) (fun D σ H => tb (wKeep4 X.K c1 c2 c3 c4 i ts D) D σ H) := by
  refine ⟨fun pins s σ H D I hw => ?_⟩
  have ok := I.ok
  have stk : X.A.frames = some (X.env :: X.outer) := ok.frames.trans (congrArg some hs)
  have thrown : ∀ u s', XE (X.tr (X.pn ++ pins) fun e s₁ => wpAny (model X.prog X.w) X.A (noteFrame e X.env) (fun _ s₂ => wpAny (model X.prog X.w) X.A (setFlight e none) (fun _ s₃ =>
      wpAny (model X.prog X.w) X.A (handleBy e X.env [.ExceptHandler (some (.Tuple [.Name x1 p1, .Name x2 p2, .Name x3 p3, .Name x4 p4] kk np)) (some n) (b₀ :: suite) pos']) (SP X pins D) X.xe s₃) X.xe s₂) X.xe s₁) (wKeep4 X.K c1 c2 c3 c4 i ts D) u s' →
      wpAny (model X.prog X.w) X.A (noteFrame u X.env) (fun _ s₂ => wpAny (model X.prog X.w) X.A (setFlight u none) (fun _ s₃ =>
        wpAny (model X.prog X.w) X.A (handleBy u X.env [.ExceptHandler (some (.Tuple [.Name x1 p1, .Name x2 p2, .Name x3 p3, .Name x4 p4] kk np)) (some n) (b₀ :: suite) pos']) (SP X pins D) X.xe s₃) X.xe s₂) X.xe s' := by
    rintro u s' ⟨a, B, sI, pins', σ', H', cls, d, rfl, J, nb, up, sky, na, os, ag, hm, hgo⟩
    have J0 : Inv X pins σ' H' sI := J.ofTry ok
    refine Sky.land Zc.steady stk hf (hs ▸ sky) fun g fl up2 => ?_
    have F : FlyAt X pins σ' H' a cls d B sI { s' with heap := g } := ⟨J0, nb, up.trans up2, fl, na, os, ag⟩
    obtain ⟨oe, vs, he, hz, hd⟩ := F.fly.there
    have S := F.state.suite he hd na (F.noLoc hf) F.noFs
    have look : ∀ {x : Str} {c : Value} {p : Pos} {Q : Value → Shared → Prop} {E : Value → Shared → Prop}, Names X x c → Q c { s' with heap := g } → wpAny (model X.prog X.w) (X.A.mark (some (.ref a))) (eval (.Name x p) X.env) Q E { s' with heap := g } := by
      rintro x c p Q E ⟨hg, hdb, hm | ⟨hm, hv, hnn⟩⟩ q
      · exact ld_glob (X := X.suite a ((a, oe) :: (X.pn ++ pins))) S hg hm q hdb
      · exact ld_blt (X := X.suite a ((a, oe) :: (X.pn ++ pins))) S hg hm hv q hnn hdb
    have ty : PySem.W.Looks (model X.prog X.w) g (typeOf (.ref a)) cls := fun A Q E s k q => wpAny_typeOf_ref (k _ _ he) (by rw [hz.1]; exact q)
    refine wpAny_handleBy_cons (codeAny_handlers_test ?_) (by intro q; cases q)
    refine wpAny_Tuple (wpAny_items_cons (look h1 (wpAny_items_cons (look h2 (wpAny_items_cons (look h3 (wpAny_items_cons (look h4 (wpAny_items_nil ⟨by size_fits, ?_⟩)))))))))
    have kp : ∀ q o, g.get? q = some o → (g.push { cls := .type "tuple", data := .seq [c1, c2, c3, c4].toArray }).get? q = some o := fun _ _ z => Heap.get?_push_of_some _ z
    refine (PySem.W.exm_tup4 (M := model X.prog X.w) (F.state.kIn.keeps kp) (ty.keeps kp) (Heap.get?_push_size g rfl) hm).here ?_
    have F2 := F.grow kp
    clear S look ty hz he
    generalize g.push { cls := .type "tuple", data := .seq [c1, c2, c3, c4].toArray } = g2 at F2 ⊢
    refine codeAny_handlers_suite_as (HandSPX.lands_againZ F2.fly fun g3 fl3 up3 => ?_)
    have F3 := F2.to fl3 up3
    obtain ⟨o3, v3, he3, hz3, hd3⟩ := F3.fly.there
    refine store_ok (X := X.suite a ((a, o3) :: (X.pn ++ pins))) (v := .ref a) (F3.state.suite he3 hd3 na (F3.noLoc hf) F3.noFs) hN hi (.inl hln) rfl (fun s5 S5 => ?_) (.inr hln)
    refine wpAny_mono ((hsu a o3 cls d (X.pn ++ pins) hz3 ⟨_, hd3⟩).run [] s5 _ H' _ S5 (hgo a na)) (fun f s6 hsp => ?_) (fun _ _ z => False.elim z)
    cases f with
    | next =>
      obtain ⟨σ6, H6, S6, q6⟩ := hsp
      exact gone_ok (F3.kept hs hex hz3 ⟨_, hd3⟩ S6) hN hi hln fun s7 J7 => ⟨_, _, J7, q6⟩
    | brk =>
      obtain ⟨_, _, _, z⟩ := hsp
      exact z.elim
    | cont =>
      obtain ⟨_, _, _, z⟩ := hsp
      exact z.elim
    | ret u =>
      obtain ⟨_, _, _, _, _, z⟩ := hsp
      exact z.elim
  refine wpAny_Try_except (wpAny_mono ((hb (wKeep4 X.K c1 c2 c3 c4 i ts D) (X.pn ++ pins) _ thrown PassesOwn.looking).run [] s σ H D (I.toTry _) hw) (fun f s1 hsp => ?_) fun e s1 he => he)
  cases f with
  | next =>
    obtain ⟨σ', H', J, q⟩ := hsp
    exact wpAny_execs_nil ⟨σ', H', J.ofTry ok, q⟩
  | brk =>
    obtain ⟨σ', H', J, q⟩ := hsp
    exact ⟨σ', H', J.ofTry ok, q⟩
  | cont =>
    obtain ⟨σ', H', J, q⟩ := hsp
    exact ⟨σ', H', J.ofTry ok, q⟩
  | ret u =>
    obtain ⟨v, σ', H', J, r, q⟩ := hsp
    exact ⟨v, σ', H', J.ofTry ok, r, q⟩
end
end L2

namespace KV
open PySem PySem.Spec PyProof.Rows L2 RZ
/-! ### class BadLine -/
abbrev sBadInit : Stmt := inClass (topS 58) 0
/-- what the written part says of BadLine, at B, its __init__ at fB -/
structure BadTxt (K : PySem.W.Frag) (mg : Str → Option Value) (B fB : Addr) (fdB : FuncData) : Prop where
  ox : OexC K B
  iC : PySem.W.findIn K (.ref B) "__init__" = some (some (.ref fB))
  tI : PySem.W.typeIn K (.ref fB) = some (.type "function")
  no : PySem.W.findIn K (.ref B) "number" = some none
  vV : PySem.W.findCls K (.type "ValueError") (.type "type") "__init__" = some (.val (.builtin "ValueError.__init__"))
  mV : mg "ValueError" = none
  mB : mg "BadLine" = some (.ref B)
  F : Fun K "__init__" "BadLine.__init__" sBadInit fB fdB
  bB : Binds K fdB ["self", "number"] []
section
variable {P : Program} {w : World} {K : PySem.W.Frag} {mg : Str → Option Value} {base : Heap}
def spBadInit (B : Addr) : Sp := fun vs H Q _ => ∃ (a : Addr) (n : Nat), vs = [.ref a, .int n] ∧ n < 1000 ∧ H a = some (exo a B none) ∧ ∀ dx, H dx = none → dx ≠ a → Q .non (upd (upd H dx (exd dx [("number", .int n)])) a (exo a B (some dx)))
theorem scBadInit : FnScope ["self", "number"] ["self", "number"] (defScope sBadInit) := ⟨rfl, rfl, rfl, by decide +kernel, rfl, by decide +kernel, by decide +kernel⟩
theorem small_text {n : Nat} (h : n < 1000) : (toString ((n : Nat) : Int) : Str).length ≤ 4 := by
  have key : (List.range 1000).all (fun n => decide ((toString ((n : Nat) : Int) : Str).length ≤ 4)) = true := by decide +kernel
  exact of_decide_eq_true (List.all_eq_true.mp key n (List.mem_range.mpr h))
theorem len_two (x y : Str) (a b : Nat) (h : x.length ≤ a) (k : y.length ≤ b) : (x ++ y).length ≤ a + b := by
  rw [Str.length_append]
  omega
theorem ok_badInit {B fB : Addr} {fdB : FuncData} (T : BadTxt K mg B fB fdB) : FnOk P w K mg base CX0 1 fB fdB ["self", "number"] (spBadInit B) := by
  refine T.F.ok scBadInit (fun vs H Q E h => ?_) (fun cdv A outer s H vs Q E hr h => ?_)
  · obtain ⟨a, n, rfl, _⟩ := h
    rfl
  · obtain ⟨a, n, rfl, hn, ha, q⟩ := h
    refine ⟨_, pss_cons (ps_expr (pe_veinit (by rfl) T.mV T.vV (pa_cons (pv 0) (pa_cons (pe_joined (PJ.cons pe_str (PJ.cons (pe_fmt (pv 1)) (PJ.cons pe_str PJ.nil)))) pa_nil))))
      (pss_one (ps_ost (pv 0) (pv 1))), ?_⟩
    have l0 := small_text hn
    refine ⟨_, rfl, _, rfl, (by decide +kernel), ?_⟩
    refine ⟨_, rfl, .inr ⟨_, rfl, ?_, _, rfl, ?_, ?_⟩⟩
    · show n.log2 < 1920
      exact Nat.lt_of_le_of_lt (Nat.log2_le_self n) (by omega)
    · exact Nat.le_trans (len_two _ _ 5 4 (by decide +kernel) l0) (by rw [sizeLine_eq]; decide)
    refine ⟨_, rfl, ?_, ?_⟩
    · exact Nat.le_trans (len_two _ _ 9 18 (len_two _ _ 5 4 (by decide +kernel) l0) (by decide +kernel)) (by rw [sizeLine_eq]; decide)
    refine ⟨_, _, _, rfl, (by show 1 ≤ 1000; decide), T.ox, ha, ?_⟩
    refine ⟨_, rfl, _, rfl, _, _, rfl, T.ox, T.no, .inl ⟨ha, q⟩⟩

/-- what stands behind the argument of raise BadLine(n) -/
theorem bad_go {B : Addr} {H : Hp} {n : Nat} {Q : XK} (hn : n < 1000) (h : ∀ d, H d = none → Q (.ref B) (some d) (upd H d (.xd [("number", .int n)]))) :
    [V.int n].length ≤ 1000 ∧ ∀ a, H a = none → spBadInit B (.ref a :: ([V.int n] ++ [])) (upd H a (exo a B none))
      (fun v H2 => v = .non ∧ ∃ (d : Addr) (fs : List (Str × V)), H2 a = some (exo a B (some d)) ∧ H2 d = some (exd d fs) ∧ H d = none ∧ Q (.ref B) (some d) (upd (del H2 a) d (.xd fs))) (fun _ _ _ => False) := by
  refine ⟨(by show 1 ≤ 1000; decide), fun a ha => ⟨a, n, rfl, hn, upd_same, fun dx hdx ne => ⟨rfl, dx, [("number", .int n)], upd_same, ?_, ?_, ?_⟩⟩⟩
  · rw [upd_ne ne]
    exact upd_same
  · rw [upd_ne ne] at hdx
    exact hdx
  · have e : upd (del (upd (upd (upd H a (exo a B none)) dx (exd dx [("number", .int n)])) a (exo a B (some dx))) a) dx (.xd [("number", .int n)]) = upd H dx (.xd [("number", .int n)]) := by
      funext b
      by_cases hb : b = dx
      · rw [hb, upd_same, upd_same]
      · rw [upd_ne hb, upd_ne hb]
        by_cases hba : b = a
        · rw [hba, del_same, ha]
        · rw [del_ne hba, upd_ne hba, upd_ne hb, upd_ne hba]
    rw [e]
    rw [upd_ne ne] at hdx
    exact h dx hdx
end
section
variable {X : Cx} {B fB : Addr} {fdB : FuncData} {e : Expr} {ta : TA} {W : WX} {k : Nat} {p pos pos2 : Pos}
/-- raise BadLine(e) -/
theorem ps_bad (hc : X.calm = true) (T : BadTxt X.K X.mg B fB fdB) (hr : Room (1 + 1) X.A) (tk : Takes X W) (ha : PA X [e] ta) (hg : Gl X "BadLine" := by rfl)
    (hs : starEach (e :: []) X.env = (false, eval e X.env) :: starEach [] X.env := by rfl) (hpl : (backTo pos (starEach [] X.env)).any (·.1) = false := by rfl) :
    PS X (.Raise (some (.Call (.Name "BadLine" p) [e] [] pos)) none pos2) (fun _ σ H => tMkO B (spBadInit B) [] ta σ H fun cls d H' => W cls d σ H') :=
  ps_raise hc tk (pmk_oex (CX := CX0) (k := 1) T.ox T.iC T.tI (ok_badInit T) hr T.bB .nil pass0 hg T.mB ha (by decide) hs hpl)
/-- what a callee lets out, the def that calls lets out -/
theorem passE {E : XK} (tk : Takes X (fun cls d _ H => E cls d H)) : Passes (L2.CX X.prog X.w) X E := fun pins σ H s e s' I c => passAt tk σ pins H s e s' I c
end
end KV

namespace KV
open PySem PySem.Spec PyProof.Rows L2 RZ
/-! ### class Words -/
abbrev sWInit : Stmt := inClass (topS 70) 0
abbrev sNext : Stmt := inClass (topS 70) 2
abbrev sRest : Stmt := inClass (topS 70) 3
abbrev sExpect : Stmt := inClass (topS 70) 4
abbrev sNextNum : Stmt := inClass (topS 70) 10
abbrev sNumIn : Stmt := inClass (topS 70) 12
def fldsW (n : Nat) (l : Addr) (i : Nat) : List (Str × V) := [("number", .int n), ("row", .ref l), ("at", .int i)]
theorem fW_init (n : Nat) (l : Addr) : putF "at" (.int (0 : Nat)) (putF "row" (.ref l) (putF "number" (.int n) [])) = fldsW n l 0 := by rfl
theorem fW_at (n : Nat) (l : Addr) (i j : Nat) : putF "at" (.int j) (fldsW n l i) = fldsW n l j := by rfl
theorem fW_1 (n : Nat) (l : Addr) (i : Nat) : (fldsW n l i).lookup ("number" : Str) = some (.int n) := by rfl
theorem fW_2 (n : Nat) (l : Addr) (i : Nat) : (fldsW n l i).lookup ("row" : Str) = some (.ref l) := by rfl
theorem fW_3 (n : Nat) (l : Addr) (i : Nat) : (fldsW n l i).lookup ("at" : Str) = some (.int i) := by rfl
theorem fW_n1 (n : Nat) (l : Addr) (i : Nat) : (fldsW n l i).lookup ("next_word" : Str) = none := by rfl
theorem fW_n2 (n : Nat) (l : Addr) (i : Nat) : (fldsW n l i).lookup ("expect" : Str) = none := by rfl
theorem fW_n3 (n : Nat) (l : Addr) (i : Nat) : (fldsW n l i).lookup ("rest" : Str) = none := by rfl
theorem fW_n4 (n : Nat) (l : Addr) (i : Nat) : (fldsW n l i).lookup ("next_number" : Str) = none := by rfl
theorem fW_n5 (n : Nat) (l : Addr) (i : Nat) : (fldsW n l i).lookup ("number_in" : Str) = none := by rfl
/-- a Words at p: its number, its words, its place -/
def WordsAt (C : Addr) (H : Hp) (p : Addr) (n : Nat) (ws : List Str) (i : Nat) : Prop := ∃ dx l : Addr, H p = some (.ins C dx (fldsW n l i)) ∧ H l = some (.lst (ws.map V.str))
theorem WordsAt.same {C : Addr} {H H' : Hp} {p : Addr} {n i : Nat} {ws : List Str} (h : WordsAt C H p n ws i) (s : Same H H') : WordsAt C H' p n ws i := by
  obtain ⟨dx, l, h1, h2⟩ := h
  exact ⟨dx, l, s _ _ h1, s _ _ h2⟩
structure TxtW (K : PySem.W.Frag) (mg : Str → Option Value) (C : Addr) : Prop where
  cl : Cls K C
  n1 : NoAttr K C "number"
  n2 : NoAttr K C "row"
  n3 : NoAttr K C "at"
  mgC : mg "Words" = some (.ref C)
/-- BadLine(n) goes out -/
def Bads (B p : Addr) (n : Nat) (H : Hp) (E : XK) : Prop := ∀ (d : Addr) (H' : Hp), SameX [p] H H' → H d = none → H' d = some (.xd [("number", .int n)]) → E (.ref B) (some d) H'
theorem Bads.go {B p : Addr} {n : Nat} {H H1 : Hp} {E : XK} (h : Bads B p n H E) (s : SameX [p] H H1) (np : H1 p ≠ none) : ∀ d, H1 d = none → E (.ref B) (some d) (upd H1 d (.xd [("number", .int n)])) := fun d hd =>
  h d _ (s.trans fun b o hb e => by rw [upd_ne (ne_of_none e hd)]; exact e)
    (by
      cases e : H d with
      | none => rfl
      | some o =>
        by_cases hp : d = p
        · rw [hp] at hd
          exact absurd hd np
        · have z := s d o (by simpa using hp) e
          rw [hd] at z
          cases z) upd_same
theorem WordsAt.np {C : Addr} {H : Hp} {p : Addr} {n i : Nat} {ws : List Str} (h : WordsAt C H p n ws i) : H p ≠ none := by
  obtain ⟨dx, l, h1, h2⟩ := h
  rw [h1]
  intro z
  cases z
theorem WordsAt.ne {C : Addr} {H : Hp} {p dx l : Addr} {n i : Nat} {ws : List Str} (h1 : H p = some (.ins C dx (fldsW n l i))) (h2 : H l = some (.lst (ws.map V.str))) : l ≠ p := ne_of h2 h1 (by intro z; cases z)
section
variable {P : Program} {w : World} {K : PySem.W.Frag} {mg : Str → Option Value} {base : Heap}
def spWInit (C : Addr) : Sp := fun vs H Q _ => ∃ (p dx : Addr) (n : Nat) (a : Str), vs = [.ref p, .int n, .str a] ∧ a.length + 2 ≤ sizeLine ∧ H p = some (.ins C dx []) ∧ ∀ H', WordsAt C H' p n (Txt.split a " ") 0 → (∀ b o, H b = some o → b ≠ p → H' b = some o) → Q .non H'
theorem scWInit : FnScope ["self", "number", "text"] ["self", "number", "text"] (defScope sWInit) := ⟨rfl, rfl, rfl, by decide +kernel, rfl, by decide +kernel, by decide +kernel⟩
theorem ok_wInit {f C : Addr} {fd : FuncData} (F : Fun K "__init__" "Words.__init__" sWInit f fd) (T : TxtW K mg C) : FnOk P w K mg base CX0 1 f fd ["self", "number", "text"] (spWInit C) := by
  refine F.ok scWInit (fun vs H Q E h => ?_) (fun cdv A outer s H vs Q E hr h => ?_)
  · obtain ⟨p, dx, n, a, rfl, _⟩ := h
    rfl
  · obtain ⟨p, dx, n, a, rfl, la, hp, k⟩ := h
    refine ⟨_, pss_cons (ps_fld (pv 0) (pv 1) rfl) (pss_cons (ps_fld (pv 0) (pe_split (pv 2) pe_str) rfl) (pss_one (ps_fld (pv 0) pe_int rfl))), ?_⟩
    refine ⟨_, rfl, _, rfl, p, C, dx, [], rfl, hp, T.cl, T.n1, (by show 0 < 1000; decide), ?_⟩
    refine ⟨_, rfl, ⟨a, rfl⟩, a, _, rfl, rfl, (by decide +kernel), la, fun l hl => ?_⟩
    have npl : p ≠ l := ne_of_none upd_same hl
    have hl0 : H l = none := by
      rw [upd_ne npl.symm] at hl
      exact hl
    refine ⟨_, rfl, p, C, dx, _, rfl, (by rw [upd_ne npl]; exact upd_same), T.cl, T.n2, (by show 1 < 1000; decide), ?_⟩
    refine ⟨_, rfl, p, C, dx, _, rfl, upd_same, T.cl, T.n3, (by show 2 < 1000; decide), ?_⟩
    refine k _ ⟨dx, l, (by rw [upd_same]; exact congrArg (fun z => some (HO.ins C dx z)) (fW_init n l)), ?_⟩ fun b o e hb => ?_
    · rw [upd_ne npl.symm, upd_ne npl.symm]
      exact upd_same
    · rw [upd_ne hb, upd_ne hb, upd_ne (ne_of_none e hl0), upd_ne hb]
      exact e
def spNext (C B : Addr) : Sp := fun vs H Q E => ∃ (p : Addr) (n : Nat) (ws : List Str) (i : Nat), vs = [.ref p] ∧ n < 1000 ∧ WordsAt C H p n ws i ∧ ws.length ≤ sizeLine ∧ i ≤ ws.length ∧
  (i = ws.length → Bads B p n H E) ∧ ∀ x H', ws[i]? = some x → WordsAt C H' p n ws (i + 1) → SameX [p] H H' → Q (.str x) H'
theorem scNext : FnScope ["self"] ["self"] (defScope sNext) := ⟨rfl, rfl, rfl, by decide +kernel, rfl, by decide +kernel, by decide +kernel⟩
theorem ok_next {f C B fB : Addr} {fd fdB : FuncData} (F : Fun K "next_word" "Words.next_word" sNext f fd) (T : TxtW K mg C) (TB : BadTxt K mg B fB fdB) (ml : mg "len" = none) : FnOk P w K mg base (L2.CX P w) 3 f fd ["self"] (spNext C B) := by
  refine F.okX scNext (fun vs H Q E h => ?_) (fun cdv A outer s H vs Q E hr h => ?_)
  · obtain ⟨p, n, ws, i, rfl, _⟩ := h
    rfl
  · obtain ⟨p, n, ws, i, rfl, hn, hW, hlw, hi, kB, k⟩ := h
    refine ⟨_, pss_cons (ps_if (pt_cmpR op_eq (pe_fld (pv 0) rfl) (pe_callB call_len_seq (by rfl) ml PySem.boot_len (pa_cons (pe_fld (pv 0) rfl) pa_nil)) (nomark _)) (pss_one (ps_bad rfl TB hr (takes_of rfl rfl rfl rfl) (pa_cons (pe_fld (pv 0) rfl) pa_nil))) pss_nil)
      (pss_cons (ps_fldaug (pv 0) pe_int in_add) (pss_one (ps_ret (pe_ix ix_seq (pe_fld (pv 0) rfl) (pe_op op_sub (pe_fld (pv 0) rfl) pe_int) (fun _ _ => rfl))))), ?_⟩
    obtain ⟨dx, l, hp, hl⟩ := hW
    refine ⟨_, rfl, p, C, dx, _, _, rfl, hp, T.cl, T.n3, fW_3 n l i, ?_⟩
    refine ⟨_, rfl, p, C, dx, _, _, rfl, hp, T.cl, T.n2, fW_2 n l i, ?_⟩
    refine ⟨l, ws.map V.str, rfl, .inl (SqL.of hl), rfl, _, rfl, ite2 (fun e => ?_) (fun e => ?_)⟩
    · have e1 : i = ws.length := by
        have z := of_decide_eq_true e
        rw [List.length_map] at z
        have z2 := V.int.inj z
        omega
      refine ⟨_, rfl, p, C, dx, _, _, rfl, hp, T.cl, T.n1, fW_1 n l i, ?_⟩
      exact bad_go hn ((kB e1).go (SameX.refl _ _) (by rw [hp]; intro z; cases z))
    · have e1 : i < ws.length := by
        refine Nat.lt_of_le_of_ne hi fun z => e ?_
        rw [List.length_map, z]
        exact decide_eq_true rfl
      have nl := WordsAt.ne hp hl
      refine ⟨_, rfl, p, C, dx, _, _, rfl, hp, T.cl, T.n3, fW_3 n l i, ?_⟩
      refine ⟨_, _, rfl, rfl, _, _, hp, (by show 3 < 1000; decide), ?_⟩
      have hp2 : upd H p (.ins C dx (putF "at" (.int ((i : Int) + 1)) (fldsW n l i))) p = some (.ins C dx (fldsW n l (i + 1))) := by
        rw [upd_same]
        exact congrArg (fun z => some (HO.ins C dx z)) (fW_at n l i (i + 1))
      generalize hH : upd H p (.ins C dx (putF "at" (.int ((i : Int) + 1)) (fldsW n l i))) = H2 at hp2 ⊢
      have hl2 : H2 l = some (.lst (ws.map V.str)) := by
        rw [← hH, upd_ne nl]
        exact hl
      refine ⟨_, rfl, p, C, dx, _, _, rfl, hp2, T.cl, T.n2, fW_2 n l (i + 1), ?_⟩
      refine ⟨_, rfl, p, C, dx, _, _, rfl, hp2, T.cl, T.n3, fW_3 n l (i + 1), ?_⟩
      refine ⟨_, _, rfl, rfl, .inl ⟨l, ws.map V.str, (i : Int), .str ws[i], rfl, ?_, SqL.of hl2, ?_, ?_⟩⟩
      · exact congrArg V.int (by omega)
      · exact atI_nat (by rw [List.getElem?_map, List.getElem?_eq_getElem e1]; rfl)
      · refine k ws[i] H2 (List.getElem?_eq_getElem e1) ⟨dx, l, hp2, hl2⟩ ?_
        rw [← hH]
        exact sameX_upd (by simp)
def spExpect (C B : Addr) : Sp := fun vs H Q E => ∃ (p : Addr) (n : Nat) (ws : List Str) (i : Nat) (b : Bool), vs = [.ref p, .bl b] ∧ n < 1000 ∧ WordsAt C H p n ws i ∧ (b = false → Bads B p n H E) ∧ (b = true → Q .non H)
theorem scExpect : FnScope ["self", "fits"] ["self", "fits"] (defScope sExpect) := ⟨rfl, rfl, rfl, by decide +kernel, rfl, by decide +kernel, by decide +kernel⟩
theorem ok_expect {f C B fB : Addr} {fd fdB : FuncData} (F : Fun K "expect" "Words.expect" sExpect f fd) (T : TxtW K mg C) (TB : BadTxt K mg B fB fdB) : FnOk P w K mg base (L2.CX P w) 3 f fd ["self", "fits"] (spExpect C B) := by
  refine F.okX scExpect (fun vs H Q E h => ?_) (fun cdv A outer s H vs Q E hr h => ?_)
  · obtain ⟨p, n, ws, i, b, rfl, _⟩ := h
    rfl
  · obtain ⟨p, n, ws, i, b, rfl, hn, ⟨dx, l, hp, hl⟩, kB, k⟩ := h
    refine ⟨_, pss_one (ps_if (pt_not (pt_val (pv 1))) (pss_one (ps_bad rfl TB hr (takes_of rfl rfl rfl rfl) (pa_cons (pe_fld (pv 0) rfl) pa_nil))) pss_nil), ?_⟩
    refine ⟨_, rfl, _, rfl, ?_⟩
    cases b with
    | true => exact k rfl
    | false =>
      refine ⟨_, rfl, p, C, dx, _, _, rfl, hp, T.cl, T.n1, fW_1 n l i, ?_⟩
      exact bad_go hn ((kB rfl).go (SameX.refl _ _) (by rw [hp]; intro z; cases z))
theorem cutV_from (ws : List Str) (i : Nat) : cutV (ws.map V.str) (some (i : Int)) none = (ws.drop i).map V.str := by
  unfold cutV
  rw [HT.sIx_none, HT.sIx_nat, List.length_map, ← List.map_drop, ← List.map_take]
  congr 1
  rw [List.take_of_length_le (by simp)]
  by_cases h : i ≤ ws.length
  · rw [Nat.min_eq_left h]
  · rw [Nat.min_eq_right (by omega), List.drop_of_length_le (Nat.le_refl _), List.drop_of_length_le (by omega)]
def spRest (C : Addr) : Sp := fun vs H Q _ => ∃ (p : Addr) (n : Nat) (ws : List Str) (i : Nat), vs = [.ref p] ∧ WordsAt C H p n ws i ∧ i ≤ ws.length ∧
  ∀ (r : Addr) H', WordsAt C H' p n ws ws.length → SameX [p] H H' → H r = none → H' r = some (.lst ((ws.drop i).map V.str)) → Q (.ref r) H'
theorem scRest : FnScope ["self", "words"] ["self"] (defScope sRest) := ⟨rfl, rfl, rfl, by decide +kernel, rfl, by decide +kernel, by decide +kernel⟩
theorem ok_rest {f C : Addr} {fd : FuncData} (F : Fun K "rest" "Words.rest" sRest f fd) (T : TxtW K mg C) (ml : mg "len" = none) : FnOk P w K mg base CX0 1 f fd ["self"] (spRest C) := by
  refine F.ok scRest (fun vs H Q E h => ?_) (fun cdv A outer s H vs Q E hr h => ?_)
  · obtain ⟨p, n, ws, i, rfl, _⟩ := h
    rfl
  · obtain ⟨p, n, ws, i, rfl, ⟨dx, l, hp, hl⟩, hi, k⟩ := h
    refine ⟨_, pss_cons (ps_set (i := 1) scRest.nd rfl (.inl rfl) (pe_slice sl_list (pe_fld (pv 0) rfl) (po_some (pe_fld (pv 0) rfl)) po_none))
      (pss_cons (ps_fld (pv 0) (pe_callB call_len_seq (by rfl) ml PySem.boot_len (pa_cons (pe_fld (pv 0) rfl) pa_nil)) rfl) (pss_one (ps_ret (pv 1)))), ?_⟩
    refine ⟨_, rfl, p, C, dx, _, _, rfl, hp, T.cl, T.n2, fW_2 n l i, ?_⟩
    refine ⟨_, rfl, p, C, dx, _, _, rfl, hp, T.cl, T.n3, fW_3 n l i, ?_⟩
    refine ⟨_, rfl, l, _, rfl, SqL.of hl, fun r hr0 => ?_⟩
    rw [cutV_from]
    have npr : p ≠ r := ne_of_none hp hr0
    have nlr : l ≠ r := ne_of_none hl hr0
    have hp2 : upd H r (.lst ((ws.drop i).map V.str)) p = some (.ins C dx (fldsW n l i)) := by
      rw [upd_ne npr]
      exact hp
    have hl2 : upd H r (.lst ((ws.drop i).map V.str)) l = some (.lst (ws.map V.str)) := by
      rw [upd_ne nlr]
      exact hl
    have nl := WordsAt.ne hp hl
    refine ⟨_, rfl, p, C, dx, _, _, rfl, hp2, T.cl, T.n2, fW_2 n l i, ?_⟩
    refine ⟨l, ws.map V.str, rfl, .inl (SqL.of hl2), ?_⟩
    refine ⟨_, rfl, p, C, dx, _, rfl, hp2, T.cl, T.n3, (by show 3 < 1000; decide), ?_⟩
    refine ⟨_, rfl, ?_⟩
    rw [List.length_map]
    refine k r _ ⟨dx, l, ?_, ?_⟩ (fun b o hb e => ?_) hr0 ?_
    · rw [upd_same]
      exact congrArg (fun z => some (HO.ins C dx z)) (fW_at n l i ws.length)
    · rw [upd_ne nl]
      exact hl2
    · rw [upd_ne (by simpa using hb), upd_ne (ne_of_none e hr0)]
      exact e
    · rw [upd_ne npr.symm]
      exact upd_same
end
end KV

namespace KV
open PySem PySem.Spec PyProof.Rows L2 RZ
/-! ### numbers -/
def isDig (c : Nat) : Bool := decide (48 ≤ c) && decide (c ≤ 57)
def digs : List Nat := (Str.ofString "0123456789").cps.toList
theorem digs_all : (List.range 58).all (fun c => decide (c ∈ digs) == isDig c) = true := by decide +kernel
theorem digs_top : digs.all (fun c => decide (c < 58)) = true := by decide +kernel
theorem mem_digs (c : Nat) : decide (c ∈ digs) = isDig c := by
  by_cases h : c < 58
  · exact eq_of_beq (List.all_eq_true.mp digs_all c (List.mem_range.mpr h))
  · have h1 : c ∉ digs := fun z => h (of_decide_eq_true (List.all_eq_true.mp digs_top c z))
    rw [decide_eq_false h1]
    unfold isDig
    rw [decide_eq_false (show ¬ c ≤ 57 by omega), Bool.and_false]
/-- one to twelve digits -/
def digsOk (x : Str) : Bool := decide (0 < x.length) && decide (x.length ≤ 12) && x.cps.toList.all isDig
/-- no nought ahead -/
def leadOk (x : Str) : Bool := decide (V.str x = V.str "0") || !decide (x.cps.toList.head? = some 48)
def numV (x : Str) : Nat := NumText.digitsVal x.cps.toList
/-- the number, not below m, that a text writes -/
def numIn (x : Str) (m : Nat) : Option Nat := if digsOk x && leadOk x && decide (m ≤ numV x) then some (numV x) else none
theorem int_digs {x : Str} (h : digsOk x = true) : intText? x = some ((numV x : Nat) : Int) := by
  unfold digsOk at h
  rw [Bool.and_eq_true, Bool.and_eq_true, decide_eq_true_eq, decide_eq_true_eq] at h
  refine intText_digits (fun c hc => ?_) (fun e => ?_) (by omega)
  · have z := List.all_eq_true.mp h.2 c hc
    unfold isDig at z
    rw [Bool.and_eq_true, decide_eq_true_eq, decide_eq_true_eq] at z
    exact z
  · have z : x.cps.toList.length = x.length := Array.length_toList
    rw [e] at z
    have := h.1.1
    simp at z
    omega
theorem Bads.at {B p : Addr} {n : Nat} {H H1 : Hp} {E : XK} (h : Bads B p n H E) (s : SameX [p] H H1) (np : H1 p ≠ none) : Bads B p n H1 E := fun d H' s2 hd hx =>
  h d H' (s.trans s2)
    (by
      cases e : H d with
      | none => rfl
      | some o =>
        by_cases hp : d = p
        · rw [hp] at hd
          exact absurd hd np
        · have z := s d o (by simpa using hp) e
          rw [hd] at z
          cases z) hx
theorem seq_gen {A u : TS} {D : Ends} {σ : L2.St} {H : Hp} (P : L2.St → Hp → Prop) (h1 : ∀ N : L2.St → Hp → Prop, (∀ σ' H', P σ' H' → N σ' H') → A { D with nx := N } σ H) (h2 : ∀ σ' H', P σ' H' → u D σ' H') : tSeq A u D σ H := h1 _ h2
section
variable {P : Program} {w : World} {K : PySem.W.Frag} {mg : Str → Option Value} {base : Heap}
def spNumIn (C B : Addr) : Sp := fun vs H Q E => ∃ (p : Addr) (n : Nat) (ws : List Str) (i : Nat) (x : Str) (m : Nat), vs = [.ref p, .str x, .int m] ∧ n < 1000 ∧ WordsAt C H p n ws i ∧ x.length ≤ 100000 ∧
  (numIn x m = none → Bads B p n H E) ∧ ∀ k H', numIn x m = some k → Same H H' → Q (.int k) H'
abbrev nNumIn : List Str := ["self", "digits", "least", "digit"]
theorem scNumIn : FnScope nNumIn ["self", "digits", "least"] (defScope sNumIn) := ⟨rfl, rfl, rfl, by decide +kernel, rfl, by decide +kernel, by decide +kernel⟩
theorem ok_numIn {f C B fB fE : Addr} {fd fdB fdE : FuncData} {tk : Tok} (F : Fun K "number_in" "Words.number_in" sNumIn f fd) (T : TxtW K mg C) (TB : BadTxt K mg B fB fdB)
    (FE : Fun K "expect" "Words.expect" sExpect fE fdE) (bE : Binds K fdE ["self", "fits"] []) (hE : Meth K C "expect" fE)
    (ml : mg "len" = none) (ma : mg "all" = none) (mi : mg "int" = none) (mD : mg "DIGITS" = some (.str "0123456789" tk)) (mM : ∃ u, mg "MOST_DIGITS" = some (.int 12 u)) :
    FnOk P w K mg base (L2.CX P w) 4 f fd ["self", "digits", "least"] (spNumIn C B) := by
  have GE : FnOk P w K mg base (L2.CX P w) 3 fE fdE ["self", "fits"] (spExpect C B) := ok_expect FE T TB
  obtain ⟨u, mM⟩ := mM
  refine F.okX scNumIn (fun vs H Q E h => ?_) (fun cdv A outer s H vs Q E hr h => ?_)
  · obtain ⟨p, n, ws, i, x, m, rfl, _⟩ := h
    rfl
  · obtain ⟨p, n, ws, i, x, m, rfl, hn, hW, lx, kB, k⟩ := h
    have tk0 := takes_of (X := cxOf (L2.CX P w) P w K mg base nNumIn "Words.number_in" (defScope sNumIn) f cdv A outer s H E) (E := E) rfl rfl rfl rfl
    refine ⟨_, pss_cons (ps_expr (pe_meth (pv 0) T.cl hE GE hr bE .nil (passE tk0) (pa_cons
        (pe_and (pe_chain op_lt op_le pe_int (pe_callB call_len_str (by rfl) ml PySem.boot_len (pa_cons (pv 1) pa_nil)) (pe_glob (v := .int 12) (by rfl) mM ⟨_, rfl⟩))
          (pe_one (pe_callB (cr_all rfl) (by rfl) ma boot_all (pa_cons
            (pe_lc (own := [("digit", 3)]) (g := gName 3) (tt := tYes) rfl scNumIn.nd (pi_str (pv 1)) (blkOk_by (N := nNumIn) (sc := defScope sNumIn) (by decide +kernel))
              (fun _ _ _ _ _ => pg_name (i := 3) scNumIn.nd rfl (Or.inl rfl)) (fun _ _ _ _ _ => pts_nil) (fun _ _ _ _ _ => pe_cmpR op_inS (pv 3) (pe_glob (v := .str "0123456789") (by rfl) mD ⟨_, rfl⟩) (by rfl))) pa_nil)))) pa_nil)))
      (pss_cons (ps_expr (pe_meth (pv 0) T.cl hE GE hr bE .nil (passE tk0) (pa_cons
        (pe_or (pe_cmpR op_eq (pv 1) pe_str (nomark _)) (pe_one (pe_cmpR op_ne (pe_ix ix_seq (pv 1) pe_int (fun _ _ => rfl)) pe_str (nomark _)))) pa_nil)))
      (pss_cons (ps_expr (pe_meth (pv 0) T.cl hE GE hr bE .nil (passE tk0) (pa_cons
        (pe_cmpR op_ge (pe_callTy call_int_str (by rfl) mi PyProof.Rows.boot_int (pa_cons (pv 1) pa_nil)) (pv 2) (nomark _)) pa_nil)))
      (pss_one (ps_ret (pe_callTy call_int_str (by rfl) mi PyProof.Rows.boot_int (pa_cons (pv 1) pa_nil)))))), ?_⟩
    have hW0 := hW
    obtain ⟨dx, l, hp, hl⟩ := hW
    have hno : ∀ {H1 : Hp}, Same H H1 → H1 p ≠ none := fun {H1} s1 z => by
      rw [s1 _ _ hp] at z
      cases z
    refine seq_gen (P := fun σ' H1 => σ' = [some (.ref p), some (.str x), some (.int m), none] ∧ Same H H1 ∧ digsOk x = true) (fun N hN => ?_) ?_
    · have fin : ∀ (b : Bool) (H1 : Hp), Same H H1 → digsOk x = b → spExpect C B [.ref p, .bl b] H1 (fun _ H2 => N [some (.ref p), some (.str x), some (.int m), none] H2) E := fun b H1 s1 eb =>
        ⟨p, n, ws, i, b, rfl, hn, hW0.same s1, fun e => (kB (by unfold numIn; rw [eb, e]; rfl)).at (SameX.of s1) (hno s1), fun e => hN _ _ ⟨rfl, s1, eb.trans e⟩⟩
      have e12 : (12 : Int) = ((12 : Nat) : Int) := rfl
      refine ⟨_, rfl, p, dx, _, rfl, hp, fW_n2 n l i, ?_⟩
      refine ⟨_, rfl, x, rfl, Nat.le_trans lx (by rw [sizeLine_eq]; decide), _, _, rfl, rfl, _, rfl, ite2 (fun e1 => ?_) (fun e1 => ?_)⟩
      · have z1 : 0 < x.length := by
          have := of_decide_eq_true e1
          omega
        refine ⟨_, _, rfl, rfl, _, rfl, ite2 (fun e2 => ?_) (fun e2 => ?_)⟩
        · have z2 : x.length ≤ 12 := by
            have := of_decide_eq_true e2
            omega
          refine ⟨_, rfl, x, rfl, fun D nD => lc_it (walk_str (z := x)) (fun j H3 => SameX [D] H H3 ∧ H3 D = some (.lst (((x.cps.toList.take j).map isDig).map V.bl))) ⟨sameX_upd List.mem_cons_self, upd_same⟩ (fun _ _ _ _ => trivial) ?_ ?_⟩
          · rintro j v H3 H3' hj ⟨s3, hD⟩ ⟨rfl, c, hc, rfl⟩
            have hc2 : x.cps.toList[j]? = some c := by
              rw [← hc]
              exact Array.getElem?_toList
            refine ⟨rfl, tYes_ok ⟨_, rfl, c, _, rfl, rfl, _, hD, small1000 ?_, s3.trans (sameX_upd List.mem_cons_self), ?_⟩⟩
            · rw [List.length_map, List.length_map, List.length_take, sgn_len]
              omega
            · rw [upd_same, take_snoc hc2, List.map_append, List.map_append]
              show some (HO.lst (_ ++ [V.bl (decide (c ∈ (Str.ofString "0123456789").cps.toList))])) = _
              rw [show decide (c ∈ (Str.ofString "0123456789").cps.toList) = isDig c from mem_digs c]
              rfl
          · rintro H3 ⟨s3, hD⟩
            have eT : x.cps.toList.take x.cps.size = x.cps.toList := List.take_of_length_le (by rw [Array.length_toList]; exact Nat.le_refl _)
            rw [eT] at hD
            refine ⟨D, _, rfl, SqL.of hD, ?_⟩
            refine fin _ H3 (fun c o e => s3 c o (fun y => ne_of_none e nD (List.mem_singleton.mp y)) e) ?_
            unfold digsOk
            rw [decide_eq_true z1, decide_eq_true z2, List.all_map]
            rfl
        · refine fin false H (fun _ _ z => z) ?_
          unfold digsOk
          rw [decide_eq_false (show ¬ x.length ≤ 12 from fun z => e2 (decide_eq_true (by omega))), Bool.and_false, Bool.false_and]
      · refine ⟨_, rfl, iteF (fin false H (fun _ _ z => z) ?_)⟩
        unfold digsOk
        rw [decide_eq_false (show ¬ 0 < x.length from fun z => e1 (decide_eq_true (by omega)))]
        rfl
    rintro _ H1 ⟨rfl, s1, hd⟩
    have hp1 := s1 _ _ hp
    have lx2 : x.length ≤ sizeLine := Nat.le_trans lx (by rw [sizeLine_eq]; decide)
    refine seq_gen (P := fun σ' H1 => σ' = [some (.ref p), some (.str x), some (.int m), none] ∧ Same H H1 ∧ leadOk x = true) (fun N hN => ?_) ?_
    · have fin : ∀ (b : Bool), leadOk x = b → spExpect C B [.ref p, .bl b] H1 (fun _ H2 => N [some (.ref p), some (.str x), some (.int m), none] H2) E := fun b eb =>
        ⟨p, n, ws, i, b, rfl, hn, hW0.same s1, fun e => (kB (by unfold numIn; rw [eb, e, Bool.and_false, Bool.false_and]; rfl)).at (SameX.of s1) (hno s1), fun e => hN _ _ ⟨rfl, s1, eb.trans e⟩⟩
      refine ⟨_, rfl, p, dx, _, rfl, hp1, fW_n2 n l i, ?_⟩
      refine ⟨_, rfl, rfl, _, rfl, ite2 (fun e1 => ?_) (fun e1 => ?_)⟩
      · refine fin true ?_
        unfold leadOk
        rw [e1]
        rfl
      · have z1 : 0 < x.length := by
          unfold digsOk at hd
          rw [Bool.and_eq_true, Bool.and_eq_true, decide_eq_true_eq] at hd
          exact hd.1.1
        obtain ⟨c, hc⟩ : ∃ c, x.cps.toList[0]? = some c := ⟨x.cps.toList[0]'(by rw [Array.length_toList]; exact z1), List.getElem?_eq_getElem _⟩
        refine ⟨_, rfl, .inr (.inr ⟨x, 0, c, rfl, rfl, lx2, atI_nat (j := 0) hc, rfl, ?_⟩)⟩
        refine fin _ ?_
        unfold leadOk
        have e1' : decide (V.str x = V.str (Str.ofString "0")) = false := by simpa using e1
        rw [e1', List.head?_eq_getElem?, hc, Bool.false_or]
        refine congrArg (fun b => !b) ?_
        rw [Bool.eq_iff_iff, decide_eq_true_eq, decide_eq_true_eq]
        exact ⟨fun z => by cases z; rfl, fun z => by cases z; rfl⟩
    rintro _ H2 ⟨rfl, s2, hlead⟩
    have hp2 := s2 _ _ hp
    have hv := int_digs hd
    have l640 : x.length ≤ 640 := by
      unfold digsOk at hd
      rw [Bool.and_eq_true, Bool.and_eq_true, decide_eq_true_eq, decide_eq_true_eq] at hd
      omega
    refine seq_gen (P := fun σ' H3 => σ' = [some (.ref p), some (.str x), some (.int m), none] ∧ Same H H3 ∧ decide (m ≤ numV x) = true) (fun N hN => ?_) ?_
    · refine ⟨_, rfl, p, dx, _, rfl, hp2, fW_n2 n l i, ?_⟩
      refine ⟨_, rfl, x, _, rfl, hv, l640, _, rfl, _, _, rfl, rfl, ?_⟩
      have eb : decide (((m : Nat) : Int) ≤ ((numV x : Nat) : Int)) = decide (m ≤ numV x) := by
        rw [Bool.eq_iff_iff, decide_eq_true_eq, decide_eq_true_eq]
        omega
      refine ⟨p, n, ws, i, decide (m ≤ numV x), congrArg (fun b => [V.ref p, V.bl b]) eb, hn, hW0.same s2, fun e => (kB (by unfold numIn; rw [e, Bool.and_false]; rfl)).at (SameX.of s2) (hno s2), fun e => hN _ _ ⟨rfl, s2, e⟩⟩
    rintro _ H3 ⟨rfl, s3, hm⟩
    refine ⟨_, rfl, x, _, rfl, hv, l640, ?_⟩
    exact k (numV x) H3 (by unfold numIn; rw [hd, hlead, hm]; rfl) s3
end
end KV

namespace KV
open PySem PySem.Spec PyProof.Rows L2 RZ
section
variable {P : Program} {w : World} {K : PySem.W.Frag} {mg : Str → Option Value} {base : Heap}
def spNextNum (C B : Addr) : Sp := fun vs H Q E => ∃ (p : Addr) (n : Nat) (ws : List Str) (i m : Nat), vs = [.ref p, .int m] ∧ n < 1000 ∧ WordsAt C H p n ws i ∧ ws.length ≤ sizeLine ∧ i ≤ ws.length ∧ (∀ x ∈ ws, x.length ≤ 100000) ∧
  ((ws[i]?.bind fun x => numIn x m) = none → Bads B p n H E) ∧ ∀ k H', (ws[i]?.bind fun x => numIn x m) = some k → WordsAt C H' p n ws (i + 1) → SameX [p] H H' → Q (.int k) H'
theorem scNextNum : FnScope ["self", "least"] ["self", "least"] (defScope sNextNum) := ⟨rfl, rfl, rfl, by decide +kernel, rfl, by decide +kernel, by decide +kernel⟩
theorem ok_nextNum {f C B fB fX fN : Addr} {fd fdB fdX fdN : FuncData} (F : Fun K "next_number" "Words.next_number" sNextNum f fd) (T : TxtW K mg C)
    (GX : FnOk P w K mg base (L2.CX P w) 3 fX fdX ["self"] (spNext C B)) (bX : Binds K fdX ["self"] []) (hX : Meth K C "next_word" fX)
    (GN : FnOk P w K mg base (L2.CX P w) 4 fN fdN ["self", "digits", "least"] (spNumIn C B)) (bN : Binds K fdN ["self", "digits", "least"] []) (hN : Meth K C "number_in" fN) :
    FnOk P w K mg base (L2.CX P w) 5 f fd ["self", "least"] (spNextNum C B) := by
  refine F.okX scNextNum (fun vs H Q E h => ?_) (fun cdv A outer s H vs Q E hr h => ?_)
  · obtain ⟨p, n, ws, i, m, rfl, _⟩ := h
    rfl
  · obtain ⟨p, n, ws, i, m, rfl, hn, hW, hlw, hi, hx, kB, k⟩ := h
    have tk0 := takes_of (X := cxOf (L2.CX P w) P w K mg base ["self", "least"] "Words.next_number" (defScope sNextNum) f cdv A outer s H E) (E := E) rfl rfl rfl rfl
    refine ⟨_, pss_one (ps_ret (pe_meth (pv 0) T.cl hN GN hr bN .nil (passE tk0) (pa_cons (pe_meth0 (pv 0) T.cl hX GX (hr.mono (by decide)) bX .nil (passE tk0)) (pa_cons (pv 1) pa_nil)))), ?_⟩
    have hW0 := hW
    obtain ⟨dx, l, hp, hl⟩ := hW
    refine ⟨_, rfl, p, dx, _, rfl, hp, fW_n5 n l i, ?_⟩
    refine ⟨_, rfl, p, dx, _, rfl, hp, fW_n1 n l i, ?_⟩
    refine ⟨p, n, ws, i, rfl, hn, hW0, hlw, hi, fun e => kB (by rw [List.getElem?_eq_none (by omega)]; rfl), fun x H1 ex hW1 s1 => ?_⟩
    refine ⟨_, rfl, p, n, ws, i + 1, x, m, rfl, hn, hW1, hx x (List.mem_of_getElem? ex), fun e => ?_, fun j H2 ej s2 => ?_⟩
    · exact (kB (by rw [ex]; exact e)).at s1 hW1.np
    · exact k j H2 (by rw [ex]; exact ej) (hW1.same s2) (s1.trans (SameX.of s2))
end
end KV

namespace KV
open PySem PySem.Spec PyProof.Rows L2 RZ
/-! ### setup_in: the reading of a row of words -/
abbrev sSetupIn : Stmt := topS 94
def dashD (w : Str) : PyData := if V.str w = V.str "-" then .none else .str w
def dashV (w : Str) : V := if V.str w = V.str "-" then .non else .str w
/-- the setup that the rest of the words writes, if "slots" stands at j -/
def mkS (a b : Nat) (rest : List Str) (j : Nat) : PyData := .tuple [.int a, .int b, .tuple ((rest.take j).map PyData.str), .tuple ((rest.drop (j + 1)).map dashD)]
def okAt (a b : Nat) (rest : List Str) (j : Nat) : Bool := (match rest[j]? with | some x => decide (V.str x = V.str "slots") | none => false) && isSetupD (mkS a b rest j)
def firstS (a b : Nat) (rest : List Str) : Option PyData := ((List.range rest.length).find? (okAt a b rest)).map (mkS a b rest)
def isW (s : Str) (o : Option Str) : Bool := match o with | some x => decide (V.str x = V.str s) | none => false
def readS (ws : List Str) : Option PyData :=
  if isW "ring" ws[0]? then
    match ws[1]?.bind (fun x => numIn x 1), ws[2]?.bind (fun x => numIn x 1) with
    | some a, some b => if isW "pipes" ws[3]? then firstS a b (ws.drop 4) else none
    | _, _ => none
  else none
theorem digitsVal_lt : ∀ (l : List Nat) (a n : Nat), (∀ c ∈ l, c ≤ 57) → a < 10 ^ n → l.foldl (fun acc c => acc * 10 + (c - 48)) a < 10 ^ (n + l.length)
  | [], a, n, _, h => by simpa using h
  | c :: l, a, n, hl, h => by
    have hc := hl c List.mem_cons_self
    have e : n + (c :: l).length = (n + 1) + l.length := by simp only [List.length_cons]; omega
    rw [e, List.foldl_cons]
    refine digitsVal_lt l _ (n + 1) (fun d hd => hl d (List.mem_cons_of_mem _ hd)) ?_
    rw [Nat.pow_succ]
    omega
theorem numIn_lt {x : Str} {m k : Nat} (h : numIn x m = some k) : k < 10 ^ 13 ∧ m ≤ k := by
  unfold numIn at h
  by_cases c : (digsOk x && leadOk x && decide (m ≤ numV x)) = true
  · rw [if_pos c] at h
    cases h
    rw [Bool.and_eq_true, Bool.and_eq_true, decide_eq_true_eq] at c
    refine ⟨?_, c.2⟩
    have hd := c.1.1
    unfold digsOk at hd
    rw [Bool.and_eq_true, Bool.and_eq_true, decide_eq_true_eq, decide_eq_true_eq] at hd
    have z := digitsVal_lt x.cps.toList 0 0 (fun c hc => by
      have := List.all_eq_true.mp hd.2 c hc
      unfold isDig at this
      rw [Bool.and_eq_true, decide_eq_true_eq, decide_eq_true_eq] at this
      exact this.2) (by decide)
    have l : x.cps.toList.length = x.length := Array.length_toList
    rw [l] at z
    exact Nat.lt_of_lt_of_le z (Nat.pow_le_pow_right (by decide) (by omega))
  · rw [if_neg c] at h
    cases h
/-- a word that may stand in a setup that is asked -/
def shortW (x : Str) : Bool := decide (x.length ≤ 60) && x.cps.toList.all fun c => decide (c < 1114112)
theorem mkS_good {a b : Nat} {rest : List Str} {j : Nat} (ha : a < 10 ^ 13) (hb : b < 10 ^ 13) (hl : rest.length ≤ 100) (hw : ∀ x ∈ rest, shortW x = true) : gD lf2 100 (mkS a b rest j) 2 = true := by
  have n1 : ∀ n : Nat, n < 10 ^ 13 → lf2 (.int n) = true := fun n h => by
    show decide ((n : Int).natAbs < 10 ^ 31) = true
    rw [decide_eq_true_eq]
    have : (n : Int).natAbs = n := rfl
    omega
  have l1 : (rest.take j).length ≤ 100 := by simp; omega
  have l2 : (rest.drop (j + 1)).length ≤ 100 := by simp; omega
  have w1 : ((rest.take j).map PyData.str).all (fun d => gD lf2 100 d 0) = true := by
    rw [List.all_map, List.all_eq_true]
    exact fun x hx => by
      have := hw x (List.mem_of_mem_take hx)
      simpa [gD, lf2, shortW] using this
  have w2 : ((rest.drop (j + 1)).map dashD).all (fun d => gD lf2 100 d 0) = true := by
    rw [List.all_map, List.all_eq_true]
    exact fun x hx => by
      have := hw x (List.mem_of_mem_drop hx)
      show gD lf2 100 (dashD x) 0 = true
      unfold dashD
      split
      · simp [gD]
      · simpa [gD, lf2, shortW] using this
  simp only [mkS, gD, gDs, gDs_all, List.length_map, List.length_cons, List.length_nil, n1 a ha, n1 b hb, w1, w2, decide_eq_true l1, decide_eq_true l2]
  rfl
theorem cutV_to (ws : List Str) (i : Nat) : cutV (ws.map V.str) none (some (i : Int)) = (ws.take i).map V.str := by
  unfold cutV
  rw [HT.sIx_none, HT.sIx_nat, List.length_map, ← List.map_drop, ← List.map_take]
  congr 1
  rw [List.drop_zero, Nat.sub_zero]
  by_cases h : i ≤ ws.length
  · rw [Nat.min_eq_left h]
  · rw [Nat.min_eq_right (by omega), List.take_of_length_le (Nat.le_refl _), List.take_of_length_le (by omega)]
theorem dps_dash {K : PySem.W.Frag} {H : Hp} : ∀ xs : List Str, DpAll K H (xs.map dashV) (xs.map dashD)
  | [] => .nil
  | x :: xs => by
    rw [List.map_cons, List.map_cons]
    refine .cons ?_ (dps_dash xs)
    unfold dashV dashD
    split
    · exact .non
    · exact .str _
theorem first_at {a b i : Nat} {R : List Str} (hi : i < R.length) (hno : ∀ j < i, okAt a b R j = false) (h : okAt a b R i = true) : firstS a b R = some (mkS a b R i) := by
  unfold firstS
  have e : (List.range R.length).find? (okAt a b R) = some i := by
    rw [List.find?_range_eq_some]
    exact ⟨h, List.mem_range.mpr hi, fun j hj => by rw [hno j hj]; rfl⟩
  rw [e]
  rfl
theorem first_none {a b : Nat} {R : List Str} (hno : ∀ j < R.length, okAt a b R j = false) : firstS a b R = none := by
  unfold firstS
  have e : (List.range R.length).find? (okAt a b R) = none := by
    rw [List.find?_eq_none]
    exact fun j hj => by rw [hno j (List.mem_range.mp hj)]; simp
  rw [e]
  rfl
theorem same_of {H H1 H2 : Hp} {p : Addr} (n : H p = none) (s1 : Same H H1) (s2 : SameX [p] H1 H2) : Same H H2 := fun b o e => s2 b o (fun z => by
  rw [List.mem_singleton.mp z, n] at e
  cases e) (s1 b o e)
section
variable {P : Program} {w : World} {K : PySem.W.Frag} {mg : Str → Option Value} {base : Heap}
def spSetupIn (K : PySem.W.Frag) (B : Addr) : Sp := fun vs H Q E => ∃ (a : Str), vs = [.str a] ∧ a.length ≤ 100000 ∧ (Txt.split a " ").length ≤ 100 ∧ (∀ x ∈ Txt.split a " ", shortW x = true) ∧
  (readS (Txt.split a " ") = none → ∀ (d : Addr) H', Same H H' → H d = none → H' d = some (.xd [("number", .int (0 : Nat))]) → E (.ref B) (some d) H') ∧
  ∀ s v H', readS (Txt.split a " ") = some s → Same H H' → Dp K H' v s → Q v H'
abbrev nSetupIn : List Str := ["text", "words", "space", "room", "rest", "at", "entries", "setup", "word"]
theorem scSetupIn : FnScope nSetupIn ["text"] (defScope sSetupIn) := ⟨rfl, rfl, rfl, by decide +kernel, rfl, by decide +kernel, by decide +kernel⟩
theorem ok_setupIn {f C B fB fI fX fE fR fM fS : Addr} {fd fdB fdI fdX fdE fdR fdM fdS : FuncData} {tk : Tok} (F : Fun K "setup_in" "setup_in" sSetupIn f fd) (T : TxtW K mg C) (TB : BadTxt K mg B fB fdB)
    (M : Mk K C fI) (GI : FnOk P w K mg base CX0 1 fI fdI ["self", "number", "text"] (spWInit C)) (bI : Binds K fdI ["self", "number", "text"] [])
    (GX : FnOk P w K mg base (L2.CX P w) 3 fX fdX ["self"] (spNext C B)) (bX : Binds K fdX ["self"] []) (hX : Meth K C "next_word" fX)
    (GE : FnOk P w K mg base (L2.CX P w) 3 fE fdE ["self", "fits"] (spExpect C B)) (bE : Binds K fdE ["self", "fits"] []) (hE : Meth K C "expect" fE)
    (GR : FnOk P w K mg base CX0 1 fR fdR ["self"] (spRest C)) (bR : Binds K fdR ["self"] []) (hR : Meth K C "rest" fR)
    (GM : FnOk P w K mg base (L2.CX P w) 5 fM fdM ["self", "least"] (spNextNum C B)) (bM : Binds K fdM ["self", "least"] []) (hM : Meth K C "next_number" fM)
    (GS : FnOk P w K mg base CX0 5 fS fdS ["thing"] (spIsSetup K)) (bS : Binds K fdS ["thing"] []) (mS : mg "is_setup" = some (.ref fS)) (kS : PySem.W.keepIn K (.ref fS) = true)
    (ml : mg "len" = none) (mr : mg "range" = none) (mt : mg "tuple" = none) (mN : mg "NOTHING" = some (.str "-" tk)) :
    FnOk P w K mg base (L2.CX P w) 6 f fd ["text"] (spSetupIn K B) := by
  refine F.okX scSetupIn (fun vs H Q E h => ?_) (fun cdv A outer s H vs Q E hr h => ?_)
  · obtain ⟨a, rfl, _⟩ := h
    rfl
  · obtain ⟨a, rfl, la, lw, hw, kB, k⟩ := h
    have tk0 := takes_of (X := cxOf (L2.CX P w) P w K mg base nSetupIn "setup_in" (defScope sSetupIn) f cdv A outer s H E) (E := E) rfl rfl rfl rfl
    have hr3 := hr.mono (by decide : 3 ≤ 5)
    refine ⟨_, pss_cons (ps_set (i := 1) scSetupIn.nd rfl (by first | exact .inl rfl | exact .inr rfl) (pe_make M GI (hr.mono (by decide)) (by rfl) T.mgC bI .nil pass0 (pa_cons pe_int (pa_cons (pv 0) pa_nil))))
      (pss_cons (ps_expr (pe_meth (pv 1) T.cl hE GE hr3 bE .nil (passE tk0) (pa_cons (pe_cmpR op_eq (pe_meth0 (pv 1) T.cl hX GX hr3 bX .nil (passE tk0)) pe_str (nomark _)) pa_nil)))
      (pss_cons (ps_set (i := 2) scSetupIn.nd rfl (by first | exact .inl rfl | exact .inr rfl) (pe_meth (pv 1) T.cl hM GM hr bM .nil (passE tk0) (pa_cons pe_int pa_nil)))
      (pss_cons (ps_set (i := 3) scSetupIn.nd rfl (by first | exact .inl rfl | exact .inr rfl) (pe_meth (pv 1) T.cl hM GM hr bM .nil (passE tk0) (pa_cons pe_int pa_nil)))
      (pss_cons (ps_expr (pe_meth (pv 1) T.cl hE GE hr3 bE .nil (passE tk0) (pa_cons (pe_cmpR op_eq (pe_meth0 (pv 1) T.cl hX GX hr3 bX .nil (passE tk0)) pe_str (nomark _)) pa_nil)))
      (pss_cons (ps_set (i := 4) scSetupIn.nd rfl (by first | exact .inl rfl | exact .inr rfl) (pe_meth0 (pv 1) T.cl hR GR (hr.mono (by decide)) bR .nil pass0))
      (pss_cons (ps_for (passes_of rfl) rfl (pi_range1 (by rfl) mr (pa_cons (pe_callB call_len_seq (by rfl) ml PySem.boot_len (pa_cons (pv 4) pa_nil)) pa_nil)) (pg_name (i := 5) scSetupIn.nd rfl (by first | exact .inl rfl | exact .inr rfl))
        (pss_cons (ps_setLc (i := 6) (own := [("word", 8)]) (g := gName 8) (tt := tYes) rfl scSetupIn.nd rfl rfl (sw_true rfl rfl rfl (by decide +kernel)) (pi_list (pe_slice sl_list (pv 4) (po_some (pe_op op_add (pv 5) pe_int)) po_none)) (blkOk_by (N := nSetupIn) (sc := defScope sSetupIn) (by decide +kernel))
            (fun _ _ _ _ _ => pg_name (i := 8) scSetupIn.nd rfl (Or.inl rfl)) (fun _ _ _ _ _ => pts_nil) (fun _ _ _ _ _ => pe_ifExp (pt_cmpR op_eq (pv 8) (pe_glob (v := .str "-") (by rfl) mN ⟨_, rfl⟩) (nomark _)) pe_non (pv 8)))
        (pss_cons (ps_set (i := 7) scSetupIn.nd rfl (by first | exact .inl rfl | exact .inr rfl) (pe_tup (pa_cons (pv 2) (pa_cons (pv 3) (pa_cons (pe_callTy call_tuple_of (by rfl) mt PyProof.Rows.boot_tuple (pa_cons (pe_slice sl_list (pv 4) po_none (po_some (pv 5))) pa_nil)) (pa_cons (pe_callTy call_tuple_of (by rfl) mt PyProof.Rows.boot_tuple (pa_cons (pv 6) pa_nil)) pa_nil))))))
        (pss_one (ps_if (PW.pt (pw_and (pt_cmpR op_eq (pe_ix ix_seq (pv 4) (pv 5) (fun _ _ => rfl)) pe_str (nomark _)) (pw_and1 (pt_val (pe_call GS hr (by rfl) mS kS bS .nil pass0 (pa_cons (pv 7) pa_nil)))))) (pss_one (ps_ret (pv 7))) pss_nil)))))
      (pss_one (ps_bad rfl TB (hr.mono (by decide)) tk0 (pa_cons pe_int pa_nil))))))))), ?_⟩
    generalize hW : Txt.split a " " = W at lw hw kB k
    have hlw : W.length ≤ sizeLine := Nat.le_trans lw (by rw [sizeLine_eq]; decide)
    have hw2 : ∀ x ∈ W, x.length ≤ 100000 := fun x hx => by
      have := hw x hx
      unfold shortW at this
      rw [Bool.and_eq_true, decide_eq_true_eq] at this
      omega
    have bad : ∀ {p : Addr} {H1 : Hp}, readS W = none → H p = none → Same H H1 → Bads B p 0 H1 E := fun {p H1} e n s1 d H' s2 hd hx => kB e d H' (same_of n s1 s2) (s1.free hd) hx
    refine seq_gen (P := fun σ' H1 => ∃ p, σ' = [some (.str a), some (.ref p), none, none, none, none, none, none, none] ∧ H p = none ∧ WordsAt C H1 p 0 W 0 ∧ Same H H1) (fun N hN => ?_) ?_
    · refine ⟨_, rfl, fun p dx hp hdx ne => ?_⟩
      refine ⟨p, dx, 0, a, rfl, Nat.le_trans (by omega : a.length + 2 ≤ 100002) (by rw [sizeLine_eq]; decide), upd_same, fun H1 h1 s1 => ⟨rfl, hN _ _ ⟨p, rfl, hp, hW ▸ h1, fun b o e => ?_⟩⟩⟩
      have n1 : b ≠ p := ne_of_none e hp
      refine s1 b o ?_ n1
      rw [upd_ne n1, upd_ne (ne_of_none e hdx)]
      exact e
    rintro _ H1 ⟨p, rfl, hp0, hW1, s1⟩
    refine seq_gen (P := fun σ' H2 => σ' = [some (.str a), some (.ref p), none, none, none, none, none, none, none] ∧ WordsAt C H2 p 0 W 1 ∧ Same H H2 ∧ isW "ring" W[0]? = true) (fun N hN => ?_) ?_
    · have hW1' := hW1
      obtain ⟨dx, l, hp, hl⟩ := hW1
      refine ⟨_, rfl, p, dx, _, rfl, hp, fW_n2 0 l 0, ?_⟩
      refine ⟨_, rfl, p, dx, _, rfl, hp, fW_n1 0 l 0, ?_⟩
      refine ⟨p, 0, W, 0, rfl, by decide, hW1', hlw, Nat.zero_le _, fun e => bad ?_ hp0 s1, fun x H2 ex hW2 s2 => ?_⟩
      · unfold readS
        rw [List.getElem?_eq_none (by omega)]
        rfl
      · have sb := same_of hp0 s1 s2
        refine ⟨rfl, p, 0, W, 1, _, rfl, by decide, hW2, fun eb => bad ?_ hp0 sb, fun eb => hN _ _ ⟨rfl, hW2, sb, ?_⟩⟩
        · have e3 : isW "ring" W[0]? = false := by
            rw [ex]
            exact eb
          unfold readS
          rw [e3]
          rfl
        · rw [ex]
          exact eb
    rintro _ H2 ⟨rfl, hW2, s2, c0⟩
    refine seq_gen (P := fun σ' H3 => ∃ m1 : Nat, σ' = [some (.str a), some (.ref p), some (.int m1), none, none, none, none, none, none] ∧ WordsAt C H3 p 0 W 2 ∧ Same H H3 ∧ (W[1]?.bind fun x => numIn x 1) = some m1) (fun N hN => ?_) ?_
    · have hW1' := hW2
      obtain ⟨dx, l, hp, hl⟩ := hW2
      refine ⟨_, rfl, p, dx, _, rfl, hp, fW_n4 0 l 1, ?_⟩
      refine ⟨p, 0, W, 1, 1, rfl, by decide, hW1', hlw, ?_, hw2, fun e => bad ?_ hp0 s2, fun j H3 ej hW3 s3 => hN _ _ ⟨j, rfl, hW3, same_of hp0 s2 s3, ej⟩⟩
      · refine Nat.succ_le_of_lt (Nat.pos_of_ne_zero fun z => ?_)
        rw [List.getElem?_eq_none (by omega)] at c0
        cases c0
      · unfold readS
        rw [c0, e]
        rfl
    rintro _ H3 ⟨m1, rfl, hW3, s3, e1⟩
    refine seq_gen (P := fun σ' H4 => ∃ m2 : Nat, σ' = [some (.str a), some (.ref p), some (.int m1), some (.int m2), none, none, none, none, none] ∧ WordsAt C H4 p 0 W 3 ∧ Same H H4 ∧ (W[2]?.bind fun x => numIn x 1) = some m2) (fun N hN => ?_) ?_
    · have hW1' := hW3
      obtain ⟨dx, l, hp, hl⟩ := hW3
      refine ⟨_, rfl, p, dx, _, rfl, hp, fW_n4 0 l 2, ?_⟩
      refine ⟨p, 0, W, 2, 1, rfl, by decide, hW1', hlw, ?_, hw2, fun e => bad ?_ hp0 s3, fun j H4 ej hW4 s4 => hN _ _ ⟨j, rfl, hW4, same_of hp0 s3 s4, ej⟩⟩
      · refine Nat.succ_le_of_lt (Nat.lt_of_not_le fun z => ?_)
        rw [List.getElem?_eq_none z] at e1
        cases e1
      · unfold readS
        rw [c0, e1, e]
        rfl
    rintro _ H4 ⟨m2, rfl, hW4, s4, e2⟩
    refine seq_gen (P := fun σ' H5 => σ' = [some (.str a), some (.ref p), some (.int m1), some (.int m2), none, none, none, none, none] ∧ WordsAt C H5 p 0 W 4 ∧ Same H H5 ∧ isW "pipes" W[3]? = true) (fun N hN => ?_) ?_
    · have hW1' := hW4
      obtain ⟨dx, l, hp, hl⟩ := hW4
      refine ⟨_, rfl, p, dx, _, rfl, hp, fW_n2 0 l 3, ?_⟩
      refine ⟨_, rfl, p, dx, _, rfl, hp, fW_n1 0 l 3, ?_⟩
      refine ⟨p, 0, W, 3, rfl, by decide, hW1', hlw, ?_, fun e => bad ?_ hp0 s4, fun x H5 ex hW5 s5 => ?_⟩
      · refine Nat.succ_le_of_lt (Nat.lt_of_not_le fun z => ?_)
        rw [List.getElem?_eq_none z] at e2
        cases e2
      · unfold readS
        rw [c0, e1, e2, List.getElem?_eq_none (by omega)]
        rfl
      · have sb := same_of hp0 s4 s5
        refine ⟨rfl, p, 0, W, 4, _, rfl, by decide, hW5, fun eb => bad ?_ hp0 sb, fun eb => hN _ _ ⟨rfl, hW5, sb, ?_⟩⟩
        · have e3 : isW "pipes" W[3]? = false := by
            rw [ex]
            exact eb
          unfold readS
          rw [c0, e1, e2, e3]
          rfl
        · rw [ex]
          exact eb
    rintro _ H5 ⟨rfl, hW5, s5, c3⟩
    have eR : readS W = firstS m1 m2 (W.drop 4) := by
      unfold readS
      rw [c0, e1, e2, c3]
      rfl
    refine seq_gen (P := fun σ' H6 => ∃ r, σ' = [some (.str a), some (.ref p), some (.int m1), some (.int m2), some (.ref r), none, none, none, none] ∧ WordsAt C H6 p 0 W W.length ∧ Same H H6 ∧ H6 r = some (.lst ((W.drop 4).map V.str))) (fun N hN => ?_) ?_
    · have hW1' := hW5
      obtain ⟨dx, l, hp, hl⟩ := hW5
      refine ⟨_, rfl, p, dx, _, rfl, hp, fW_n3 0 l 4, ?_⟩
      refine ⟨p, 0, W, 4, rfl, hW1', ?_, fun r H6 hW6 s6 hr0 hr6 => hN _ _ ⟨r, rfl, hW6, same_of hp0 s5 s6, hr6⟩⟩
      refine Nat.succ_le_of_lt (Nat.lt_of_not_le fun z => ?_)
      rw [List.getElem?_eq_none z] at c3
      cases c3
    rintro _ H6 ⟨r, rfl, hW6, s6, hr6⟩
    rw [eR] at k bad
    have hwr : ∀ x ∈ W.drop 4, shortW x = true := fun x hx => hw x (List.mem_of_mem_drop hx)
    have lwr : (W.drop 4).length ≤ 100 := by
      rw [List.length_drop]
      omega
    have hm1 : m1 < 10 ^ 13 := by
      cases z : W[1]? with
      | none =>
        rw [z] at e1
        cases e1
      | some x =>
        rw [z] at e1
        exact (numIn_lt e1).1
    have hm2 : m2 < 10 ^ 13 := by
      cases z : W[2]? with
      | none =>
        rw [z] at e2
        cases e2
      | some x =>
        rw [z] at e2
        exact (numIn_lt e2).1
    generalize W.drop 4 = R at hr6 k bad hwr lwr
    have bad2 : firstS m1 m2 R = none → ∀ {H7 : Hp}, Same H H7 → Bads B p 0 H7 E := fun e {H7} s7 => bad e hp0 s7
    refine seq_gen (P := fun σ' H7 => Same H6 H7 ∧ ∀ j < R.length, okAt m1 m2 R j = false) (fun N hN => ?_) ?_
    · refine ⟨_, rfl, r, _, rfl, .inl (SqL.of hr6), ?_⟩
      refine ⟨((R.map V.str).length : Int), rfl, by omega, ?_, for_range (lo := 0) (n := ((R.map V.str).length : Int).toNat) (fun i σ H' => ∃ x5 x6 x7, σ = [some (.str a), some (.ref p), some (.int m1), some (.int m2), some (.ref r), x5, x6, x7, none] ∧ Same H6 H' ∧ ∀ j < i, okAt m1 m2 R j = false)
        ⟨none, none, none, rfl, fun _ _ z => z, fun j hj => absurd hj (Nat.not_lt_zero _)⟩ ?_ ?_⟩
      · rw [List.length_map]
        have : (R.length : Int) ≤ 100 := by omega
        exact Int.lt_of_le_of_lt this (by decide)
      · rintro i σ H7 hi ⟨x5, x6, x7, rfl, s7, hno⟩
        have hi : i < R.length := by
          rw [List.length_map] at hi
          omega
        have hr7 := s7 _ _ hr6
        have e0 : (0 : Int) + (i : Int) = (i : Int) := by omega
        rw [e0]
        refine seq_gen (P := fun σ' H8 => ∃ q, σ' = [some (.str a), some (.ref p), some (.int m1), some (.int m2), some (.ref r), some (.int i), some (.ref q), x7, none] ∧ Same H6 H8 ∧ H8 q = some (.lst ((R.drop (i + 1)).map dashV))) (fun N2 hN2 => ?_) ?_
        · refine ⟨_, rfl, _, rfl, _, _, rfl, rfl, _, rfl, r, _, rfl, SqL.of hr7, fun q hq => ?_⟩
          have s8 := s7.trans (same_upd (o := HO.lst (cutV (R.map V.str) (some ((i : Int) + 1)) none)) hq)
          have ec : cutV (R.map V.str) (some ((i : Int) + 1)) none = (R.drop (i + 1)).map V.str := cutV_from R (i + 1)
          rw [ec] at s8 ⊢
          generalize hU : R.drop (i + 1) = U at s8 ⊢
          have lU : U.length ≤ 100 := by
            rw [← hU, List.length_drop]
            omega
          refine ⟨q, rfl, ⟨_, SqL.of upd_same⟩, fun D nD => lc_it (walk_list (xs := U.map V.str)) (fun j H9 => SameX [D] (upd H7 q (.lst (U.map V.str))) H9 ∧ H9 D = some (.lst ((U.take j).map dashV))) ⟨sameX_upd List.mem_cons_self, upd_same⟩
            (fun j H9 _ h => SqL.of (h.1 q _ (fun z => ne_of_none upd_same nD (List.mem_singleton.mp z)) upd_same)) ?_ ?_⟩
          · rintro j v H9x H9 hj ⟨s9, hD⟩ ⟨rfl, hv⟩
            obtain ⟨x, hx, rfl⟩ : ∃ x, U[j]? = some x ∧ v = .str x := by
              rw [List.getElem?_map] at hv
              cases z : U[j]? with
              | none =>
                rw [z] at hv
                cases hv
              | some x =>
                rw [z] at hv
                exact ⟨x, rfl, (Option.some.inj hv).symm⟩
            have step : ∀ y : V, y = dashV x → (fun H9 => SameX [D] (upd H7 q (.lst (U.map V.str))) H9 ∧ H9 D = some (.lst ((U.take (j + 1)).map dashV))) (upd H9 D (.lst ((U.take j).map dashV ++ [y]))) := fun y ey =>
              ⟨s9.trans (sameX_upd List.mem_cons_self), by rw [upd_same, take_snoc hx, List.map_append, ey]; rfl⟩
            have ll : ((U.take j).map dashV).length < sizeLine := small1000 (by rw [List.length_map, List.length_take]; omega)
            refine ⟨rfl, tYes_ok ⟨_, rfl, rfl, _, rfl, ite2 (fun e => ?_) (fun e => ?_)⟩⟩
            · refine ⟨_, hD, ll, step _ ?_⟩
              unfold dashV
              rw [if_pos (of_decide_eq_true e)]
            · refine ⟨_, rfl, _, hD, ll, step _ ?_⟩
              unfold dashV
              rw [if_neg (fun z => e (decide_eq_true z))]
          · rintro H9 ⟨s9, hD⟩
            rw [List.length_map, List.take_of_length_le (Nat.le_refl _)] at hD
            refine hN2 _ _ ⟨D, rfl, fun b o e => ?_, by rw [hU]; exact hD⟩
            have e8 := s8 b o e
            exact s9 b o (fun z => ne_of_none e8 nD (List.mem_singleton.mp z)) e8
        rintro _ H8 ⟨q, rfl, s8, hq⟩
        have hr8 := s8 _ _ hr6
        refine seq_gen (P := fun σ' H9 => ∃ u, σ' = [some (.str a), some (.ref p), some (.int m1), some (.int m2), some (.ref r), some (.int i), some (.ref q), some u, none] ∧ Same H6 H9 ∧ Dp K H9 u (mkS m1 m2 R i)) (fun N2 hN2 => ?_) ?_
        · refine ⟨_, rfl, _, rfl, _, rfl, _, rfl, _, rfl, r, _, rfl, SqL.of hr8, fun c hc => ?_⟩
          have ec : cutV (R.map V.str) none (some (i : Int)) = (R.take i).map V.str := cutV_to R i
          rw [ec]
          have s9 := s8.trans (same_upd (o := HO.lst ((R.take i).map V.str)) hc)
          have hq9 := same_upd (o := HO.lst ((R.take i).map V.str)) hc _ _ hq
          have hc9 : upd H8 c (.lst ((R.take i).map V.str)) c = some (.lst ((R.take i).map V.str)) := upd_same
          generalize upd H8 c (.lst ((R.take i).map V.str)) = H9 at s9 hq9 hc9 ⊢
          refine ⟨c, _, rfl, .inl ⟨SqL.of hc9, fun d1 hd1 => ?_⟩⟩
          have s10 := s9.trans (same_upd (o := HO.tup ((R.take i).map V.str)) hd1)
          have hq10 := same_upd (o := HO.tup ((R.take i).map V.str)) hd1 _ _ hq9
          have hd10 : upd H9 d1 (.tup ((R.take i).map V.str)) d1 = some (.tup ((R.take i).map V.str)) := upd_same
          generalize upd H9 d1 (.tup ((R.take i).map V.str)) = H10 at s10 hq10 hd10 ⊢
          refine ⟨_, rfl, q, _, rfl, .inl ⟨SqL.of hq10, fun d2 hd2 => ?_⟩⟩
          have s11 := s10.trans (same_upd (o := HO.tup ((R.drop (i + 1)).map dashV)) hd2)
          have hd11 := same_upd (o := HO.tup ((R.drop (i + 1)).map dashV)) hd2 _ _ hd10
          have hd12 : upd H10 d2 (.tup ((R.drop (i + 1)).map dashV)) d2 = some (.tup ((R.drop (i + 1)).map dashV)) := upd_same
          generalize upd H10 d2 (.tup ((R.drop (i + 1)).map dashV)) = H11 at s11 hd11 hd12 ⊢
          refine ⟨by show 4 ≤ sizeLine; decide, fun u hu => hN2 _ _ ⟨_, rfl, s11.trans (same_upd hu), ?_⟩⟩
          exact .tup (SqT.of upd_same) (.cons (.int _) (.cons (.int _) (.cons (.tup (SqT.of (same_upd hu _ _ hd11)) (dps_strs _)) (.cons (.tup (SqT.of (same_upd hu _ _ hd12)) (dps_dash _)) .nil))))
        rintro _ H9 ⟨u, rfl, s9, hu⟩
        have hr9 := s9 _ _ hr6
        have hRi : R[i]? = some R[i] := List.getElem?_eq_getElem hi
        refine ⟨_, rfl, _, rfl, .inl ⟨r, R.map V.str, (i : Int), .str R[i], rfl, rfl, SqL.of hr9, atI_nat (by rw [List.getElem?_map, hRi]; rfl), rfl, ?_⟩⟩
        refine ⟨_, rfl, ite2 (fun e => ?_) (fun e => ?_)⟩
        · refine ⟨_, rfl, u, _, 100, 2, rfl, hu, mkS_good hm1 hm2 lwr hwr, Nat.le_refl _, fun H10 t10 => ⟨_, rfl, ite2 (fun g => ?_) (fun g => ?_)⟩⟩
          · refine ⟨_, rfl, k _ u H10 (first_at hi hno ?_) (s6.trans (s9.trans t10)) (dp_same t10 hu)⟩
            unfold okAt
            rw [hRi, g]
            dsimp only
            rw [e]
            rfl
          · refine ⟨_, _, _, rfl, s9.trans t10, fun j hj => ?_⟩
            rcases Nat.lt_succ_iff_lt_or_eq.mp hj with h | h
            · exact hno j h
            · rw [h]
              unfold okAt
              rw [show isSetupD (mkS m1 m2 R i) = false by simpa using g, Bool.and_false]
        · refine ⟨_, _, _, rfl, s9, fun j hj => ?_⟩
          rcases Nat.lt_succ_iff_lt_or_eq.mp hj with h | h
          · exact hno j h
          · rw [h]
            unfold okAt
            rw [hRi]
            dsimp only
            rw [show decide (V.str R[i] = V.str (Str.ofString "slots")) = false by simpa using e, Bool.false_and]
      · rintro σ H7 ⟨x5, x6, x7, rfl, s7, hno⟩
        refine hN _ _ ⟨s7, fun j hj => hno j (by rw [List.length_map]; omega)⟩
    · rintro σ' H7 ⟨s7, hno⟩
      exact bad_go (by decide) ((bad2 (first_none hno) (s6.trans s7)).go (SameX.refl _ _) (hW6.same s7).np)
end
end KV

namespace KV
open PySem PySem.Spec PyProof.Rows L2 RZ
/-! ### setup_text -/
abbrev sSetupText : Stmt := topS 93
def entV : Option Str → V | none => .non | some x => .str x
def entW : Option Str → Str | none => "-" | some x => x
def entD : Option Str → PyData | none => .none | some x => .str x
/-- a setup as a value: tuples or lists -/
def SetupV (K : PySem.W.Frag) (H : Hp) (v : V) (a b : Nat) (ps : List Str) (es : List (Option Str)) : Prop := ∃ p q r : Addr, v = .ref p ∧ (SqL K H p [.int a, .int b, .ref q, .ref r] ∨ SqT K H p [.int a, .int b, .ref q, .ref r]) ∧
  (SqL K H q (ps.map V.str) ∨ SqT K H q (ps.map V.str)) ∧ (SqL K H r (es.map entV) ∨ SqT K H r (es.map entV))
def setupWords (a b : Nat) (ps : List Str) (es : List (Option Str)) : List Str := (["ring", toString ((a : Nat) : Int), toString ((b : Nat) : Int), "pipes"] : List Str) ++ (ps ++ ((["slots"] : List Str) ++ es.map entW))
theorem sq_same {K : PySem.W.Frag} {H H' : Hp} {p : Addr} {xs : List V} (s : Same H H') (h : SqL K H p xs ∨ SqT K H p xs) : SqL K H' p xs ∨ SqT K H' p xs := h.imp (fun z => s.seq z) (fun z => same_seqT s z)
/-- walking a list or a tuple -/
def iSq (K : PySem.W.Frag) (tl : TE) : TI := fun σ H R => tl σ H fun x H1 => ∃ a xs, x = .ref a ∧ (SqL K H1 a xs ∨ SqT K H1 a xs) ∧ ∀ J G, Walk J xs.length G (YAt xs) → (∀ H2, Same H1 H2 → G H2) → R J H1
theorem pi_sq {X : Cx} {tg l : Expr} {tl : TE} (hl : PE X l tl) : PI X tg l (iSq X.K tl) := by
  have h := pi_dat (tg := tg) [] hl
  unfold iDat at h
  simp only [hide_nil] at h
  exact h
theorem sum_len : ∀ {l : List Str}, (∀ x ∈ l, x.length ≤ 60) → (l.map (·.length)).sum ≤ 60 * l.length
  | [], _ => by simp
  | x :: l, h => by
    have h1 := h x List.mem_cons_self
    have h2 := sum_len (l := l) fun y hy => h y (List.mem_cons_of_mem _ hy)
    rw [List.map_cons, List.sum_cons, List.length_cons]
    omega
theorem setupWords_len {a b : Nat} {ps : List Str} {es : List (Option Str)} (la : a < 1000) (lb : b < 1000) (wp : ∀ x ∈ ps, x.length ≤ 60) (we : ∀ x ∈ es, (entW x).length ≤ 60) : ∀ x ∈ setupWords a b ps es, x.length ≤ 60 := by
  have l1 : (Str.ofString "ring").length ≤ 60 := by decide +kernel
  have l2 : (Str.ofString "pipes").length ≤ 60 := by decide +kernel
  have l3 : (Str.ofString "slots").length ≤ 60 := by decide +kernel
  have l4 := small_text la
  have l5 := small_text lb
  intro x hx
  rcases List.mem_append.mp hx with h | h
  · rcases List.mem_cons.mp h with e | h
    · rw [e]; exact l1
    rcases List.mem_cons.mp h with e | h
    · rw [e]; omega
    rcases List.mem_cons.mp h with e | h
    · rw [e]; omega
    rw [List.mem_singleton.mp h]; exact l2
  · rcases List.mem_append.mp h with h | h
    · exact wp x h
    · rcases List.mem_append.mp h with h | h
      · rw [List.mem_singleton.mp h]; exact l3
      · obtain ⟨y, hy, e⟩ := List.mem_map.mp h
        rw [← e]
        exact we y hy
section
variable {P : Program} {w : World} {K : PySem.W.Frag} {mg : Str → Option Value} {base : Heap}
def spSetupText (K : PySem.W.Frag) : Sp := fun vs H Q _ => ∃ (v : V) (a b : Nat) (ps : List Str) (es : List (Option Str)), vs = [v] ∧ SetupV K H v a b ps es ∧ a < 1000 ∧ b < 1000 ∧ ps.length ≤ 10 ∧ es.length ≤ 10 ∧ (∀ x ∈ ps, x.length ≤ 60) ∧ (∀ x ∈ es, (entW x).length ≤ 60) ∧
  ∀ H', Same H H' → Q (.str (Txt.join " " (setupWords a b ps es))) H'
abbrev nSetupText : List Str := ["setup", "space", "room", "pipes", "slots", "entries", "entry"]
theorem scSetupText : FnScope nSetupText ["setup"] (defScope sSetupText) := ⟨rfl, rfl, rfl, by decide +kernel, rfl, by decide +kernel, by decide +kernel⟩
theorem ok_setupText {f : Addr} {fd : FuncData} {tk : Tok} (F : Fun K "setup_text" "setup_text" sSetupText f fd) (ms : mg "str" = none) (mN : mg "NOTHING" = some (.str "-" tk)) : FnOk P w K mg base CX0 1 f fd ["setup"] (spSetupText K) := by
  refine F.ok scSetupText (fun vs H Q E h => ?_) (fun cdv A outer s H vs Q E hr h => ?_)
  · obtain ⟨v, a, b, ps, es, rfl, _⟩ := h
    rfl
  · obtain ⟨v, a, b, ps, es, rfl, ⟨p, q, r, rfl, hp, hq, hr2⟩, la, lb, lp, le, wp, we, k⟩ := h
    have lo : ∀ {i : Nat} {x : Str}, nSetupText[i]? = some x → True := fun _ => trivial
    refine ⟨_, pss_cons (ps_asg (pv 0) (pg_seq rfl (pgs_cons (pg_name (i := 1) scSetupText.nd rfl (by first | exact .inl rfl | exact .inr rfl)) (pgs_cons (pg_name (i := 2) scSetupText.nd rfl (by first | exact .inl rfl | exact .inr rfl)) (pgs_cons (pg_name (i := 3) scSetupText.nd rfl (by first | exact .inl rfl | exact .inr rfl)) (pgs_cons (pg_name (i := 4) scSetupText.nd rfl (by first | exact .inl rfl | exact .inr rfl)) pgs_nil))))))
      (pss_cons (ps_setLc (i := 5) (own := [("entry", 6)]) (g := gName 6) (tt := tYes) rfl scSetupText.nd rfl rfl (sw_true rfl rfl rfl (by decide +kernel)) (pi_sq (pv 4)) (blkOk_by (N := nSetupText) (sc := defScope sSetupText) (by decide +kernel))
        (fun _ _ _ _ _ => pg_name (i := 6) scSetupText.nd rfl (Or.inl rfl)) (fun _ _ _ _ _ => pts_nil) (fun _ _ _ _ _ => pe_ifExp (pt_cmpR op_isN (pv 6) pe_non (nomark _)) (pe_glob (v := .str "-") (by rfl) mN ⟨_, rfl⟩) (pv 6)))
      (pss_one (ps_ret (pe_join pe_str (pe_lst (pa_cons pe_str (pa_cons (pe_callTy call_str_int (by rfl) ms PyProof.Rows.boot_str (pa_cons (pv 1) pa_nil)) (pa_cons (pe_callTy call_str_int (by rfl) ms PyProof.Rows.boot_str (pa_cons (pv 2) pa_nil)) (pa_cons pe_str
        (StX.pa_star (pv 3) (pa_cons pe_str (StX.pa_star (pv 5) pa_nil)))))))))))), ?_⟩
    refine seq_gen (P := fun σ' H1 => σ' = [some (.ref p), some (.int a), some (.int b), some (.ref q), some (.ref r), none, none] ∧ H1 = H) (fun N hN => ?_) ?_
    · exact ⟨_, rfl, p, _, rfl, hp.symm, rfl, _, _, rfl, _, _, rfl, _, _, rfl, _, _, rfl, rfl, hN _ _ ⟨rfl, rfl⟩⟩
    rintro _ H0 ⟨rfl, e0⟩
    rw [e0]
    refine seq_gen (P := fun σ' H1 => ∃ e, σ' = [some (.ref p), some (.int a), some (.int b), some (.ref q), some (.ref r), some (.ref e), none] ∧ True ∧ Same H H1 ∧ H1 e = some (.lst ((es.map entW).map V.str))) (fun N hN => ?_) ?_
    · refine ⟨_, rfl, r, _, rfl, hr2, fun J G wk hG D nD => lc_it wk (fun j H9 => SameX [D] H H9 ∧ H9 D = some (.lst (((es.take j).map entW).map V.str))) ⟨sameX_upd List.mem_cons_self, upd_same⟩ (fun j H9 _ h => hG H9 (fun b o e => h.1 b o (fun z => ne_of_none e nD (List.mem_singleton.mp z)) e)) ?_ ?_⟩
      · rintro j v H9x H9 hj ⟨s9, hD⟩ ⟨rfl, hv⟩
        obtain ⟨x, hx, rfl⟩ : ∃ x, es[j]? = some x ∧ v = entV x := by
          rw [List.getElem?_map] at hv
          cases z : es[j]? with
          | none =>
            rw [z] at hv
            cases hv
          | some x =>
            rw [z] at hv
            exact ⟨x, rfl, (Option.some.inj hv).symm⟩
        have step : (fun H9 => SameX [D] H H9 ∧ H9 D = some (.lst (((es.take (j + 1)).map entW).map V.str))) (upd H9 D (.lst (((es.take j).map entW).map V.str ++ [V.str (entW x)]))) :=
          ⟨s9.trans (sameX_upd List.mem_cons_self), by rw [upd_same, take_snoc hx, List.map_append, List.map_append]; rfl⟩
        have ll : (((es.take j).map entW).map V.str).length < sizeLine := small1000 (by rw [List.length_map, List.length_map, List.length_take]; omega)
        refine ⟨rfl, tYes_ok ?_⟩
        cases x with
        | none => exact ⟨_, rfl, rfl, _, rfl, iteT ⟨_, hD, ll, step⟩⟩
        | some x => exact ⟨_, rfl, rfl, _, rfl, iteF ⟨_, rfl, _, hD, ll, step⟩⟩
      · rintro H9 ⟨s9, hD⟩
        rw [List.length_map, List.take_of_length_le (Nat.le_refl _)] at hD
        exact hN _ _ ⟨D, rfl, trivial, fun b o e => s9 b o (fun z => ne_of_none e nD (List.mem_singleton.mp z)) e, hD⟩
    rintro _ H1 ⟨e, rfl, _, s1, he⟩
    have log : ∀ n : Nat, n < 1000 → ((n : Nat) : Int).natAbs.log2 < 1920 := fun n h => Nat.lt_of_le_of_lt (Nat.log2_le_self n) (by omega)
    refine ⟨⟨_, rfl⟩, ?_⟩
    refine ⟨_, rfl, _, rfl, log a la, _, rfl, _, rfl, log b lb, ?_⟩
    refine ⟨_, rfl, q, _, rfl, (sq_same s1 hq).symm, _, rfl, e, _, rfl, .inr (SqL.of he), ?_⟩
    have eL : V.str (Str.ofString "ring") :: V.str (Str.ofString (toString ((a : Nat) : Int))) :: V.str (Str.ofString (toString ((b : Nat) : Int))) :: V.str (Str.ofString "pipes") :: (ps.map V.str ++ (V.str (Str.ofString "slots") :: ((es.map entW).map V.str ++ []))) = (setupWords a b ps es).map V.str := by
      simp [setupWords]
    have lw := setupWords_len (ps := ps) (es := es) la lb wp we
    have nw : (setupWords a b ps es).length ≤ 30 := by
      simp only [setupWords, List.length_append, List.length_cons, List.length_nil, List.length_map]
      omega
    refine ⟨?_, fun z hz => ⟨_, z, setupWords a b ps es, rfl, rfl, .inl (SqL.of ?_), ?_, k _ (s1.trans (same_upd hz))⟩⟩
    · show (V.str (Str.ofString "ring") :: V.str (Str.ofString (toString ((a : Nat) : Int))) :: V.str (Str.ofString (toString ((b : Nat) : Int))) :: V.str (Str.ofString "pipes") :: (ps.map V.str ++ (V.str (Str.ofString "slots") :: ((es.map entW).map V.str ++ [])))).length ≤ sizeLine
      rw [eL, List.length_map]
      exact Nat.le_trans nw (by rw [sizeLine_eq]; decide)
    · rw [upd_same]
      exact congrArg (fun l => some (HO.lst l)) eL
    · have := sum_len lw
      have l1 : (Str.ofString " ").length = 1 := by decide +kernel
      rw [l1]
      omega
end
end KV

namespace KV
open PySem PySem.Spec PyProof.Rows L2 RZ
/-! ### _law_setup_words -/
abbrev sLawWords : Stmt := topS 106
def headWords (a b : Nat) (ps : List Str) : List Str := (["ring", toString ((a : Nat) : Int), toString ((b : Nat) : Int), "pipes"] : List Str) ++ (ps ++ (["slots"] : List Str))
theorem head_setup (a b : Nat) (ps : List Str) (es : List (Option Str)) : headWords a b ps ++ es.map entW = setupWords a b ps es := by
  simp [headWords, setupWords]
theorem lst_new {H : Hp} {p : Addr} {xs : List V} (h : H p = none) : Same H (upd H p (.lst xs)) ∧ upd H p (.lst xs) p = some (.lst xs) := ⟨same_upd h, upd_same⟩
section
variable {P : Program} {w : World} {K : PySem.W.Frag} {mg : Str → Option Value} {base : Heap}
def spLawWords (K : PySem.W.Frag) : Sp := fun vs H Q _ => ∃ (v : V) (a b : Nat) (ps : List Str) (es : List (Option Str)), vs = [v] ∧ SetupV K H v a b ps es ∧ a < 1000 ∧ b < 1000 ∧ ps.length ≤ 10 ∧ es.length ≤ 10 ∧
  ∀ (t : Addr) H', Same H H' → H' t = some (.lst ((setupWords a b ps es).map V.str)) → Q (.ref t) H'
abbrev nLawWords : List Str := ["_law_setup_so", "_law_space", "_law_room", "_law_pipes_so", "_law_slots_so", "_law_some", "_law_bit"]
theorem scLawWords : FnScope nLawWords ["_law_setup_so"] (defScope sLawWords) := ⟨rfl, rfl, rfl, by decide +kernel, rfl, by decide +kernel, by decide +kernel⟩
theorem ok_lawWords {f : Addr} {fd : FuncData} (F : Fun K "_law_setup_words" "_law_setup_words" sLawWords f fd) (ms : mg "str" = none) (ml : mg "list" = none) : FnOk P w K mg base CX0 1 f fd ["_law_setup_so"] (spLawWords K) := by
  refine F.ok scLawWords (fun vs H Q E h => ?_) (fun cdv A outer s H vs Q E hr h => ?_)
  · obtain ⟨v, a, b, ps, es, rfl, _⟩ := h
    rfl
  · obtain ⟨v, a, b, ps, es, rfl, ⟨p, q, r, rfl, hp, hq, hr2⟩, la, lb, lp, le, k⟩ := h
    refine ⟨_, pss_cons (ps_asg (pv 0) (pg_seq rfl (pgs_cons (pg_name (i := 1) scLawWords.nd rfl (by first | exact .inl rfl | exact .inr rfl)) (pgs_cons (pg_name (i := 2) scLawWords.nd rfl (by first | exact .inl rfl | exact .inr rfl)) (pgs_cons (pg_name (i := 3) scLawWords.nd rfl (by first | exact .inl rfl | exact .inr rfl)) (pgs_cons (pg_name (i := 4) scLawWords.nd rfl (by first | exact .inl rfl | exact .inr rfl)) pgs_nil))))))
      (pss_cons (ps_set (i := 5) scLawWords.nd rfl (by first | exact .inl rfl | exact .inr rfl) (pe_op op_cat (pe_op op_cat (pe_lst (pa_cons pe_str (pa_cons (pe_callTy call_str_int (by rfl) ms PyProof.Rows.boot_str (pa_cons (pv 1) pa_nil)) (pa_cons (pe_callTy call_str_int (by rfl) ms PyProof.Rows.boot_str (pa_cons (pv 2) pa_nil)) (pa_cons pe_str pa_nil)))))
          (pe_callTy call_list_of (by rfl) ml PyProof.Rows.boot_list (pa_cons (pv 3) pa_nil))) (pe_lst (pa_cons pe_str pa_nil))))
      (pss_one (ps_ret (pe_op op_cat (pv 5) (pe_lc (own := [("_law_bit", 6)]) (g := gName 6) (tt := tYes) rfl scLawWords.nd (pi_sq (pv 4)) (blkOk_by (N := nLawWords) (sc := defScope sLawWords) (by decide +kernel))
        (fun _ _ _ _ _ => pg_name (i := 6) scLawWords.nd rfl (Or.inl rfl)) (fun _ _ _ _ _ => pts_nil) (fun _ _ _ _ _ => pe_ifExp (pt_cmpR op_isN (pv 6) pe_non (nomark _)) pe_str (pv 6))))))), ?_⟩
    refine seq_gen (P := fun σ' H1 => σ' = [some (.ref p), some (.int a), some (.int b), some (.ref q), some (.ref r), none, none] ∧ H1 = H) (fun N hN => ?_) ?_
    · exact ⟨_, rfl, p, _, rfl, hp.symm, rfl, _, _, rfl, _, _, rfl, _, _, rfl, _, _, rfl, rfl, hN _ _ ⟨rfl, rfl⟩⟩
    rintro _ H0 ⟨rfl, e0⟩
    rw [e0]
    have log : ∀ n : Nat, n < 1000 → ((n : Nat) : Int).natAbs.log2 < 1920 := fun n h => Nat.lt_of_le_of_lt (Nat.log2_le_self n) (by omega)
    refine seq_gen (P := fun σ' H1 => ∃ e, σ' = [some (.ref p), some (.int a), some (.int b), some (.ref q), some (.ref r), some (.ref e), none] ∧ Same H H1 ∧ H1 e = some (.lst ((headWords a b ps).map V.str))) (fun N hN => ?_) ?_
    · refine ⟨_, rfl, _, rfl, log a la, _, rfl, _, rfl, log b lb, ?_⟩
      refine ⟨by show 4 ≤ sizeLine; decide, fun c hc => ?_⟩
      refine ⟨_, rfl, ?_⟩
      obtain ⟨s1, h1⟩ := lst_new (xs := [V.str (Str.ofString "ring"), V.str (Str.ofString (toString ((a : Nat) : Int))), V.str (Str.ofString (toString ((b : Nat) : Int))), V.str (Str.ofString "pipes")]) hc
      refine ⟨q, _, rfl, sq_same s1 hq, fun d hd => ?_⟩
      generalize upd H c _ = H1 at s1 h1 hd ⊢
      obtain ⟨s2, h2⟩ := lst_new (xs := ps.map V.str) hd
      have h12 := s2 _ _ h1
      have s02 := s1.trans s2
      generalize upd H1 d _ = H2 at s02 h2 h12 ⊢
      refine ⟨c, d, _, _, rfl, rfl, h12, h2, ?_, fun g hg => ?_⟩
      · rw [List.length_map]
        show 4 + ps.length ≤ sizeLine
        exact Nat.le_of_lt (small1000 (by omega))
      obtain ⟨s3, h3⟩ := lst_new (xs := [V.str (Str.ofString "ring"), V.str (Str.ofString (toString ((a : Nat) : Int))), V.str (Str.ofString (toString ((b : Nat) : Int))), V.str (Str.ofString "pipes")] ++ ps.map V.str) hg
      have s03 := s02.trans s3
      generalize upd H2 g _ = H3 at s03 h3 ⊢
      refine ⟨by show 1 ≤ sizeLine; decide, fun u hu => ?_⟩
      obtain ⟨s4, h4⟩ := lst_new (xs := [V.str (Str.ofString "slots")]) hu
      have h34 := s4 _ _ h3
      have s04 := s03.trans s4
      generalize upd H3 u _ = H4 at s04 h4 h34 ⊢
      refine ⟨g, u, _, _, rfl, rfl, h34, h4, ?_, fun e he => hN _ _ ⟨e, rfl, s04.trans (same_upd he), ?_⟩⟩
      · rw [List.length_append, List.length_map]
        show 4 + ps.length + 1 ≤ sizeLine
        exact Nat.le_of_lt (small1000 (by omega))
      · rw [upd_same]
        refine congrArg (fun l => some (HO.lst l)) ?_
        simp [headWords]
    rintro _ H1 ⟨e, rfl, s1, he⟩
    refine ⟨_, rfl, _, rfl, r, _, rfl, sq_same s1 hr2, fun J G wk hG D nD => lc_it wk (fun j H9 => SameX [D] H1 H9 ∧ H9 D = some (.lst (((es.take j).map entW).map V.str))) ⟨sameX_upd List.mem_cons_self, upd_same⟩ (fun j H9 _ h => hG H9 (fun b o e => h.1 b o (fun z => ne_of_none e nD (List.mem_singleton.mp z)) e)) ?_ ?_⟩
    · rintro j v H9x H9 hj ⟨s9, hD⟩ ⟨rfl, hv⟩
      obtain ⟨x, hx, rfl⟩ : ∃ x, es[j]? = some x ∧ v = entV x := by
        rw [List.getElem?_map] at hv
        cases z : es[j]? with
        | none =>
          rw [z] at hv
          cases hv
        | some x =>
          rw [z] at hv
          exact ⟨x, rfl, (Option.some.inj hv).symm⟩
      have step : (fun H9 => SameX [D] H1 H9 ∧ H9 D = some (.lst (((es.take (j + 1)).map entW).map V.str))) (upd H9 D (.lst (((es.take j).map entW).map V.str ++ [V.str (entW x)]))) :=
        ⟨s9.trans (sameX_upd List.mem_cons_self), by rw [upd_same, take_snoc hx, List.map_append, List.map_append]; rfl⟩
      have ll : (((es.take j).map entW).map V.str).length < sizeLine := small1000 (by rw [List.length_map, List.length_map, List.length_take]; omega)
      refine ⟨rfl, tYes_ok ?_⟩
      cases x with
      | none => exact ⟨_, rfl, rfl, _, rfl, iteT ⟨_, hD, ll, step⟩⟩
      | some x => exact ⟨_, rfl, rfl, _, rfl, iteF ⟨_, rfl, _, hD, ll, step⟩⟩
    · rintro H9 ⟨s9, hD⟩
      rw [List.length_map, List.take_of_length_le (Nat.le_refl _)] at hD
      have s19 : Same H1 H9 := fun b o e => s9 b o (fun z => ne_of_none e nD (List.mem_singleton.mp z)) e
      refine ⟨e, D, _, _, rfl, rfl, s19 _ _ he, hD, ?_, fun t ht => k t _ ((s1.trans s19).trans (same_upd ht)) ?_⟩
      · simp only [headWords, List.length_map, List.length_append, List.length_cons, List.length_nil]
        exact Nat.le_of_lt (small1000 (by omega))
      · rw [upd_same, ← List.map_append, head_setup]
end
end KV

namespace L2
open PySem PySem.Spec PyProof.Rows
/-! ### an exception that was caught: isinstance, its fields -/
/-- what its class must say -/
structure ExqC (K : PySem.W.Frag) (D : Addr) : Prop where
  cl : (PySem.W.clsIn K D).isSome = true
  xf : XfC K D
  ha : PySem.W.findIn K (.ref D) "__class__" = some (some (.builtin "object.__class__"))
  hn : PySem.W.specialIn K (.builtin "object.__class__") "__get__" = some (some (.builtin "getset_descriptor.__get__"))
  ht : PySem.W.takesIn K (.builtin "object.__class__") = some true
  hm : PySem.W.mroIn K D (.type "object") = some true
section
variable {X : Cx} {pins : List (Addr × Obj)} {σ : St} {H : Hp} {s : Shared} {a dd D : Addr} {fs : List (Str × V)}
theorem exq_inst (I : Inv X pins σ H s) (ha : H a = some (exq a (.ref D) (some dd))) (hd : H dd = some (.xd fs)) :
    ∃ oe od, PySem.W.InstAt s.heap a oe D (some od) ∧ ∀ (n : Str) (v : V), fs.lookup n = some v → ∃ u, PySem.W.lookIn n od = some (some u) ∧ RelV v u := by
  have hx : ObjOk X.prog X.w H s.heap a (.ext fun h => ∃ (oe : Obj) (vs : Array Value), h.get? a = some oe ∧ Zc (.ref D) (some dd) oe ∧ oe.data = .fields vs) := I.hok a _ ha
  obtain ⟨⟨oe, vs, ho, hz, hdat⟩, _, _⟩ := hx
  have hy : ObjOk X.prog X.w H s.heap dd (.xd fs) := I.hok dd _ hd
  obtain ⟨mA, hns, hr⟩ := hy
  obtain ⟨od, hod, hl⟩ := lookIn_ns hns
  refine ⟨oe, od, ⟨ho, hz.1, by unfold PySem.W.notCls; rw [hdat] <;> rfl, by rw [hz.2]; exact hod⟩, fun n v e => ?_⟩
  obtain ⟨u, hu, ru⟩ := RelO.some_of (v := v) (o := mA n) (by rw [← e]; exact hr n)
  exact ⟨u, by rw [hl, hu], ru⟩
end
/-- isinstance(e, c), e a caught exception, c a class -/
def rIsQ (K : PySem.W.Frag) : List V → Hp → VK → Prop := fun xs H Q => ∃ (a dd D : Addr) (fs : List (Str × V)) (c : V) (cv : Value) (b : Bool), xs = [.ref a, c] ∧ H a = some (exq a (.ref D) (some dd)) ∧ H dd = some (.xd fs) ∧ ExqC K D ∧ (∀ u, RelV c u → u = cv) ∧ PySem.W.kitOne K (.ref D) cv = some b ∧ Q (.bl b) H
theorem call_isQ {X : Cx} : CallR X (.builtin "isinstance") (rIsQ X.K) := by
  intro pins s σ H xs us Q I r h
  obtain ⟨a, dd, D, fs, c, cv, b, rfl, ha, hd, C, hcv, e, q⟩ := h
  cases r with
  | cons rx rr =>
    cases rr with
    | cons rt rr =>
      cases rr
      cases rx
      have ec := hcv _ rt
      subst ec
      obtain ⟨oe, od, J, _⟩ := exq_inst I ha hd
      exact PySem.W.kia_one (PySem.W.kitx_exc C.cl C.xf.ga C.xf.gg C.xf.exC C.ha C.hn C.ht C.hm) I.kIn J e (fun z => nomatch z) fun tk => ⟨.bl b, H, I.kept (t' := tk) fun _ _ z => z, rfl, q⟩
/-- isinstance(e, (c1, c2)) -/
def rIsQ2 (K : PySem.W.Frag) : List V → Hp → VK → Prop := fun xs H Q => ∃ (a dd D p : Addr) (fs : List (Str × V)) (c1 c2 : V) (v1 v2 : Value) (b : Bool), xs = [.ref a, .ref p] ∧ H a = some (exq a (.ref D) (some dd)) ∧ H dd = some (.xd fs) ∧ H p = some (.tup [c1, c2]) ∧ ExqC K D ∧ (∀ u, RelV c1 u → u = v1) ∧ (∀ u, RelV c2 u → u = v2) ∧
  PySem.W.kitAny K (.ref D) [v1, v2] = some b ∧ Q (.bl b) H
theorem call_isQ2 {X : Cx} : CallR X (.builtin "isinstance") (rIsQ2 X.K) := by
  intro pins s σ H xs us Q I r h
  obtain ⟨a, dd, D, p, fs, c1, c2, v1, v2, b, rfl, ha, hd, hp, C, hv1, hv2, e, q⟩ := h
  cases r with
  | cons rx rr =>
    cases rr with
    | cons rt rr =>
      cases rr
      cases rx
      cases rt
      obtain ⟨oe, od, J, _⟩ := exq_inst I ha hd
      have ht : ObjOk X.prog X.w H s.heap p (.tup [c1, c2]) := I.hok p _ hp
      obtain ⟨_, its, rv, ht⟩ := ht
      cases rv with
      | cons r1 rr =>
        cases rr with
        | cons r2 rr =>
          cases rr
          have e1 := hv1 _ r1
          have e2 := hv2 _ r2
          subst e1 e2
          obtain ⟨o, ho, hc, hdt⟩ := ht
          obtain ⟨n, hdt⟩ := hdt
          obtain ⟨oc, odd, oda, osl⟩ := o
          dsimp only at hc hdt
          subst hc hdt
          exact PySem.W.kia_tup (its := [_, _]) (PySem.W.kitx_exc C.cl C.xf.ga C.xf.gg C.xf.exC C.ha C.hn C.ht C.hm) I.kIn J ho e (fun z => nomatch z) fun tk => ⟨.bl b, H, I.kept (t' := tk) fun _ _ z => z, rfl, q⟩
/-- e.f, e a caught exception -/
def tXq (K : PySem.W.Frag) (n : Str) (te : TE) : TE := fun σ H Q => te σ H fun x H1 => ∃ (a dd D : Addr) (fs : List (Str × V)) (v : V), x = .ref a ∧ H1 a = some (exq a (.ref D) (some dd)) ∧ H1 dd = some (.xd fs) ∧ XfC K D ∧ PySem.W.findIn K (.ref D) n = some none ∧ fs.lookup n = some v ∧ Q v H1
theorem pe_xq {X : Cx} {e : Expr} {te : TE} {pos : Pos} {n : Str} (he : PE X e te) (hb : attributeBase e n X.env (eval e X.env) = eval e X.env := by rfl) : PE X (.Attribute e n pos) (tXq X.K n te) := by
  refine ⟨fun pins s σ H Q I h => ?_⟩
  refine attr_of hb (thn (he.run pins s σ H _ I h) fun u s1 hh => ?_)
  obtain ⟨x, H1, I1, rx, a, dd, D, fs, v, ex, ha, hd, T, hno, l, q⟩ := hh
  subst ex
  obtain rfl : u = Value.ref a := rx
  obtain ⟨oe, od, J, hl⟩ := exq_inst I1 ha hd
  obtain ⟨w, hw, rw⟩ := hl n v l
  exact HandSPX.exc_get I1.kIn J T.ga T.gg T.exC (PySem.W.findObj_own T.hdC hno rfl hw) (handed_of rw) ⟨v, H1, I1.tok _, rw, q⟩
end L2

namespace KV
open PySem PySem.Spec PyProof.Rows L2 RZ
/-! ### _law_read -/
abbrev sRead : Stmt := topS 118
/-- what _law_read answers to a row of words -/
def readD (ws : List Str) : PyData := (readS ws).getD (.tuple [.str "line", .int (0 : Nat)])
structure ReadTxt (K : PySem.W.Frag) (mg : Str → Option Value) (B E N T : Addr) : Prop where
  xc : ExqC K B
  no : PySem.W.findIn K (.ref B) "number" = some none
  mB : mg "BadLine" = some (.ref B)
  mE : mg "BadEvent" = some (.ref E)
  mN : mg "NoTag" = some (.ref N)
  mT : mg "TooMany" = some (.ref T)
  ex : PySem.W.exmAny K (.ref B) [.ref B, .ref E, .ref N, .ref T] = some true
  kV : PySem.W.kitOne K (.ref B) (.type "ValueError") = some true
  kNT : PySem.W.kitAny K (.ref B) [.ref N, .ref T] = some false
  kB : PySem.W.kitOne K (.ref B) (.ref B) = some true
  kE : PySem.W.kitOne K (.ref B) (.ref E) = some false
  mV : mg "ValueError" = none
  mi : mg "isinstance" = none
section
variable {P : Program} {w : World} {K : PySem.W.Frag} {mg : Str → Option Value} {base : Heap}
def spRead (K : PySem.W.Frag) : Sp := fun vs H Q _ => ∃ (sv : V) (a : Str), vs = [.str "setup", sv, .str a] ∧ a.length ≤ 100000 ∧ (Txt.split a " ").length ≤ 100 ∧ (∀ x ∈ Txt.split a " ", shortW x = true) ∧
  ∀ v H', Same H H' → Dp K H' v (readD (Txt.split a " ")) → Q v H'
abbrev nRead : List Str := ["_law_door", "_law_setup_so", "_law_words", "_law_found", "_law_caught", "error"]
theorem scRead : FnScope nRead ["_law_door", "_law_setup_so", "_law_words"] (defScope sRead) := ⟨rfl, rfl, rfl, by decide +kernel, rfl, by decide +kernel, by decide +kernel⟩
theorem ok_read {f fS B E N T : Addr} {fd fdS : FuncData} (F : Fun K "_law_read" "_law_read" sRead f fd) (R : ReadTxt K mg B E N T)
    (GS : FnOk P w K mg base (L2.CX P w) 6 fS fdS ["text"] (spSetupIn K B)) (bS : Binds K fdS ["text"] []) (mS : mg "setup_in" = some (.ref fS)) (kS : PySem.W.keepIn K (.ref fS) = true) :
    FnOk P w K mg base CX0 7 f fd ["_law_door", "_law_setup_so", "_law_words"] (spRead K) := by
  refine F.ok scRead (fun vs H Q E h => ?_) (fun cdv A outer s H vs Q E0 hr h => ?_)
  · obtain ⟨sv, a, rfl, _⟩ := h
    rfl
  · obtain ⟨sv, a, rfl, la, lw, hw, k⟩ := h
    refine ⟨_, pss_cons (ps_asg (pe_tup (pa_cons pe_non (pa_cons pe_non pa_nil))) (pg_tup rfl (pgs_cons (pg_name (i := 3) scRead.nd rfl (.inl rfl)) (pgs_cons (pg_name (i := 4) scRead.nd rfl (.inl rfl)) pgs_nil))))
      (pss_cons (ps_try_keep4 (i := 5) (c1 := .ref B) (c2 := .ref E) (c3 := .ref N) (c4 := .ref T) (ts := fun a cls d => tAsg (tVar 5) (gName 4))
          (tb := fun W => tIfS (tTest (tOp rEq (tVar 0) (tC (.str "setup")))) (tAsg (tCallS (spSetupIn K B) (WE W) (tCons (tVar 2) tNil)) (gName 3)) tNever) rfl rfl rfl scRead.nd rfl rfl
          ⟨rfl, by decide, .inl R.mB⟩ ⟨rfl, by decide, .inl R.mE⟩ ⟨rfl, by decide, .inl R.mN⟩ ⟨rfl, by decide, .inl R.mT⟩
          (fun W pn xe tk _ => pss_one (ps_if (pt_cmpR op_eq (pv 0) pe_str (nomark _)) (pss_one (ps_set (i := 3) scRead.nd rfl (Or.inl rfl) (by exact (pe_callS GS hr rfl mS kS bS (fun σ => passAt tk σ) (by exact (pa_cons (pv 2) pa_nil)))))) pss_never))
          (fun a oe cls d pn hz hf => pss_one (ps_set (i := 4) scRead.nd rfl (Or.inl rfl) (pv 5))))
      (pss_cons (ps_if (pt_cmpR op_isN (pv 4) pe_non (nomark _)) (pss_one (ps_ret (pv 3))) pss_nil)
      (pss_cons (ps_if (PW.pt (pw_or (pt_not (pt_val (pe_callB call_isQ (by rfl) R.mi boot_isinstance (pa_cons (pv 4) (pa_cons (pe_bltn (v := .ty "ValueError") (by rfl) R.mV (by decide +kernel) rfl) pa_nil)))))
          (pw_or1 (pt_val (pe_callB call_isQ2 (by rfl) R.mi boot_isinstance (pa_cons (pv 4) (pa_cons (pe_tup (pa_cons (pe_glob (v := .ref N) (by rfl) R.mN rfl) (pa_cons (pe_glob (v := .ref T) (by rfl) R.mT rfl) pa_nil))) pa_nil))))))) pss_never pss_nil)
      (pss_cons (ps_if (pt_val (pe_callB call_isQ (by rfl) R.mi boot_isinstance (pa_cons (pv 4) (pa_cons (pe_glob (v := .ref B) (by rfl) R.mB rfl) pa_nil))))
          (pss_one (ps_ret (pe_ifExp (pt_val (pe_callB call_isQ (by rfl) R.mi boot_isinstance (pa_cons (pv 4) (pa_cons (pe_glob (v := .ref E) (by rfl) R.mE rfl) pa_nil)))) pe_str (pe_tup (pa_cons pe_str (pa_cons (pe_xq (pv 4)) pa_nil)))))) pss_nil)
      pss_never)))), ?_⟩
    generalize hW : Txt.split a " " = W at lw hw k
    refine ⟨by show 2 ≤ sizeLine; decide, fun t ht => ⟨t, _, rfl, SqT.of upd_same, rfl, _, _, rfl, _, _, rfl, rfl, ?_⟩⟩
    have s1 := same_upd (o := HO.tup [V.non, V.non]) ht
    show Ends.nx _ [some (.str "setup"), some sv, some (.str a), some .non, some .non, none] (upd H t (.tup [V.non, V.non]))
    dsimp only
    refine seq_gen (P := fun σ' H2 => Same H H2 ∧ ((∃ s u, σ' = [some (.str "setup"), some sv, some (.str a), some u, some .non, none] ∧ readS W = some s ∧ Dp K H2 u s) ∨
      (readS W = none ∧ ∃ c dd, σ' = [some (.str "setup"), some sv, some (.str a), some .non, some (.ref c), none] ∧ H2 c = some (exq c (.ref B) (some dd)) ∧ H2 dd = some (.xd [("number", .int (0 : Nat))])))) (fun N1 hN => ?_) ?_
    · refine ⟨_, rfl, rfl, _, rfl, iteT ⟨_, rfl, a, rfl, la, by rw [hW]; exact lw, by rw [hW]; exact hw, fun e d H' s' hd hx => ⟨R.ex, fun c hc => ⟨_, rfl, hN _ _ ⟨(s1.trans s').trans (same_upd hc), .inr ⟨by rw [← hW]; exact e, c, d, rfl, upd_same, ?_⟩⟩⟩⟩, fun s v H' e s' dp => hN _ _ ⟨s1.trans s', .inl ⟨s, v, rfl, by rw [← hW]; exact e, dp⟩⟩⟩⟩
      rw [upd_ne (ne_of_none hx hc)]
      exact hx
    rintro _ H2 ⟨s2, ⟨s, u, rfl, e, dp⟩ | ⟨e, c, dd, rfl, hc, hd⟩⟩
    · refine ⟨_, rfl, rfl, _, rfl, iteT ⟨_, rfl, k u H2 s2 ?_⟩⟩
      unfold readD
      rw [e]
      exact dp
    · have one : ∀ {T : String} (u : Value), RelV (.ty T) u → u = .type T := fun {T} u r => r
      have two : ∀ {b : Addr} (u : Value), RelV (.ref b) u → u = .ref b := fun {b} u r => r
      refine ⟨_, rfl, rfl, _, rfl, iteF ?_⟩
      refine ⟨_, rfl, c, dd, B, _, _, _, _, rfl, hc, hd, R.xc, one, R.kV, _, rfl, iteF ?_⟩
      refine ⟨_, rfl, by show 2 ≤ sizeLine; decide, fun q hq => ?_⟩
      have s3 := same_upd (o := HO.tup [V.ref N, V.ref T]) hq
      have hc3 := s3 _ _ hc
      have hd3 := s3 _ _ hd
      have hq3 : upd H2 q (.tup [V.ref N, V.ref T]) q = some (.tup [V.ref N, V.ref T]) := upd_same
      generalize upd H2 q (.tup [V.ref N, V.ref T]) = H3 at s3 hc3 hd3 hq3 ⊢
      refine ⟨c, dd, B, q, _, _, _, _, _, _, rfl, hc3, hd3, hq3, R.xc, two, two, R.kNT, _, rfl, iteF ?_⟩
      refine ⟨_, rfl, c, dd, B, _, _, _, _, rfl, hc3, hd3, R.xc, two, R.kB, _, rfl, iteT ?_⟩
      refine ⟨_, rfl, c, dd, B, _, _, _, _, rfl, hc3, hd3, R.xc, two, R.kE, _, rfl, iteF ?_⟩
      refine ⟨_, rfl, c, dd, B, _, _, rfl, hc3, hd3, R.xc.xf, R.no, rfl, by show 2 ≤ sizeLine; decide, fun r hr2 => k _ _ ((s2.trans s3).trans (same_upd hr2)) ?_⟩
      unfold readD
      rw [e]
      exact .tup (SqT.of upd_same) (.cons (.str _) (.cons (.int _) .nil))
end
end KV

namespace KV
open PySem PySem.Spec PyProof.Rows L2 RZ
/-! ### _law_number_in -/
abbrev sLawNum : Stmt := topS 112
/-- the number that a word writes, in a list -/
def lnum (x : Str) : List Nat := if digsOk x && leadOk x then [numV x] else []
theorem lnum_short {x : Str} (h : digsOk x = false) : lnum x = [] := by
  unfold lnum
  rw [h]
  rfl
section
variable {P : Program} {w : World} {K : PySem.W.Frag} {mg : Str → Option Value} {base : Heap}
def spLawNum : Sp := fun vs H Q _ => ∃ (x : Str), vs = [.str x] ∧ shortW x = true ∧ ∀ r H', Same H H' → H' r = some (.lst ((lnum x).map fun n => V.int (n : Nat))) → Q (.ref r) H'
abbrev nLawNum : List Str := ["_law_word", "_law_sign"]
theorem scLawNum : FnScope nLawNum ["_law_word"] (defScope sLawNum) := ⟨rfl, rfl, rfl, by decide +kernel, rfl, by decide +kernel, by decide +kernel⟩
theorem ok_lawNum {f : Addr} {fd : FuncData} (F : Fun K "_law_number_in" "_law_number_in" sLawNum f fd) (ml : mg "len" = none) (mi : mg "int" = none) : FnOk P w K mg base CX0 1 f fd ["_law_word"] spLawNum := by
  refine F.ok scLawNum (fun vs H Q E h => ?_) (fun cdv A outer s H vs Q E hr h => ?_)
  · obtain ⟨x, rfl, _⟩ := h
    rfl
  · obtain ⟨x, rfl, hx, k⟩ := h
    unfold shortW at hx
    rw [Bool.and_eq_true, decide_eq_true_eq] at hx
    obtain ⟨lx, cx⟩ := hx
    refine ⟨_, pss_cons (ps_if (PW.pt (pw_or (pt_cmpR op_eq (pv 0) pe_str (nomark _)) (pw_or (pt_cmpR op_gt (pe_callB call_len_str (by rfl) ml PySem.boot_len (pa_cons (pv 0) pa_nil)) pe_int (nomark _))
        (pw_or1 (pt_cmpR (op_neD hr.units) (pe_lc (own := [("_law_sign", 1)]) (g := gName 1) rfl scLawNum.nd (pi_str (pv 0)) (blkOk_by (N := nLawNum) (sc := defScope sLawNum) (by decide +kernel))
          (fun _ _ _ _ _ => pg_name (i := 1) scLawNum.nd rfl (Or.inl rfl)) (fun _ _ _ _ _ => pts_one (pt_cmpR op_notInS (pv 1) pe_str (by rfl))) (fun _ _ _ _ _ => pv 1)) (pe_lst pa_nil) (nomark _)))))) (pss_one (ps_ret (pe_lst pa_nil))) pss_nil)
      (pss_one (ps_ret (pe_ifExp (PW.pt (pw_or (pt_cmpR op_eq (pv 0) pe_str (nomark _)) (pw_or1 (pt_cmpR op_ne (pe_ix ix_seq (pv 0) pe_int (fun _ _ => rfl)) pe_str (nomark _)))))
        (pe_lst (pa_cons (pe_callTy call_int_str (by rfl) mi PyProof.Rows.boot_int (pa_cons (pv 0) pa_nil)) pa_nil)) (pe_lst pa_nil)))), ?_⟩
    have none_ : ∀ {H1 : Hp}, Same H H1 → lnum x = [] → ([] : List V).length ≤ sizeLine ∧ ∀ p, H1 p = none → Q (.ref p) (upd H1 p (.lst ([] : List V))) := fun {H1} s1 e =>
      ⟨by show 0 ≤ sizeLine; decide, fun p hp => k p _ (s1.trans (same_upd hp)) (by rw [upd_same, e]; rfl)⟩
    have e12 : (12 : Int) = ((12 : Nat) : Int) := rfl
    refine ⟨_, rfl, rfl, _, rfl, ite2 (fun e1 => ?_) (fun e1 => ?_)⟩
    · refine none_ (fun _ _ z => z) (lnum_short ?_)
      have z := V.str.inj (of_decide_eq_true e1)
      rw [z]
      decide +kernel
    have z1 : 0 < x.length := by
      refine Nat.pos_of_ne_zero fun z => e1 (decide_eq_true (congrArg V.str ?_))
      have e0 : Str.ofString "" = ⟨#[]⟩ := by decide +kernel
      rw [e0]
      cases x with
      | mk cps => exact congrArg Str.mk (Array.eq_empty_of_size_eq_zero z)
    refine ⟨_, rfl, x, rfl, Nat.le_of_lt (small1000 (by omega)), _, _, rfl, rfl, _, rfl, ite2 (fun e2 => ?_) (fun e2 => ?_)⟩
    · refine none_ (fun _ _ z => z) (lnum_short ?_)
      unfold digsOk
      rw [decide_eq_false (show ¬ x.length ≤ 12 from fun z => by have := of_decide_eq_true e2; omega), Bool.and_false, Bool.false_and]
    have z2 : x.length ≤ 12 := Nat.le_of_not_lt fun z => e2 (decide_eq_true (by omega))
    have ed : digsOk x = x.cps.toList.all isDig := by
      unfold digsOk
      rw [decide_eq_true z1, decide_eq_true z2]
      rfl
    refine ⟨_, rfl, x, rfl, fun D nD => lc_it (walk_str (z := x)) (fun j H3 => SameX [D] H H3 ∧ H3 D = some (.lst ((((x.cps.toList.take j).filter fun c => !isDig c).map sgS).map V.str))) ⟨sameX_upd List.mem_cons_self, upd_same⟩ (fun _ _ _ _ => trivial) ?_ ?_⟩
    · rintro j v H3 H3' hj ⟨s3, hD⟩ ⟨rfl, c, hc, rfl⟩
      have hc2 : x.cps.toList[j]? = some c := by
        rw [← hc]
        exact Array.getElem?_toList
      refine ⟨rfl, _, rfl, c, _, rfl, rfl, _, rfl, ?_⟩
      rw [show decide (c ∈ (Str.ofString "0123456789").cps.toList) = isDig c from mem_digs c]
      have ef : (x.cps.toList.take (j + 1)).filter (fun c => !isDig c) = (x.cps.toList.take j).filter (fun c => !isDig c) ++ (if (!isDig c) = true then [c] else []) := by
        rw [take_snoc hc2, List.filter_append, List.filter_cons, List.filter_nil]
      cases hk : (!isDig c) with
      | true =>
        rw [hk] at ef
        refine iteT ⟨_, rfl, _, hD, small1000 ?_, s3.trans (sameX_upd List.mem_cons_self), ?_⟩
        · rw [List.length_map, List.length_map]
          have h1 := List.length_filter_le (fun c => !isDig c) (x.cps.toList.take j)
          rw [List.length_take, sgn_len] at h1
          omega
        · rw [upd_same, ef, List.map_append, List.map_append]
          rfl
      | false =>
        rw [hk] at ef
        refine iteF ⟨s3, ?_⟩
        rw [hD, ef]
        exact congrArg _ (congrArg _ (by simp))
    · rintro H3 ⟨s3, hD⟩
      have eT : x.cps.toList.take x.cps.size = x.cps.toList := List.take_of_length_le (by rw [Array.length_toList]; exact Nat.le_refl _)
      rw [eT] at hD
      have s0 : Same H H3 := fun c o e => s3 c o (fun y => ne_of_none e nD (List.mem_singleton.mp y)) e
      have call : ((x.cps.toList.filter fun c => !isDig c).all fun c => decide (c < 1114112)) = true := by
        rw [List.all_eq_true] at cx ⊢
        exact fun c hc => cx c (List.mem_filter.mp hc).1
      refine ⟨by show 0 ≤ sizeLine; decide, fun t nt => ⟨_, .list [], .lst (SqL.of (same_upd nt _ _ hD)) (dps_strs _), .lst (SqL.of upd_same) .nil, shaped_sgs call, shaped_nilL, _, rfl, ?_⟩⟩
      rw [eqv_nil]
      have ee : (((x.cps.toList.filter fun c => !isDig c).map sgS)).isEmpty = x.cps.toList.all isDig := by
        rw [Bool.eq_iff_iff, List.isEmpty_iff, List.map_eq_nil_iff, List.filter_eq_nil_iff, List.all_eq_true]
        exact ⟨fun h c hc => by simpa using h c hc, fun h c hc => by simpa using h c hc⟩
      rw [ee, ← ed]
      have st := s0.trans (same_upd (o := HO.lst ([] : List V)) nt)
      generalize upd H3 t (.lst ([] : List V)) = H4 at st ⊢
      cases hd : digsOk x with
      | false => exact iteT (none_ st (lnum_short hd))
      | true =>
        refine iteF ?_
        have one_ : leadOk x = true → ∃ (n : Int), intText? x = some n ∧ x.length ≤ 640 ∧ ([V.int n].length ≤ sizeLine ∧ ∀ p, H4 p = none → Q (.ref p) (upd H4 p (.lst [V.int n]))) := fun e =>
          ⟨_, int_digs hd, by omega, by show 1 ≤ sizeLine; decide, fun p hp => k p _ (st.trans (same_upd hp)) (by
            rw [upd_same]
            unfold lnum
            rw [hd, e]
            rfl)⟩
        obtain ⟨c, hc⟩ : ∃ c, x.cps.toList[0]? = some c := ⟨x.cps.toList[0]'(by rw [Array.length_toList]; exact z1), List.getElem?_eq_getElem _⟩
        refine ⟨_, rfl, rfl, _, rfl, ite2 (fun g1 => ?_) (fun g1 => ?_)⟩
        · obtain ⟨n, q1, q2, q3⟩ := one_ (by
            unfold leadOk
            rw [g1]
            rfl)
          exact iteT ⟨_, rfl, x, n, rfl, q1, q2, q3⟩
        · have g1' : decide (V.str x = V.str (Str.ofString "0")) = false := by simpa using g1
          have el : leadOk x = !decide (V.str (⟨#[c]⟩ : Str) = V.str (Str.ofString "0")) := by
            unfold leadOk
            rw [g1', List.head?_eq_getElem?, hc, Bool.false_or]
            refine congrArg (fun b => !b) ?_
            rw [Bool.eq_iff_iff, decide_eq_true_eq, decide_eq_true_eq]
            exact ⟨fun z => by cases z; rfl, fun z => by cases z; rfl⟩
          refine ⟨_, rfl, .inr (.inr ⟨x, 0, c, rfl, rfl, Nat.le_of_lt (small1000 (by omega)), atI_nat (j := 0) hc, rfl, _, rfl, ?_⟩)⟩
          rw [← el]
          cases hl : leadOk x with
          | true =>
            obtain ⟨n, q1, q2, q3⟩ := one_ hl
            exact iteT ⟨_, rfl, x, n, rfl, q1, q2, q3⟩
          | false =>
            refine iteF (none_ st ?_)
            unfold lnum
            rw [hl, Bool.and_false]
            rfl
end
end KV

namespace KV
open PySem PySem.Spec PyProof.Rows L2 RZ
/-! ### _law_bit_in of numbers that are not below 1 -/
abbrev sBitIn : Stmt := topS 113
def lbit (x : Str) : List Nat := (numIn x 1).toList
theorem lbit_eq (x : Str) : (lnum x).filter (fun n => decide (0 < n)) = lbit x := by
  unfold lbit lnum numIn
  cases h : digsOk x && leadOk x with
  | false => simp
  | true =>
    by_cases g : 1 ≤ numV x
    · have g2 : 0 < numV x := g
      simp [g, g2]
    · have g2 : ¬ 0 < numV x := g
      simp [g, g2]
theorem ifF {c : Bool} {A B : Prop} (hc : c = false) (h : B) : if c = true then A else B := by
  rw [hc, if_neg Bool.false_ne_true]
  exact h
theorem ifT {c : Bool} {A B : Prop} (hc : c = true) (h : A) : if c = true then A else B := by
  rw [if_pos hc]
  exact h
section
variable {P : Program} {w : World} {K : PySem.W.Frag} {mg : Str → Option Value} {base : Heap}
def spBitIn : Sp := fun vs H Q _ => ∃ (x : Str), vs = [.str "m", .str x] ∧ shortW x = true ∧ ∀ r H', Same H H' → H r = none → H' r = some (.lst ((lbit x).map fun n => V.int (n : Nat))) → Q (.ref r) H'
abbrev nBitIn : List Str := ["_law_kind_so", "_law_word", "_law_num", "_law_some"]
theorem op_inK7 {X : Cx} {K : PySem.W.Frag} (h : X.K = K) : OpR X (compareOp .In) (rIn K false) := by
  subst h
  exact op_in_seq
theorem scBitIn : FnScope nBitIn ["_law_kind_so", "_law_word"] (defScope sBitIn) := ⟨rfl, rfl, rfl, by decide +kernel, rfl, by decide +kernel, by decide +kernel⟩
theorem ok_bitIn {f fN : Addr} {fd fdN : FuncData} (F : Fun K "_law_bit_in" "_law_bit_in" sBitIn f fd) (GN : FnOk P w K mg base CX0 1 fN fdN ["_law_word"] spLawNum) (bN : Binds K fdN ["_law_word"] []) (mN : mg "_law_number_in" = some (.ref fN)) (kN : PySem.W.keepIn K (.ref fN) = true) :
    FnOk P w K mg base CX0 2 f fd ["_law_kind_so", "_law_word"] spBitIn := by
  refine F.ok scBitIn (fun vs H Q E h => ?_) (fun cdv A outer s H vs Q E hr h => ?_)
  · obtain ⟨x, rfl, _⟩ := h
    rfl
  · obtain ⟨x, rfl, hx, k⟩ := h
    refine ⟨_, pss_cons (ps_if (pt_cmpR (op_inK7 (K := K) rfl) (pv 0) (pe_tup (pa_cons pe_str (pa_cons pe_str (pa_cons pe_str (pa_cons pe_str (pa_cons pe_str pa_nil)))))) (by rfl)) pss_never pss_nil)
      (pss_cons (ps_if (pt_cmpR op_eq (pv 0) pe_str (nomark _)) pss_never pss_nil)
      (pss_cons (ps_if (pt_cmpR (op_inK7 (K := K) rfl) (pv 0) (pe_tup (pa_cons pe_str (pa_cons pe_str pa_nil))) (by rfl)) pss_never pss_nil)
      (pss_one (ps_ret (pe_lc (own := [("_law_num", 2)]) (g := gName 2) rfl scBitIn.nd (pi_list (pe_call GN hr (by rfl) mN kN bN .nil pass0 (pa_cons (pv 1) pa_nil))) (blkOk_by (N := nBitIn) (sc := defScope sBitIn) (by decide +kernel))
        (fun _ _ _ _ _ => pg_name (i := 2) scBitIn.nd rfl (Or.inl rfl)) (fun _ _ _ _ _ => pts_one (PW.pt (pw_or (pt_cmpR op_gt (pv 2) pe_int (nomark _)) (pw_or1 (pt_cmpR op_eq (pv 0) pe_str (nomark _)))))) (fun _ _ _ _ _ => pv 2)))))), ?_⟩
    refine ⟨_, rfl, by show 5 ≤ sizeLine; decide, fun t1 ht1 => ⟨t1, _, rfl, .inr (SqT.of upd_same), rfl, rfl, _, rfl, ifF (by decide +kernel) ?_⟩⟩
    have s1 := same_upd (o := HO.tup [V.str (Str.ofString "n"), V.str (Str.ofString "i"), V.str (Str.ofString "t"), V.str (Str.ofString "l"), V.str (Str.ofString "o")]) ht1
    generalize upd H t1 _ = H1 at s1 ⊢
    refine ⟨_, rfl, rfl, _, rfl, ifF (by decide +kernel) ?_⟩
    refine ⟨_, rfl, by show 2 ≤ sizeLine; decide, fun t2 ht2 => ⟨t2, _, rfl, .inr (SqT.of upd_same), rfl, rfl, _, rfl, ifF (by decide +kernel) ?_⟩⟩
    have s2 := s1.trans (same_upd (o := HO.tup [V.str (Str.ofString "b"), V.str (Str.ofString "g")]) ht2)
    generalize upd H1 t2 _ = H2 at s2 ⊢
    refine ⟨_, rfl, x, rfl, hx, fun r H3 s3 hr3 => ⟨r, rfl, ⟨_, SqL.of hr3⟩, fun D nD => lc_it (walk_list (xs := (lnum x).map fun n => V.int (n : Nat)))
      (fun j H9 => SameX [D] H3 H9 ∧ H9 D = some (.lst ((((lnum x).take j).filter fun n => decide (0 < n)).map fun n => V.int (n : Nat)))) ⟨sameX_upd List.mem_cons_self, upd_same⟩
      (fun j H9 _ h => SqL.of (h.1 r _ (fun z => ne_of_none hr3 nD (List.mem_singleton.mp z)) hr3)) ?_ ?_⟩⟩
    · rintro j v H9x H9 hj ⟨s9, hD⟩ ⟨rfl, hv⟩
      obtain ⟨n, hn, rfl⟩ : ∃ n, (lnum x)[j]? = some n ∧ v = .int (n : Nat) := by
        rw [List.getElem?_map] at hv
        cases z : (lnum x)[j]? with
        | none =>
          rw [z] at hv
          cases hv
        | some n =>
          rw [z] at hv
          exact ⟨n, rfl, (Option.some.inj hv).symm⟩
      have l1 : (lnum x).length ≤ 1 := by
        unfold lnum
        split <;> simp
      have ef : ((lnum x).take (j + 1)).filter (fun n => decide (0 < n)) = ((lnum x).take j).filter (fun n => decide (0 < n)) ++ (if (decide (0 < n)) = true then [n] else []) := by
        rw [take_snoc hn, List.filter_append, List.filter_cons, List.filter_nil]
      refine ⟨rfl, _, rfl, _, _, rfl, rfl, _, rfl, ?_⟩
      cases hk : decide (0 < n) with
      | true =>
        rw [hk] at ef
        refine ifT (decide_eq_true (by have := of_decide_eq_true hk; omega)) ?_
        refine iteT ⟨_, rfl, _, hD, small1000 ?_, s9.trans (sameX_upd List.mem_cons_self), ?_⟩
        · rw [List.length_map]
          have h1 := List.length_filter_le (fun n => decide (0 < n)) ((lnum x).take j)
          rw [List.length_take] at h1
          omega
        · rw [upd_same, ef, List.map_append]
          rfl
      | false =>
        rw [hk] at ef
        refine ifF (decide_eq_false (by have := of_decide_eq_false hk; omega)) ?_
        refine ⟨_, rfl, rfl, _, rfl, ifF (by decide +kernel) ⟨s9, ?_⟩⟩
        rw [hD, ef]
        exact congrArg _ (congrArg _ (by simp))
    · rintro H9 ⟨s9, hD⟩
      rw [List.length_map, List.take_of_length_le (Nat.le_refl _), lbit_eq] at hD
      have s39 : Same H3 H9 := fun b o e => s9 b o (fun z => ne_of_none e nD (List.mem_singleton.mp z)) e
      exact k D H9 ((s2.trans s3).trans s39) ((s2.trans s3).free nD) hD
end
end KV

namespace KV
open PySem PySem.Spec PyProof.Rows L2 RZ
/-! ### _law_setups_in -/
abbrev sSetupsIn : Stmt := topS 117
/-- the setups that a row of words writes, as the law reads them -/
def allS (ws : List Str) : List PyData :=
  if isW "ring" ws[0]? && isW "pipes" ws[3]? && decide (5 ≤ ws.length) then
    match ws[1]?.bind (fun x => numIn x 1), ws[2]?.bind (fun x => numIn x 1) with
    | some a, some b => ((List.range (ws.drop 4).length).filter (okAt a b (ws.drop 4))).map (mkS a b (ws.drop 4))
    | _, _ => []
  else []
theorem find_filter {α : Type} (p : α → Bool) : ∀ l : List α, l.find? p = (l.filter p).head?
  | [] => rfl
  | a :: l => by
    rw [List.find?_cons, List.filter_cons]
    cases h : p a with
    | true => simp
    | false => simpa using find_filter p l
theorem allS_head (ws : List Str) : (allS ws).head? = readS ws := by
  unfold allS readS
  cases h0 : isW "ring" ws[0]? with
  | false => simp
  | true =>
    cases ha : (ws[1]?.bind fun x => numIn x 1) with
    | none => simp
    | some a =>
      cases hb : (ws[2]?.bind fun x => numIn x 1) with
      | none => simp
      | some b =>
        cases h3 : isW "pipes" ws[3]? with
        | false => simp
        | true =>
          by_cases h5 : 5 ≤ ws.length
          · simp only [Bool.and_self, decide_eq_true h5, if_true]
            unfold firstS
            rw [find_filter, List.head?_map]
          · have e : ws.drop 4 = [] := List.drop_of_length_le (by omega)
            simp only [Bool.and_self, decide_eq_false h5, Bool.and_false, if_true, e]
            rfl
theorem cutV_mid (ws : List Str) {i j : Nat} (hi : i ≤ ws.length) (hj : j ≤ ws.length) : cutV (ws.map V.str) (some (i : Int)) (some (j : Int)) = ((ws.drop i).take (j - i)).map V.str := by
  unfold cutV
  rw [HT.sIx_nat, HT.sIx_nat, List.length_map, ← List.map_drop, ← List.map_take, Nat.min_eq_left hi, Nat.min_eq_left hj]
def bitD (x : Str) : PyData := .list ((lbit x).map fun n => PyData.int (n : Nat))
theorem dps_ints {K : PySem.W.Frag} {H : Hp} : ∀ l : List Nat, DpAll K H (l.map fun n => V.int (n : Nat)) (l.map fun n => PyData.int (n : Nat))
  | [] => .nil
  | n :: l => .cons (.int _) (dps_ints l)
/-- the numbers, and whether both are there -/
def both (x1 x2 : Str) : Bool := (numIn x1 1).isSome && (numIn x2 1).isSome
def num0 (x : Str) : Nat := (numIn x 1).getD 0
theorem lbit_some {x : Str} (h : (numIn x 1).isSome = true) : lbit x = [num0 x] := by
  unfold lbit num0
  cases e : numIn x 1 with
  | none =>
    rw [e] at h
    cases h
  | some n => rfl
theorem lbit_empty (x : Str) : PyData.eqv (bitD x) (.list []) = !(numIn x 1).isSome := by
  unfold bitD lbit
  cases numIn x 1 with
  | none => simp [PyData.eqv, PyData.eqvAll]
  | some n => simp [PyData.eqv, PyData.eqvAll]
theorem allS_eq {W : List Str} {x1 x2 : Str} (c0 : isW "ring" W[0]? = true) (c3 : isW "pipes" W[3]? = true) (h5 : 5 ≤ W.length) (w1 : W[1]? = some x1) (w2 : W[2]? = some x2) :
    allS W = ((List.range (W.drop 4).length).filter (fun j => both x1 x2 && okAt (num0 x1) (num0 x2) (W.drop 4) j)).map (mkS (num0 x1) (num0 x2) (W.drop 4)) := by
  unfold allS both num0
  rw [c0, c3, decide_eq_true h5, w1, w2]
  cases e1 : numIn x1 1 with
  | none => simp [e1]
  | some a =>
    cases e2 : numIn x2 1 with
    | none => simp [e1, e2]
    | some b => simp [e1, e2]
theorem lay_ints : ∀ l : List Nat, PyData.canLayAll0 (l.map fun n => PyData.int (n : Nat)) = true
  | [] => by simp [PyData.canLayAll0]
  | n :: l => by simp [PyData.canLayAll0, PyData.canLay0, lay_ints l]
theorem dep_ints : ∀ l : List Nat, PyData.depthAll (l.map fun n => PyData.int (n : Nat)) = 0
  | [] => by simp [PyData.depthAll]
  | n :: l => by simp [PyData.depthAll, PyData.depth, dep_ints l]
theorem lay_bits (x1 x2 : Str) : PyData.canLayAll0 [bitD x1, bitD x2] = true := by
  simp [PyData.canLayAll0, PyData.canLay0, bitD, lay_ints]
theorem dep_bits (x1 x2 : Str) : PyData.depthAll [bitD x1, bitD x2] ≤ 60 := by
  simp [PyData.depthAll, PyData.depth, bitD, dep_ints]
theorem any_bits (x1 x2 : Str) : (!([bitD x1, bitD x2].any fun z => PyData.eqv z (.list []))) = both x1 x2 := by
  simp only [List.any_cons, List.any_nil, lbit_empty, both, Bool.or_false]
  cases (numIn x1 1).isSome <;> cases (numIn x2 1).isSome <;> rfl
theorem op_notInL2 {X : Cx} {K : PySem.W.Frag} (hK : X.K = K) (hu : X.A.units + 64 < cLine) : OpR X (compareOp .NotIn) (fun x y H Q => ∃ d ds, Dp K H x d ∧ Dp K H y (.list ds) ∧ PyData.canLayAll0 ds = true ∧ d.canLay0 = true ∧ PyData.depthAll ds ≤ 60 ∧ Q (.bl (!ds.any fun z => PyData.eqv z d)) H) := by
  subst hK
  intro pins s σ H x y v u Q I rx ry h
  obtain ⟨d, ds, hd, he, c1, c2, d0, q⟩ := h
  obtain ⟨as, r1⟩ := Dp.reads I d x v hd rx
  obtain ⟨bs, r2⟩ := Dp.reads I (.list ds) y u he ry
  refine SeqAt.notIn_list_reads r2 r1 c1 c2 ?_ ⟨.bl _, H, I, rfl, q⟩
  have := Nat.min_le_left (PyData.depthAll ds) d.depth
  omega
section
variable {P : Program} {w : World} {K : PySem.W.Frag} {mg : Str → Option Value} {base : Heap}
def spSetupsIn (K : PySem.W.Frag) : Sp := fun vs H Q _ => ∃ (a : Str), vs = [.str a] ∧ a.length ≤ 100000 ∧ (Txt.split a " ").length ≤ 100 ∧ (∀ x ∈ Txt.split a " ", shortW x = true) ∧
  ∀ r xs H', Same H H' → H' r = some (.lst xs) → DpAll K H' xs (allS (Txt.split a " ")) → Q (.ref r) H'
abbrev nSetupsIn : List Str := ["_law_line", "_law_words", "_law_found", "_law_nums", "_law_at", "_law_slots_so", "_law_some", "_law_word"]
theorem scSetupsIn : FnScope nSetupsIn ["_law_line"] (defScope sSetupsIn) := ⟨rfl, rfl, rfl, by decide +kernel, rfl, by decide +kernel, by decide +kernel⟩
theorem ok_setupsIn {f fB fS : Addr} {fd fdB fdS : FuncData} (F : Fun K "_law_setups_in" "_law_setups_in" sSetupsIn f fd)
    (GB : FnOk P w K mg base CX0 2 fB fdB ["_law_kind_so", "_law_word"] spBitIn) (bB : Binds K fdB ["_law_kind_so", "_law_word"] []) (mB : mg "_law_bit_in" = some (.ref fB)) (kB : PySem.W.keepIn K (.ref fB) = true)
    (GS : FnOk P w K mg base CX0 5 fS fdS ["_law_matter"] (spIsSetup K)) (bS : Binds K fdS ["_law_matter"] []) (mS : mg "_law_is_setup" = some (.ref fS)) (kS : PySem.W.keepIn K (.ref fS) = true)
    (ml : mg "len" = none) (mr : mg "range" = none) (mt : mg "tuple" = none) (mi : mg "int" = none) : FnOk P w K mg base CX0 6 f fd ["_law_line"] (spSetupsIn K) := by
  refine F.ok scSetupsIn (fun vs H Q E h => ?_) (fun cdv A outer s H vs Q E hr h => ?_)
  · obtain ⟨a, rfl, _⟩ := h
    rfl
  · obtain ⟨a, rfl, la, lw, hw, k⟩ := h
    have hr2 := hr.mono (by decide : 2 ≤ 5)
    refine ⟨_, pss_cons (ps_par (i := 1) (j := 2) (by rfl) scSetupsIn.nd rfl rfl (by decide) rfl rfl (pa_cons (pe_split (pv 0) pe_str) (pa_cons (pe_lst pa_nil) pa_nil)) (by rfl))
      (pss_cons (ps_if (PW.pt (pw_or (pt_cmpR op_lt (pe_callB call_len_seq (by rfl) ml PySem.boot_len (pa_cons (pv 1) pa_nil)) pe_int (nomark _)) (pw_or (pt_cmpR op_ne (pe_ix ix_seq (pv 1) pe_int (fun _ _ => rfl)) pe_str (nomark _)) (pw_or1 (pt_cmpR op_ne (pe_ix ix_seq (pv 1) pe_int (fun _ _ => rfl)) pe_str (nomark _)))))) (pss_one (ps_ret (pe_lst pa_nil))) pss_nil)
      (pss_cons (ps_setLc (i := 3) (own := [("_law_word", 7)]) (g := gName 7) (tt := tYes) rfl scSetupsIn.nd rfl rfl (sw_true rfl rfl rfl (by decide +kernel)) (pi_list (pe_slice sl_list (pv 1) (po_some pe_int) (po_some pe_int))) (blkOk_by (N := nSetupsIn) (sc := defScope sSetupsIn) (by decide +kernel))
          (fun _ _ _ _ _ => pg_name (i := 7) scSetupsIn.nd rfl (Or.inl rfl)) (fun _ _ _ _ _ => pts_nil) (fun _ _ _ _ _ => pe_call GB hr2 (by rfl) mB kB bB .nil pass0 (pa_cons pe_str (pa_cons (pv 7) pa_nil))))
      (pss_cons (ps_for PassesOwn.never rfl (pi_range2 (by rfl) mr (pa_cons pe_int (pa_cons (pe_callB call_len_seq (by rfl) ml PySem.boot_len (pa_cons (pv 1) pa_nil)) pa_nil))) (pg_name (i := 4) scSetupsIn.nd rfl (by first | exact .inl rfl | exact .inr rfl))
        (pss_one (ps_if (PW.pt (pw_and (pt_cmpR op_eq (pe_ix ix_seq (pv 1) (pv 4) (fun _ _ => rfl)) pe_str (nomark _)) (pw_and1 (pt_cmpR (op_notInL2 (K := K) rfl hr.units) (pe_lst pa_nil) (pv 3) (by rfl)))))
          (pss_cons (ps_set (i := 5) scSetupsIn.nd rfl (by first | exact .inl rfl | exact .inr rfl) (pe_callTy call_tuple_of (by rfl) mt PyProof.Rows.boot_tuple (pa_cons (pe_lc (own := [("_law_word", 7)]) (g := gName 7) (tt := tYes) rfl scSetupsIn.nd (pi_list (pe_slice sl_list (pv 1) (po_some (pe_op op_add (pv 4) pe_int)) po_none)) (blkOk_by (N := nSetupsIn) (sc := defScope sSetupsIn) (by decide +kernel))
              (fun _ _ _ _ _ => pg_name (i := 7) scSetupsIn.nd rfl (Or.inl rfl)) (fun _ _ _ _ _ => pts_nil) (fun _ _ _ _ _ => pe_ifExp (pt_cmpR op_eq (pv 7) pe_str (nomark _)) pe_non (pv 7))) pa_nil)))
          (pss_cons (ps_set (i := 6) scSetupsIn.nd rfl (by first | exact .inl rfl | exact .inr rfl) (pe_tup (pa_cons (pe_ix ix_seq (pe_ix ix_seq (pv 3) pe_int (fun _ _ => rfl)) pe_int (fun _ _ => rfl)) (pa_cons (pe_ix ix_seq (pe_ix ix_seq (pv 3) pe_int (fun _ _ => rfl)) pe_int (fun _ _ => rfl)) (pa_cons (pe_callTy call_tuple_of (by rfl) mt PyProof.Rows.boot_tuple (pa_cons (pe_slice sl_list (pv 1) (po_some pe_int) (po_some (pv 4))) pa_nil)) (pa_cons (pv 5) pa_nil))))))
          (pss_one (ps_set (i := 2) scSetupsIn.nd rfl (by first | exact .inl rfl | exact .inr rfl) (pe_op op_cat (pv 2) (pe_op op_rep (pe_lst (pa_cons (pv 6) pa_nil)) (pe_callTy call_int1 (by rfl) mi PyProof.Rows.boot_int (pa_cons (pe_call GS hr (by rfl) mS kS bS .nil pass0 (pa_cons (pv 6) pa_nil)) pa_nil))))))))
          pss_nil)))
      (pss_one (ps_ret (pv 2)))))), ?_⟩
    generalize hW : Txt.split a " " = W at lw hw k
    refine seq_gen (P := fun σ' H1 => ∃ l q, σ' = [some (.str a), some (.ref l), some (.ref q), none, none, none, none, none] ∧ Same H H1 ∧ H1 l = some (.lst (W.map V.str)) ∧ H1 q = some (.lst [])) (fun N hN => ?_) ?_
    · refine ⟨_, rfl, ⟨a, rfl⟩, a, _, rfl, rfl, by decide +kernel, Nat.le_trans (by omega : a.length + 2 ≤ 100002) (by rw [sizeLine_eq]; decide), fun l hl => ?_⟩
      rw [hW]
      obtain ⟨s1, h1⟩ := lst_new (xs := W.map V.str) hl
      refine ⟨by show 0 ≤ sizeLine; decide, fun q hq => ⟨_, _, rfl, hN _ _ ⟨l, q, rfl, s1.trans (same_upd hq), same_upd hq _ _ h1, upd_same⟩⟩⟩
    rintro _ H1 ⟨l, q, rfl, s1, hl, hq⟩
    have none_ : allS W = [] → ([] : List V).length ≤ sizeLine ∧ ∀ p, H1 p = none → Q (.ref p) (upd H1 p (.lst ([] : List V))) := fun e =>
      ⟨by show 0 ≤ sizeLine; decide, fun p hp => k p _ _ (s1.trans (same_upd hp)) upd_same (by rw [e]; exact .nil)⟩
    refine seq_gen (P := fun σ' H2 => σ' = [some (.str a), some (.ref l), some (.ref q), none, none, none, none, none] ∧ H2 = H1 ∧ isW "ring" W[0]? = true ∧ isW "pipes" W[3]? = true ∧ 5 ≤ W.length) (fun N hN => ?_) ?_
    · refine ⟨_, rfl, l, _, rfl, .inl (SqL.of hl), _, _, rfl, rfl, _, rfl, ite2 (fun e => ?_) (fun e => ?_)⟩
      · refine none_ ?_
        have z : ¬ 5 ≤ W.length := fun z => by
          have := of_decide_eq_true e
          rw [List.length_map] at this
          omega
        unfold allS
        rw [decide_eq_false z, Bool.and_false]
        rfl
      have h5 : 5 ≤ W.length := by
        refine Nat.le_of_not_lt fun z => e (decide_eq_true ?_)
        rw [List.length_map]
        omega
      have w0 : W[0]? = some W[0] := List.getElem?_eq_getElem _
      have w3 : W[3]? = some W[3] := List.getElem?_eq_getElem _
      refine ⟨_, rfl, .inl ⟨l, W.map V.str, 0, .str W[0], rfl, rfl, SqL.of hl, atI_nat (j := 0) (by rw [List.getElem?_map, w0]; rfl), rfl, _, rfl, ite2 (fun e0 => ?_) (fun e0 => ?_)⟩⟩
      · refine none_ ?_
        have z : isW "ring" W[0]? = false := by
          rw [w0]
          show decide (V.str W[0] = V.str (Str.ofString "ring")) = false
          simpa using e0
        unfold allS
        rw [z]
        rfl
      refine ⟨_, rfl, .inl ⟨l, W.map V.str, 3, .str W[3], rfl, rfl, SqL.of hl, atI_nat (j := 3) (by rw [List.getElem?_map, w3]; rfl), rfl, _, rfl, ite2 (fun e3 => ?_) (fun e3 => ?_)⟩⟩
      · refine none_ ?_
        have z : isW "pipes" W[3]? = false := by
          rw [w3]
          show decide (V.str W[3] = V.str (Str.ofString "pipes")) = false
          simpa using e3
        unfold allS
        rw [z, Bool.and_false]
        rfl
      refine hN _ _ ⟨rfl, rfl, ?_, ?_, h5⟩
      · rw [w0]
        show decide (V.str W[0] = V.str (Str.ofString "ring")) = true
        simpa using e0
      · rw [w3]
        show decide (V.str W[3] = V.str (Str.ofString "pipes")) = true
        simpa using e3
    rintro _ H2 ⟨rfl, rfl, c0, c3, h5⟩
    have w1 : W[1]? = some W[1] := List.getElem?_eq_getElem _
    have w2 : W[2]? = some W[2] := List.getElem?_eq_getElem _
    have hx1 := hw W[1] (List.getElem_mem _)
    have hx2 := hw W[2] (List.getElem_mem _)
    generalize hU1 : W[1] = x1 at w1 hx1
    generalize hU2 : W[2] = x2 at w2 hx2
    have eU : (W.drop 1).take (3 - 1) = [x1, x2] := by
      have d1 : W.drop 1 = x1 :: W.drop 2 := by rw [← hU1]; exact List.drop_eq_getElem_cons (by omega)
      have d2 : W.drop 2 = x2 :: W.drop 3 := by rw [← hU2]; exact List.drop_eq_getElem_cons (by omega)
      rw [d1, d2]
      rfl
    refine seq_gen (P := fun σ' H3 => ∃ D r1 r2, σ' = [some (.str a), some (.ref l), some (.ref q), some (.ref D), none, none, none, none] ∧ Same H2 H3 ∧ H3 D = some (.lst [.ref r1, .ref r2]) ∧ H3 r1 = some (.lst ((lbit x1).map fun n => V.int (n : Nat))) ∧ H3 r2 = some (.lst ((lbit x2).map fun n => V.int (n : Nat)))) (fun N hN => ?_) ?_
    · refine ⟨_, rfl, _, rfl, _, rfl, l, _, rfl, SqL.of hl, fun c hc => ?_⟩
      have ec : cutV (W.map V.str) (some (1 : Int)) (some (3 : Int)) = [x1, x2].map V.str := by
        rw [← eU]
        exact cutV_mid W (i := 1) (j := 3) (by omega) (by omega)
      rw [ec]
      obtain ⟨s2, h2⟩ := lst_new (xs := [x1, x2].map V.str) hc
      generalize upd H2 c _ = H3 at s2 h2 ⊢
      refine ⟨c, rfl, ⟨_, SqL.of h2⟩, fun D nD => lc_it (walk_list (xs := [x1, x2].map V.str)) (fun j H9 => SameX [D] H3 H9 ∧ ∃ rs : List Addr, rs.length = j ∧ H9 D = some (.lst (rs.map V.ref)) ∧ ∀ (i : Nat) (x : Str) (r : Addr), [x1, x2][i]? = some x → rs[i]? = some r → r ≠ D ∧ H9 r = some (.lst ((lbit x).map fun n => V.int (n : Nat))))
        ⟨sameX_upd List.mem_cons_self, [], rfl, upd_same, fun i x r _ z => by cases i <;> cases z⟩ (fun j H9 _ h => SqL.of (h.1 c _ (fun z => ne_of_none h2 nD (List.mem_singleton.mp z)) h2)) ?_ ?_⟩
      · rintro j v H9x H9 hj ⟨s9, rs, lr, hD, hrs⟩ ⟨rfl, hv⟩
        obtain ⟨x, hx, rfl⟩ : ∃ x, [x1, x2][j]? = some x ∧ v = .str x := by
          rw [List.getElem?_map] at hv
          cases z : ([x1, x2])[j]? with
          | none =>
            rw [z] at hv
            cases hv
          | some x =>
            rw [z] at hv
            exact ⟨x, rfl, (Option.some.inj hv).symm⟩
        have hsx : shortW x = true := by
          rcases List.mem_cons.mp (List.mem_of_getElem? hx) with e | e
          · rw [e]; exact hx1
          · rw [List.mem_singleton.mp e]; exact hx2
        refine ⟨rfl, tYes_ok ⟨_, rfl, x, rfl, hsx, fun r H10 s10 nr hr10 => ?_⟩⟩
        have hD10 := s10 _ _ hD
        have nrD : r ≠ D := fun z => by rw [z, hD] at nr; cases nr
        refine ⟨_, hD10, small1000 (by rw [List.length_map, lr]; have : j < 2 := hj; omega), (s9.trans (SameX.of s10)).trans (sameX_upd List.mem_cons_self), rs ++ [r], by rw [List.length_append, lr]; rfl, by rw [upd_same, List.map_append]; rfl, fun i y r' hy hr' => ?_⟩
        by_cases hi : i < rs.length
        · rw [List.getElem?_append_left hi] at hr'
          obtain ⟨n1, n2⟩ := hrs i y r' hy hr'
          exact ⟨n1, by rw [upd_ne n1]; exact s10 _ _ n2⟩
        · have hi2 : i = j := by
            have := (List.getElem?_eq_some_iff.mp hr').1
            rw [List.length_append] at this
            simp only [List.length_cons, List.length_nil] at this
            omega
          rw [List.getElem?_append_right (by omega), hi2, lr, Nat.sub_self] at hr'
          cases hr'
          rw [hi2, hx] at hy
          cases hy
          exact ⟨nrD, by rw [upd_ne nrD]; exact hr10⟩
      · rintro H9 ⟨s9, rs, lr, hD, hrs⟩
        have s39 : Same H3 H9 := fun b o e => s9 b o (fun z => ne_of_none e nD (List.mem_singleton.mp z)) e
        match rs, lr, hD, hrs with
        | [r1, r2], _, hD, hrs => exact hN _ _ ⟨D, r1, r2, rfl, s2.trans s39, hD, (hrs 0 x1 r1 rfl rfl).2, (hrs 1 x2 r2 rfl rfl).2⟩
    rintro _ H3 ⟨D, r1, r2, rfl, s3, hD, hr1, hr2'⟩
    have eA := allS_eq c0 c3 h5 w1 w2
    have hwr : ∀ x ∈ W.drop 4, shortW x = true := fun x hx => hw x (List.mem_of_mem_drop hx)
    have lR : (W.drop 4).length = W.length - 4 := List.length_drop
    have gR : ∀ i, (W.drop 4)[i]? = W[4 + i]? := fun i => List.getElem?_drop
    have tR : ∀ i, 4 + i ≤ W.length → ((W.drop 4).take ((4 + i) - 4)) = (W.drop 4).take i := fun i _ => by rw [Nat.add_sub_cancel_left]
    have dR : ∀ i, W.drop (4 + i + 1) = (W.drop 4).drop (i + 1) := fun i => by rw [List.drop_drop, Nat.add_assoc]
    generalize hR : W.drop 4 = R at eA hwr lR gR tR dR
    refine seq_gen (P := fun σ' H9 => ∃ x4 x5 x6 g acc, σ' = [some (.str a), some (.ref l), some (.ref g), some (.ref D), x4, x5, x6, none] ∧ Same H3 H9 ∧ H9 g = some (.lst acc) ∧ DpAll K H9 acc (allS W)) (fun N hN => ?_) ?_
    · have hl3 := s3 _ _ hl
      refine ⟨_, rfl, l, _, rfl, .inl (SqL.of hl3), ?_⟩
      have eJ : (((W.map V.str).length : Int) - 4).toNat = R.length := by
        rw [List.length_map, lR]
        omega
      refine ⟨4, ((W.map V.str).length : Int), rfl, ⟨by decide, by decide, by rw [List.length_map]; omega, ?_⟩, for_range (lo := 4) (n := (((W.map V.str).length : Int) - 4).toNat)
        (fun i σ H' => ∃ x4 x5 x6 g acc, σ = [some (.str a), some (.ref l), some (.ref g), some (.ref D), x4, x5, x6, none] ∧ Same H3 H' ∧ H' g = some (.lst acc) ∧ DpAll K H' acc (((List.range i).filter (fun j => both x1 x2 && okAt (num0 x1) (num0 x2) R j)).map (mkS (num0 x1) (num0 x2) R)))
        ⟨none, none, none, q, [], rfl, fun _ _ z => z, s3 _ _ hq, .nil⟩ ?_ ?_⟩
      · rw [List.length_map]
        have : (W.length : Int) ≤ 100 := by omega
        exact Int.lt_of_le_of_lt this (by decide)
      · rintro i σ H7 hi ⟨x4, x5, x6, g, acc, rfl, s7, hg, hacc⟩
        rw [eJ] at hi
        have hl7 := s7 _ _ hl3
        have hD7 := s7 _ _ hD
        have e4 : (4 : Int) + (i : Int) = ((4 + i : Nat) : Int) := by omega
        rw [e4]
        have hRi : R[i]? = some R[i] := List.getElem?_eq_getElem hi
        have hWi : W[4 + i]? = some R[i] := (gR i).symm.trans hRi
        have lacc : acc.length ≤ 100 := by
          rw [dps_len hacc, List.length_map]
          have := List.length_filter_le (fun j => both x1 x2 && okAt (num0 x1) (num0 x2) R j) (List.range i)
          rw [List.length_range] at this
          omega
        have stepF : (both x1 x2 && okAt (num0 x1) (num0 x2) R i) = false → ((List.range (i + 1)).filter (fun j => both x1 x2 && okAt (num0 x1) (num0 x2) R j)) = ((List.range i).filter (fun j => both x1 x2 && okAt (num0 x1) (num0 x2) R j)) := fun e => by
          rw [List.range_succ, List.filter_append]
          simp [e]
        have stepT : (both x1 x2 && okAt (num0 x1) (num0 x2) R i) = true → ((List.range (i + 1)).filter (fun j => both x1 x2 && okAt (num0 x1) (num0 x2) R j)) = ((List.range i).filter (fun j => both x1 x2 && okAt (num0 x1) (num0 x2) R j)) ++ [i] := fun e => by
          rw [List.range_succ, List.filter_append]
          simp [e]
        refine ⟨_, rfl, _, rfl, .inl ⟨l, W.map V.str, ((4 + i : Nat) : Int), .str R[i], rfl, rfl, SqL.of hl7, atI_nat (by rw [List.getElem?_map, hWi]; rfl), rfl, _, rfl, ite2 (fun e => ?_) (fun e => ?_)⟩⟩
        · refine ⟨by show 0 ≤ sizeLine; decide, fun t ht => ?_⟩
          have s8 := s7.trans (same_upd (o := HO.lst ([] : List V)) ht)
          have hg8 := same_upd (o := HO.lst ([] : List V)) ht _ _ hg
          have hacc8 := dps_same (same_upd (o := HO.lst ([] : List V)) ht) hacc
          have ht8 : upd H7 t (.lst ([] : List V)) t = some (.lst []) := upd_same
          generalize upd H7 t (.lst ([] : List V)) = H8 at s8 hg8 hacc8 ht8 ⊢
          have nums : Dp K H8 (.ref D) (.list [bitD x1, bitD x2]) := .lst (SqL.of (s8 _ _ hD)) (.cons (.lst (SqL.of (s8 _ _ hr1)) (dps_ints _)) (.cons (.lst (SqL.of (s8 _ _ hr2')) (dps_ints _)) .nil))
          refine ⟨_, rfl, .list [], _, .lst (SqL.of ht8) .nil, nums, lay_bits x1 x2, by decide +kernel, dep_bits x1 x2, _, rfl, ?_⟩
          rw [any_bits]
          refine ite2 (fun hb => ?_) (fun hb => ?_)
          · have hl8 := s8 _ _ hl3
            refine seq_gen (P := fun σ' H9 => ∃ u, σ' = [some (.str a), some (.ref l), some (.ref g), some (.ref D), some (.int ((4 + i : Nat) : Int)), some u, x6, none] ∧ Same H8 H9 ∧ Dp K H9 u (.tuple ((R.drop (i + 1)).map dashD))) (fun N2 hN2 => ?_) ?_
            · refine ⟨_, rfl, _, rfl, _, _, rfl, rfl, _, rfl, l, _, rfl, SqL.of hl8, fun c hc => ?_⟩
              have ec : cutV (W.map V.str) (some (((4 + i : Nat) : Int) + 1)) none = (R.drop (i + 1)).map V.str := by
                rw [← dR i]
                exact cutV_from W (4 + i + 1)
              rw [ec]
              generalize hU : R.drop (i + 1) = U at hN2 ⊢
              obtain ⟨s9, h9⟩ := lst_new (xs := U.map V.str) hc
              generalize upd H8 c _ = H9 at s9 h9 ⊢
              have lU : U.length ≤ 100 := by
                rw [← hU, List.length_drop]
                omega
              refine ⟨c, rfl, ⟨_, SqL.of h9⟩, fun F2 nF => lc_it (walk_list (xs := U.map V.str)) (fun j H10 => SameX [F2] H9 H10 ∧ H10 F2 = some (.lst ((U.take j).map dashV))) ⟨sameX_upd List.mem_cons_self, upd_same⟩
                (fun j H10 _ h => SqL.of (h.1 c _ (fun z => ne_of_none h9 nF (List.mem_singleton.mp z)) h9)) ?_ ?_⟩
              · rintro j v H10x H10 hj ⟨s10, hD10⟩ ⟨rfl, hv⟩
                obtain ⟨x, hx, rfl⟩ : ∃ x, U[j]? = some x ∧ v = .str x := by
                  rw [List.getElem?_map] at hv
                  cases z : U[j]? with
                  | none =>
                    rw [z] at hv
                    cases hv
                  | some x =>
                    rw [z] at hv
                    exact ⟨x, rfl, (Option.some.inj hv).symm⟩
                have step : ∀ y : V, y = dashV x → (fun H10 => SameX [F2] H9 H10 ∧ H10 F2 = some (.lst ((U.take (j + 1)).map dashV))) (upd H10 F2 (.lst ((U.take j).map dashV ++ [y]))) := fun y ey =>
                  ⟨s10.trans (sameX_upd List.mem_cons_self), by rw [upd_same, take_snoc hx, List.map_append, ey]; rfl⟩
                have ll : ((U.take j).map dashV).length < sizeLine := small1000 (by rw [List.length_map, List.length_take]; omega)
                refine ⟨rfl, tYes_ok ⟨_, rfl, rfl, _, rfl, ite2 (fun e => ?_) (fun e => ?_)⟩⟩
                · refine ⟨_, hD10, ll, step _ ?_⟩
                  unfold dashV
                  rw [if_pos (of_decide_eq_true e)]
                · refine ⟨_, rfl, _, hD10, ll, step _ ?_⟩
                  unfold dashV
                  rw [if_neg (fun z => e (decide_eq_true z))]
              · rintro H10 ⟨s10, hD10⟩
                rw [List.length_map, List.take_of_length_le (Nat.le_refl _)] at hD10
                have s910 : Same H9 H10 := fun b o e => s10 b o (fun z => ne_of_none e nF (List.mem_singleton.mp z)) e
                refine ⟨F2, _, rfl, .inl ⟨SqL.of hD10, fun d hd => hN2 _ _ ⟨_, rfl, (s9.trans s910).trans (same_upd hd), .tup (SqT.of upd_same) (dps_dash _)⟩⟩⟩
            rintro _ H9 ⟨u5, rfl, s9, hu5⟩
            have s39 := s8.trans s9
            have hl9 := s39 _ _ hl3
            have b1 : (numIn x1 1).isSome = true := by
              unfold both at hb
              rw [Bool.and_eq_true] at hb
              exact hb.1
            have b2 : (numIn x2 1).isSome = true := by
              unfold both at hb
              rw [Bool.and_eq_true] at hb
              exact hb.2
            have hr1' := s39 _ _ hr1
            have hr2'' := s39 _ _ hr2'
            rw [lbit_some b1] at hr1'
            rw [lbit_some b2] at hr2''
            have hD9 := s39 _ _ hD
            refine seq_gen (P := fun σ' H10 => ∃ u, σ' = [some (.str a), some (.ref l), some (.ref g), some (.ref D), some (.int ((4 + i : Nat) : Int)), some u5, some u, none] ∧ Same H9 H10 ∧ Dp K H10 u (mkS (num0 x1) (num0 x2) R i)) (fun N2 hN2 => ?_) ?_
            · refine ⟨_, rfl, .inl ⟨D, _, 0, .ref r1, rfl, rfl, SqL.of hD9, atI_nat (j := 0) rfl, .inl ⟨r1, _, 0, .int (num0 x1 : Nat), rfl, rfl, SqL.of hr1', atI_nat (j := 0) rfl, ?_⟩⟩⟩
              refine ⟨_, rfl, .inl ⟨D, _, 1, .ref r2, rfl, rfl, SqL.of hD9, atI_nat (j := 1) rfl, .inl ⟨r2, _, 0, .int (num0 x2 : Nat), rfl, rfl, SqL.of hr2'', atI_nat (j := 0) rfl, ?_⟩⟩⟩
              refine ⟨_, rfl, _, rfl, _, rfl, _, rfl, l, _, rfl, SqL.of hl9, fun c hc => ?_⟩
              have ec : cutV (W.map V.str) (some (4 : Int)) (some ((4 + i : Nat) : Int)) = (R.take i).map V.str := by
                rw [← tR i (by omega), ← hR]
                exact cutV_mid W (i := 4) (j := 4 + i) (by omega) (by omega)
              rw [ec]
              obtain ⟨s10, h10⟩ := lst_new (xs := (R.take i).map V.str) hc
              generalize upd H9 c _ = H10 at s10 h10 ⊢
              refine ⟨c, _, rfl, .inl ⟨SqL.of h10, fun d1 hd1 => ?_⟩⟩
              have s11 := s10.trans (same_upd (o := HO.tup ((R.take i).map V.str)) hd1)
              have h11 : upd H10 d1 (.tup ((R.take i).map V.str)) d1 = some (.tup ((R.take i).map V.str)) := upd_same
              generalize upd H10 d1 (.tup ((R.take i).map V.str)) = H11 at s11 h11 ⊢
              refine ⟨_, rfl, by show 4 ≤ sizeLine; decide, fun u hu => hN2 _ _ ⟨_, rfl, s11.trans (same_upd hu), ?_⟩⟩
              exact .tup (SqT.of upd_same) (.cons (.int _) (.cons (.int _) (.cons (.tup (SqT.of (same_upd hu _ _ h11)) (dps_strs _)) (.cons (dp_same (s11.trans (same_upd hu)) hu5) .nil))))
            rintro _ H10 ⟨u, rfl, s10, hu⟩
            have hg10 := s10 _ _ (s9 _ _ hg8)
            have hacc10 := dps_same (s9.trans s10) hacc8
            have n1 : num0 x1 < 10 ^ 13 := by
              unfold num0
              cases z : numIn x1 1 with
              | none => decide
              | some n => exact (numIn_lt z).1
            have n2 : num0 x2 < 10 ^ 13 := by
              unfold num0
              cases z : numIn x2 1 with
              | none => decide
              | some n => exact (numIn_lt z).1
            refine ⟨_, rfl, _, rfl, by show 1 ≤ sizeLine; decide, fun y hy => ?_⟩
            obtain ⟨s11, h11⟩ := lst_new (xs := [u]) hy
            have hu11 := dp_same s11 hu
            have hg11 := s11 _ _ hg10
            have hacc11 := dps_same s11 hacc10
            generalize upd H10 y _ = H11 at s11 h11 hu11 hg11 hacc11 ⊢
            refine ⟨_, rfl, u, _, 100, 2, rfl, hu11, mkS_good n1 n2 (by omega) hwr, Nat.le_refl _, fun H12 s12 => .inr ⟨_, rfl, y, _, _, rfl, rfl, s12 _ _ h11, ?_, ?_, ?_, fun z hz => ?_⟩⟩
            · split <;> decide
            · split <;> decide
            · split <;> exact Nat.le_of_lt (small1000 (by show 1 * _ ≤ 1000; decide))
            have okI : (both x1 x2 && okAt (num0 x1) (num0 x2) R i) = isSetupD (mkS (num0 x1) (num0 x2) R i) := by
              rw [show both x1 x2 = true from hb, Bool.true_and]
              unfold okAt
              rw [hRi]
              dsimp only
              rw [e, Bool.true_and]
            have s3z := (s39.trans s10).trans (s11.trans (s12.trans (same_upd (o := HO.lst (List.replicate (Int.toNat (if isSetupD (mkS (num0 x1) (num0 x2) R i) = true then 1 else 0)) [u]).flatten) hz)))
            have hgz := (s12.trans (same_upd (o := HO.lst (List.replicate (Int.toNat (if isSetupD (mkS (num0 x1) (num0 x2) R i) = true then 1 else 0)) [u]).flatten) hz)) _ _ hg11
            have haccz := dps_same (s12.trans (same_upd (o := HO.lst (List.replicate (Int.toNat (if isSetupD (mkS (num0 x1) (num0 x2) R i) = true then 1 else 0)) [u]).flatten) hz)) hacc11
            have huz := dp_same (s12.trans (same_upd (o := HO.lst (List.replicate (Int.toNat (if isSetupD (mkS (num0 x1) (num0 x2) R i) = true then 1 else 0)) [u]).flatten) hz)) hu11
            refine ⟨g, z, acc, _, rfl, rfl, hgz, upd_same, ?_, fun g2 hg2 => ⟨_, _, _, g2, _, rfl, s3z.trans (same_upd hg2), upd_same, ?_⟩⟩
            · split <;> exact Nat.le_of_lt (small1000 (by simp; omega))
            · refine dps_same (same_upd hg2) ?_
              clear hg2 s3z hgz
              generalize upd H12 z (.lst (List.replicate (Int.toNat (if isSetupD (mkS (num0 x1) (num0 x2) R i) = true then 1 else 0)) [u]).flatten) = H13 at haccz huz ⊢
              cases hk : isSetupD (mkS (num0 x1) (num0 x2) R i) with
              | true =>
                rw [stepT (okI.trans hk), List.map_append]
                exact dps_app haccz (.cons huz .nil)
              | false =>
                rw [stepF (okI.trans hk)]
                have ez : acc ++ (List.replicate (Int.toNat (if false = true then 1 else 0)) [u]).flatten = acc := by simp
                rw [ez]
                exact haccz
          · refine ⟨_, _, _, g, acc, rfl, s8, hg8, ?_⟩
            rw [stepF (by rw [show both x1 x2 = false by simpa using hb, Bool.false_and])]
            exact hacc8
        · refine ⟨_, _, _, g, acc, rfl, s7, hg, ?_⟩
          rw [stepF ?_]
          · exact hacc
          · unfold okAt
            rw [hRi]
            dsimp only
            rw [show decide (V.str R[i] = V.str (Str.ofString "slots")) = false by simpa using e, Bool.false_and, Bool.and_false]
      · rintro σ H9 ⟨x4, x5, x6, g, acc, rfl, s9, hg, hacc⟩
        rw [eJ, ← eA] at hacc
        exact hN _ _ ⟨x4, x5, x6, g, acc, rfl, s9, hg, hacc⟩
    rintro _ H9 ⟨x4, x5, x6, g, acc, rfl, s9, hg, hacc⟩
    exact ⟨_, rfl, k g acc H9 ((s1.trans s3).trans s9) hg hacc⟩
end
end KV

namespace KV
open PySem PySem.Spec PyProof.Rows L2 RZ
/-! ### lines whose words are short -/
/-- every stretch without a blank has at most m signs -/
def runs (m : Nat) (l : List Nat) : Prop := ∀ a b c, l = a ++ (b ++ c) → 32 ∉ b → b.length ≤ m
theorem runs_mono {m k : Nat} {l : List Nat} (h : runs m l) (e : m ≤ k) : runs k l := fun a b c x y => Nat.le_trans (h a b c x y) e
theorem runs_part {m : Nat} {l p q r : List Nat} (h : runs m l) (e : l = p ++ (q ++ r)) : runs m q := fun a b c x y => h (p ++ a) b (c ++ r) (by rw [e, x]; simp) y
theorem runs_take {m : Nat} {l : List Nat} (h : runs m l) (n : Nat) : runs m (l.take n) := runs_part (p := []) (r := l.drop n) h (by simp)
theorem runs_drop {m : Nat} {l : List Nat} (h : runs m l) (n : Nat) : runs m (l.drop n) := runs_part (p := l.take n) (r := []) h (by simp)
theorem runs_app {m k : Nat} {l l' : List Nat} (h : runs m l) (h' : runs k l') : runs (m + k) (l ++ l') := fun a b c e nb => by
  rcases List.append_eq_append_iff.mp e with ⟨t, e1, e2⟩ | ⟨t, e1, e2⟩
  · -- a reaches beyond l
    have := h' t b c e2 nb
    omega
  · -- l = a ++ t
    rcases List.append_eq_append_iff.mp e2.symm with ⟨u, f1, f2⟩ | ⟨u, f1, f2⟩
    · have z1 := h a t [] (by rw [e1]; simp) (fun z => nb (by rw [f1]; exact List.mem_append_left _ z))
      have z2 := h' [] u c (by simpa using f2) (fun z => nb (by rw [f1]; exact List.mem_append_right _ z))
      rw [f1, List.length_append]
      omega
    · have := h a b u (by rw [e1, f1]) nb
      omega
/-- at most n signs, k blanks, stretches of at most m -/
structure Nice (n m k : Nat) (l : List Nat) : Prop where
  len : l.length ≤ n
  run : runs m l
  cnt : l.count 32 ≤ k
  cp : ∀ c ∈ l, c < 1114112
theorem Nice.mono {n m k n' m' k' : Nat} {l : List Nat} (h : Nice n m k l) (a : n ≤ n') (b : m ≤ m') (c : k ≤ k') : Nice n' m' k' l := ⟨Nat.le_trans h.len a, runs_mono h.run b, Nat.le_trans h.cnt c, h.cp⟩
theorem Nice.app {n m k n' m' k' : Nat} {l l' : List Nat} (h : Nice n m k l) (h' : Nice n' m' k' l') : Nice (n + n') (m + m') (k + k') (l ++ l') :=
  ⟨by rw [List.length_append]; have := h.len; have := h'.len; omega, runs_app h.run h'.run, by rw [List.count_append]; have := h.cnt; have := h'.cnt; omega, fun c hc => (List.mem_append.mp hc).elim (h.cp c) (h'.cp c)⟩
theorem Nice.take {n m k : Nat} {l : List Nat} (h : Nice n m k l) (i : Nat) : Nice n m k (l.take i) :=
  ⟨Nat.le_trans (by rw [List.length_take]; omega) h.len, runs_take h.run i, Nat.le_trans ((List.take_sublist i l).count_le 32) h.cnt, fun c hc => h.cp c (List.mem_of_mem_take hc)⟩
theorem Nice.drop {n m k : Nat} {l : List Nat} (h : Nice n m k l) (i : Nat) : Nice n m k (l.drop i) :=
  ⟨Nat.le_trans (by rw [List.length_drop]; omega) h.len, runs_drop h.run i, Nat.le_trans ((List.drop_sublist i l).count_le 32) h.cnt, fun c hc => h.cp c (List.mem_of_mem_drop hc)⟩
/-- the words of a line -/
def wl : List Nat → List Nat → List (List Nat)
  | acc, [] => [acc]
  | acc, c :: r => if c = 32 then acc :: wl [] r else wl (acc ++ [c]) r
theorem wl_spl : ∀ (l acc : List Nat), TL.spl [32] 0 acc l = wl acc l
  | [], acc => by rw [TL.spl_nil]; rfl
  | c :: r, acc => by
    by_cases h : c = 32
    · have hp : TL.pre [32] (c :: r) = true := by rw [h]; rfl
      rw [TL.spl_hit hp, wl, if_pos h, ← wl_spl r []]
      rfl
    · have hp : TL.pre [32] (c :: r) = false := by simp [TL.pre, h, Ne.symm h]
      rw [TL.spl_miss hp, wl, if_neg h, ← wl_spl r _]
theorem wl_len : ∀ (l acc : List Nat), (wl acc l).length = l.count 32 + 1
  | [], acc => by simp [wl]
  | c :: r, acc => by
    rw [wl]
    by_cases h : c = 32
    · rw [if_pos h, List.length_cons, wl_len r, h, List.count_cons_self]
    · rw [if_neg h, wl_len r, List.count_cons_of_ne (Ne.symm (Ne.symm h))]
theorem wl_mem : ∀ (l acc w : List Nat), 32 ∉ acc → w ∈ wl acc l → 32 ∉ w ∧ ∃ p q, acc ++ l = p ++ (w ++ q)
  | [], acc, w, ha, hw => by
    rw [wl] at hw
    rw [List.mem_singleton.mp hw]
    exact ⟨ha, [], [], by simp⟩
  | c :: r, acc, w, ha, hw => by
    rw [wl] at hw
    by_cases h : c = 32
    · rw [if_pos h] at hw
      rcases List.mem_cons.mp hw with e | hw
      · rw [e]
        exact ⟨ha, [], c :: r, by simp⟩
      · obtain ⟨n, p, q, e⟩ := wl_mem r [] w (by simp) hw
        exact ⟨n, acc ++ c :: p, q, by rw [List.nil_append] at e; rw [e]; simp⟩
    · rw [if_neg h] at hw
      obtain ⟨n, p, q, e⟩ := wl_mem r (acc ++ [c]) w (by
        intro z
        rcases List.mem_append.mp z with z | z
        · exact ha z
        · exact h (List.mem_singleton.mp z).symm) hw
      exact ⟨n, p, q, by rw [← e]; simp⟩
theorem split_wl (z : Str) : (Txt.split z " ").map TL.tl = wl [] (TL.tl z) := by
  have e := TL.split_spl z " " (by decide +kernel) (TL.kind_ok (by decide +kernel))
  rw [e, ← wl_spl]
  rfl
theorem Nice.words {n m k : Nat} {z : Str} (h : Nice n m k (TL.tl z)) (hn : n ≤ 100000) (hm : m ≤ 60) (hk : k ≤ 99) : z.length ≤ 100000 ∧ (Txt.split z " ").length ≤ 100 ∧ ∀ x ∈ Txt.split z " ", shortW x = true := by
  have e := split_wl z
  refine ⟨?_, ?_, fun x hx => ?_⟩
  · have l : (TL.tl z).length = z.length := Array.length_toList
    rw [← l]
    exact Nat.le_trans h.len hn
  · have : ((Txt.split z " ").map TL.tl).length = (TL.tl z).count 32 + 1 := by rw [e, wl_len]
    rw [List.length_map] at this
    have := h.cnt
    omega
  · have hm2 : TL.tl x ∈ wl [] (TL.tl z) := by
      rw [← e]
      exact List.mem_map_of_mem hx
    obtain ⟨nb, p, q, ez⟩ := wl_mem _ _ _ (by simp) hm2
    rw [List.nil_append] at ez
    have l1 := h.run p (TL.tl x) q ez nb
    have l : (TL.tl x).length = x.length := Array.length_toList
    unfold shortW
    rw [Bool.and_eq_true, decide_eq_true_eq, List.all_eq_true]
    refine ⟨by omega, fun c hc => decide_eq_true (h.cp c ?_)⟩
    rw [ez]
    exact List.mem_append_right _ (List.mem_append_left _ hc)
end KV

namespace KV
open PySem PySem.Spec PyProof.Rows L2 RZ
/-! ### what setup_text writes is read back -/
theorem num_back {a : Nat} (h1 : 1 ≤ a) (h2 : a ≤ 20) : numIn (toString ((a : Nat) : Int)) 1 = some a := by
  have key : (List.range 21).all (fun a => decide (1 ≤ a → numIn (toString ((a : Nat) : Int)) 1 = some a)) = true := by decide +kernel
  exact of_decide_eq_true (List.all_eq_true.mp key a (List.mem_range.mpr (by omega))) h1
theorem isW_self (s : Str) : isW s (some s) = true := decide_eq_true rfl
theorem dash_ent {o : Option Str} (h : ∀ x, o = some x → x ≠ "-") : dashD (entW o) = entD o := by
  cases o with
  | none => rfl
  | some x =>
    show dashD x = PyData.str x
    unfold dashD
    rw [if_neg fun z => h x rfl (V.str.inj z)]
/-- the SETUP of these parts -/
def setD (a b : Nat) (ps : List Str) (es : List (Option Str)) : PyData := .tuple [.int a, .int b, .tuple (ps.map PyData.str), .tuple (es.map entD)]
theorem mkS_full {a b : Nat} {ps : List Str} {es : List (Option Str)} (hd : ∀ o ∈ es, ∀ x, o = some x → x ≠ "-") : mkS a b (ps ++ ((["slots"] : List Str) ++ es.map entW)) ps.length = setD a b ps es := by
  unfold mkS setD
  have e1 : (ps ++ ((["slots"] : List Str) ++ es.map entW)).take ps.length = ps := by simp
  have e2 : (ps ++ ((["slots"] : List Str) ++ es.map entW)).drop (ps.length + 1) = es.map entW := by
    rw [← List.append_assoc]
    exact List.drop_left' (by simp)
  have e3 : (es.map entW).map dashD = es.map entD := by
    rw [List.map_map]
    exact List.map_congr_left fun o ho => dash_ent (hd o ho)
  rw [e1, e2, e3]
theorem strOf_strs : ∀ l : List Str, (l.map PyData.str).map strOfD = l
  | [] => rfl
  | x :: l => by
    rw [List.map_cons, List.map_cons, strOf_strs l]
    rfl
theorem early {a b j : Nat} {ps : List Str} {es : List (Option Str)} (nd : ps.Nodup) (hj : j < ps.length) : okAt a b (ps ++ ((["slots"] : List Str) ++ es.map entW)) j = false := by
  unfold okAt
  have e0 : (ps ++ ((["slots"] : List Str) ++ es.map entW))[j]? = some ps[j] := by
    rw [List.getElem?_append_left hj, List.getElem?_eq_getElem hj]
  rw [e0]
  dsimp only
  by_cases h : ps[j] = "slots"
  · have hk : isSetupD (mkS a b (ps ++ ((["slots"] : List Str) ++ es.map entW)) j) = false := by
      have hm : PyData.str "slots" ∈ ((ps ++ ((["slots"] : List Str) ++ es.map entW)).drop (j + 1)).map dashD := by
        refine List.mem_map.mpr ⟨"slots", ?_, by unfold dashD; rw [if_neg (by decide +kernel)]⟩
        rw [List.drop_append_of_le_length (by omega)]
        exact List.mem_append_right _ (List.mem_append_left _ List.mem_cons_self)
      have hn : Str.ofString "slots" ∉ ps.take j := fun z => by
        obtain ⟨i, hi, e⟩ := List.mem_iff_getElem.mp z
        rw [List.length_take] at hi
        rw [List.getElem_take, ← h] at e
        have := (List.getElem_inj nd).mp e
        omega
      have ht : (ps ++ ((["slots"] : List Str) ++ es.map entW)).take j = ps.take j := by
        rw [List.take_append_of_le_length (by omega)]
      have hs : slotsD (pipesD (.tuple (((ps ++ ((["slots"] : List Str) ++ es.map entW)).take j).map PyData.str))) (.tuple (((ps ++ ((["slots"] : List Str) ++ es.map entW)).drop (j + 1)).map dashD)) = false := by
        show (((ps ++ ((["slots"] : List Str) ++ es.map entW)).drop (j + 1)).map dashD).all (slotD (((((ps ++ ((["slots"] : List Str) ++ es.map entW)).take j).map PyData.str)).map strOfD)) = false
        rw [ht, strOf_strs]
        refine Bool.eq_false_iff.mpr fun z => hn ?_
        have := List.all_eq_true.mp z _ hm
        exact of_decide_eq_true this
      unfold mkS
      show (isNumD (.int a) 1 && isNumD (.int b) 1 && areNamesD (.tuple (((ps ++ ((["slots"] : List Str) ++ es.map entW)).take j).map PyData.str)) && slotsD (pipesD (.tuple (((ps ++ ((["slots"] : List Str) ++ es.map entW)).take j).map PyData.str))) (.tuple (((ps ++ ((["slots"] : List Str) ++ es.map entW)).drop (j + 1)).map dashD))) = false
      rw [hs, Bool.and_false]
    rw [hk, Bool.and_false]
  · rw [decide_eq_false fun z => h (V.str.inj z), Bool.false_and]
/-- setup_in of setup_text's words -/
theorem read_back {a b : Nat} {ps : List Str} {es : List (Option Str)} (a1 : 1 ≤ a) (a2 : a ≤ 20) (b1 : 1 ≤ b) (b2 : b ≤ 20) (nd : ps.Nodup) (hd : ∀ o ∈ es, ∀ x, o = some x → x ≠ "-") (hs : isSetupD (setD a b ps es) = true) :
    readS (setupWords a b ps es) = some (setD a b ps es) := by
  have e0 : (setupWords a b ps es)[0]? = some (Str.ofString "ring") := rfl
  have e1 : (setupWords a b ps es)[1]? = some (Str.ofString (toString ((a : Nat) : Int))) := rfl
  have e2 : (setupWords a b ps es)[2]? = some (Str.ofString (toString ((b : Nat) : Int))) := rfl
  have e3 : (setupWords a b ps es)[3]? = some (Str.ofString "pipes") := rfl
  have e4 : (setupWords a b ps es).drop 4 = ps ++ ((["slots"] : List Str) ++ es.map entW) := rfl
  unfold readS
  rw [e0, e1, e2, e3, e4, isW_self, isW_self]
  have n1 : ((some (Str.ofString (toString ((a : Nat) : Int)))).bind fun x => numIn x 1) = some a := num_back a1 a2
  have n2 : ((some (Str.ofString (toString ((b : Nat) : Int)))).bind fun x => numIn x 1) = some b := num_back b1 b2
  rw [n1, n2]
  simp only [if_true]
  rw [← mkS_full hd]
  refine first_at ?_ (fun j hj => early nd hj) ?_
  · simp
  · unfold okAt
    rw [mkS_full hd, hs]
    have e5 : (ps ++ ((["slots"] : List Str) ++ es.map entW))[ps.length]? = some (Str.ofString "slots") := by
      rw [List.getElem?_append_right (Nat.le_refl _), Nat.sub_self]
      rfl
    rw [e5]
    show (decide (V.str (Str.ofString "slots") = V.str (Str.ofString "slots")) && true) = true
    rw [decide_eq_true rfl]
    rfl
/-- two SETUPs with one text are one -/
theorem one_text {a b a' b' : Nat} {ps ps' : List Str} {es es' : List (Option Str)} (h : readS (setupWords a b ps es) = some (setD a b ps es)) (h' : readS (setupWords a' b' ps' es') = some (setD a' b' ps' es'))
    (e : setupWords a b ps es = setupWords a' b' ps' es') : setD a b ps es = setD a' b' ps' es' := by
  rw [e, h'] at h
  exact (Option.some.inj h).symm
end KV

namespace KV
open PySem PySem.Spec PyProof.Rows L2 RZ
/-! ### words that are joined -/
theorem runs_sep {m : Nat} {p q : List Nat} (h : runs m p) (h' : runs m q) : runs m (p ++ (32 :: q)) := fun a b c e nb => by
  rcases List.append_eq_append_iff.mp e with ⟨t, e1, e2⟩ | ⟨t, e1, e2⟩
  · -- a reaches beyond p
    cases t with
    | nil =>
      cases b with
      | nil => exact Nat.zero_le _
      | cons x b =>
        have e2 : 32 :: q = x :: (b ++ c) := e2
        rw [List.cons.injEq] at e2
        exact absurd (e2.1 ▸ List.mem_cons_self) nb
    | cons x t =>
      have e2 : 32 :: q = x :: (t ++ (b ++ c)) := e2
      rw [List.cons.injEq] at e2
      exact h' t b c e2.2 nb
  · rcases List.append_eq_append_iff.mp e2.symm with ⟨u, f1, f2⟩ | ⟨u, f1, f2⟩
    · -- b = t ++ u
      cases u with
      | nil =>
        rw [List.append_nil] at f1
        exact h a b [] (by rw [e1, f1]; simp) nb
      | cons x u =>
        have f2 : 32 :: q = x :: (u ++ c) := f2
        rw [List.cons.injEq] at f2
        exact absurd (by rw [f1, f2.1]; exact List.mem_append_right _ List.mem_cons_self) nb
    · exact h a b u (by rw [e1, f1]) nb
theorem runs_word {m : Nat} {l : List Nat} (h : l.length ≤ m) : runs m l := fun a b c e _ => by
  have := congrArg List.length e
  rw [List.length_append, List.length_append] at this
  omega
theorem nice_join {m : Nat} : ∀ {ws : List (List Nat)}, (∀ w ∈ ws, 32 ∉ w ∧ w.length ≤ m ∧ ∀ c ∈ w, c < 1114112) → Nice (ws.length * (m + 1)) m ws.length (TL.joinL [32] ws)
  | [], _ => ⟨by simp [TL.joinL], runs_word (by simp [TL.joinL]), by simp [TL.joinL], fun c hc => by simp [TL.joinL] at hc⟩
  | [w], h => by
    obtain ⟨h1, h2, h3⟩ := h w List.mem_cons_self
    exact ⟨by show w.length ≤ 1 * (m + 1); omega, runs_word h2, by show w.count 32 ≤ 1; rw [List.count_eq_zero_of_not_mem h1]; omega, h3⟩
  | w :: v :: ws, h => by
    obtain ⟨h1, h2, h3⟩ := h w List.mem_cons_self
    have ih := nice_join (m := m) (ws := v :: ws) fun x hx => h x (List.mem_cons_of_mem _ hx)
    have ej : TL.joinL [32] (w :: v :: ws) = w ++ (32 :: TL.joinL [32] (v :: ws)) := rfl
    rw [ej]
    refine ⟨?_, runs_sep (runs_word h2) ih.run, ?_, fun c hc => ?_⟩
    · have := ih.len
      rw [List.length_append, List.length_cons]
      have e : (w :: v :: ws).length * (m + 1) = (v :: ws).length * (m + 1) + (m + 1) := by
        rw [List.length_cons, Nat.add_mul, Nat.one_mul]
      omega
    · rw [List.count_append, List.count_cons_self, List.count_eq_zero_of_not_mem h1]
      have := ih.cnt
      rw [List.length_cons]
      omega
    · rcases List.mem_append.mp hc with z | z
      · exact h3 c z
      · rcases List.mem_cons.mp z with z | z
        · rw [z]; decide
        · exact ih.cp c z
/-- a word of a line: no blank, at most m signs -/
def wordT (m : Nat) (x : Str) : Prop := 32 ∉ TL.tl x ∧ x.length ≤ m ∧ ∀ c ∈ TL.tl x, c < 1114112
theorem join_nice {m : Nat} {ws : List Str} (h : ∀ x ∈ ws, wordT m x) : Nice (ws.length * (m + 1)) m ws.length (TL.tl (Txt.join " " ws)) := by
  rw [TL.join_eq, TL.tl_join]
  have e : TL.tl (" " : Str) = [32] := by decide +kernel
  rw [e]
  have z := nice_join (m := m) (ws := ws.map TL.tl) fun w hw => by
    obtain ⟨x, hx, rfl⟩ := List.mem_map.mp hw
    obtain ⟨h1, h2, h3⟩ := h x hx
    have l : (TL.tl x).length = x.length := Array.length_toList
    exact ⟨h1, by omega, h3⟩
  rw [List.length_map] at z
  exact z
theorem join_back {m : Nat} {ws : List Str} (hne : ws ≠ []) (h : ∀ x ∈ ws, wordT m x) : Txt.split (Txt.join " " ws) " " = ws :=
  TL.split_join (y := " ") (s := 32) (S := []) (by decide +kernel) (by decide +kernel) hne fun p hp => (h p hp).1
theorem letters_word {x : Str} (h : isWordD (.str x) 8 = true) : wordT 8 x ∧ x ≠ "-" := by
  have h : (decide (0 < x.length) && decide (x.length ≤ 8) && x.cps.toList.all isLet) = true := h
  rw [Bool.and_eq_true, Bool.and_eq_true, decide_eq_true_eq, decide_eq_true_eq, List.all_eq_true] at h
  have hl : ∀ c ∈ TL.tl x, 97 ≤ c ∧ c ≤ 122 := fun c hc => by
    have := h.2 c hc
    unfold isLet at this
    rw [Bool.and_eq_true, decide_eq_true_eq, decide_eq_true_eq] at this
    exact this
  refine ⟨⟨fun z => ?_, h.1.2, fun c hc => ?_⟩, fun z => ?_⟩
  · have := hl 32 z
    omega
  · have := hl c hc
    omega
  · have h45 : (45 : Nat) ∈ TL.tl x := by
      rw [z]
      decide +kernel
    have := hl 45 h45
    omega
theorem small_word {n : Nat} (h : n ≤ 20) : wordT 8 (Str.ofString (toString ((n : Nat) : Int))) := by
  have key : (List.range 21).all (fun n => decide (32 ∉ TL.tl (Str.ofString (toString ((n : Nat) : Int)))) && (decide ((Str.ofString (toString ((n : Nat) : Int))).length ≤ 8) && (TL.tl (Str.ofString (toString ((n : Nat) : Int)))).all fun c => decide (c < 1114112))) = true := by decide +kernel
  have z := List.all_eq_true.mp key n (List.mem_range.mpr (by omega))
  rw [Bool.and_eq_true, Bool.and_eq_true, decide_eq_true_eq, decide_eq_true_eq, List.all_eq_true] at z
  exact ⟨z.1, z.2.1, fun c hc => of_decide_eq_true (z.2.2 c hc)⟩
/-- the words of a SETUP's text -/
theorem setup_words {a b : Nat} {ps : List Str} {es : List (Option Str)} (ha : a ≤ 20) (hb : b ≤ 20) (hp : ∀ x ∈ ps, isWordD (.str x) 8 = true) (he : ∀ o ∈ es, ∀ x, o = some x → isWordD (.str x) 8 = true) : ∀ x ∈ setupWords a b ps es, wordT 8 x := by
  have k : ∀ s : Str, decide (32 ∉ TL.tl s) = true → decide (s.length ≤ 8) = true → ((TL.tl s).all fun c => decide (c < 1114112)) = true → wordT 8 s := fun s h1 h2 h3 =>
    ⟨of_decide_eq_true h1, of_decide_eq_true h2, fun c hc => of_decide_eq_true (List.all_eq_true.mp h3 c hc)⟩
  intro x hx
  rcases List.mem_append.mp hx with h | h
  · rcases List.mem_cons.mp h with e | h
    · rw [e]; exact k _ (by decide +kernel) (by decide +kernel) (by decide +kernel)
    rcases List.mem_cons.mp h with e | h
    · rw [e]; exact small_word ha
    rcases List.mem_cons.mp h with e | h
    · rw [e]; exact small_word hb
    rw [List.mem_singleton.mp h]; exact k _ (by decide +kernel) (by decide +kernel) (by decide +kernel)
  · rcases List.mem_append.mp h with h | h
    · exact (letters_word (hp x h)).1
    · rcases List.mem_append.mp h with h | h
      · rw [List.mem_singleton.mp h]; exact k _ (by decide +kernel) (by decide +kernel) (by decide +kernel)
      · obtain ⟨o, ho, e⟩ := List.mem_map.mp h
        rw [← e]
        cases o with
        | none => exact k _ (by decide +kernel) (by decide +kernel) (by decide +kernel)
        | some y => exact (letters_word (he _ ho y rfl)).1
end KV

namespace KV
open PySem PySem.Spec PyProof.Rows L2 RZ
/-! ### _law_spoilt -/
abbrev sSpoilt : Stmt := topS 110
theorem nice_cut {n m k : Nat} {z : Str} (h : Nice n m k (TL.tl z)) (lo hi : Option Int) : Nice n m k (TL.tl (cutS z lo hi)) := (h.drop _).take _
theorem nice_len {n m k : Nat} {z : Str} (h : Nice n m k (TL.tl z)) : z.length ≤ n := by
  have l : (TL.tl z).length = z.length := Array.length_toList
  rw [← l]
  exact h.len
theorem nice_cat {n m k n' m' k' : Nat} {x y : Str} (h : Nice n m k (TL.tl x)) (h' : Nice n' m' k' (TL.tl y)) : Nice (n + n') (m + m') (k + k') (TL.tl (x ++ y)) := by
  rw [TL.tl_append]
  exact h.app h'
theorem map_erase : ∀ (l : List Str) (i : Nat), (l.map V.str).eraseIdx i = (l.eraseIdx i).map V.str
  | [], _ => rfl
  | _ :: _, 0 => rfl
  | x :: l, i + 1 => by
    show V.str x :: (l.map V.str).eraseIdx i = V.str x :: (l.eraseIdx i).map V.str
    rw [map_erase l i]
def signs : List Str := ["a", "0", "1", " ", "-", "#", ";", "|", "\n", "@1", "!", " link", " yes", "->", "A", "0"]
theorem nice_small {s : Str} (h : (decide ((TL.tl s).length ≤ 5) && (decide ((TL.tl s).count 32 ≤ 1) && (TL.tl s).all fun c => decide (c < 1114112))) = true) : Nice 5 5 1 (TL.tl s) := by
  rw [Bool.and_eq_true, Bool.and_eq_true, decide_eq_true_eq, decide_eq_true_eq, List.all_eq_true] at h
  exact ⟨h.1, runs_word h.1, h.2.1, fun c hc => of_decide_eq_true (h.2.2 c hc)⟩
theorem signs_nice {s : Str} (h : s ∈ signs) : Nice 5 5 1 (TL.tl s) := by
  have key : signs.all (fun s => decide ((TL.tl s).length ≤ 5) && (decide ((TL.tl s).count 32 ≤ 1) && (TL.tl s).all fun c => decide (c < 1114112))) = true := by decide +kernel
  exact nice_small (List.all_eq_true.mp key s h)
section
variable {P : Program} {w : World} {K : PySem.W.Frag} {mg : Str → Option Value} {base : Heap}
def spSpoilt : Sp := fun vs H Q _ => ∃ (b : Addr) (n : Nat) (z : Str), vs = [.ref b, .str z] ∧ BoxAt H b n ∧ n + 10 ≤ 2 ^ 40 ∧ Nice 200 8 22 (TL.tl z) ∧ (∀ x ∈ Txt.split z " ", wordT 8 x) ∧
  ∀ (y : Str) (k : Nat) H', k ≤ 5 → Nice 700 40 70 (TL.tl y) → SameX [b] H H' → BoxAt H' b (n + k) → Q (.str y) H'
abbrev nSpoilt : List Str := ["_law_box_here", "_law_line", "_law_at", "_law_way", "_law_sign", "_law_words", "_law_spot", "_law_other"]
theorem scSpoilt : FnScope nSpoilt ["_law_box_here", "_law_line"] (defScope sSpoilt) := ⟨rfl, rfl, rfl, by decide +kernel, rfl, by decide +kernel, by decide +kernel⟩
theorem ok_spoilt {f fT fO : Addr} {fd fdT fdO : FuncData} (F : Fun K "_law_spoilt" "_law_spoilt" sSpoilt f fd)
    (GT : FnOk P w K mg base CX0 2 fT fdT ["_law_box_here", "_law_below"] spTake) (bT : Binds K fdT ["_law_box_here", "_law_below"] []) (mT : mg "_law_take" = some (.ref fT)) (kT : PySem.W.keepIn K (.ref fT) = true)
    (GO : FnOk P w K mg base CX0 2 fO fdO ["_law_box_here", "_law_some"] (spOf K)) (bO : Binds K fdO ["_law_box_here", "_law_some"] []) (mO : mg "_law_of" = some (.ref fO)) (kO : PySem.W.keepIn K (.ref fO) = true)
    (ml : mg "len" = none) (mi : mg "int" = none) : FnOk P w K mg base CX0 3 f fd ["_law_box_here", "_law_line"] spSpoilt := by
  refine F.ok scSpoilt (fun vs H Q E h => ?_) (fun cdv A outer s H vs Q E hr h => ?_)
  · obtain ⟨b, n, z, rfl, _⟩ := h
    rfl
  · obtain ⟨b, n, z, rfl, hB, hn, hz, hwz, k⟩ := h
    have ps1 : ∀ {e : Expr} {te : TE}, True := trivial
    refine ⟨_, pss_cons (ps_par (i := 2) (j := 3) (by rfl) scSpoilt.nd rfl rfl (by decide) rfl rfl (pa_cons (pe_call GT hr (by rfl) mT kT bT .nil pass0 (pa_cons (pv 0) (pa_cons (pe_op op_add (pe_callB call_len_str (by rfl) ml PySem.boot_len (pa_cons (pv 1) pa_nil)) pe_int) pa_nil)))
        (pa_cons (pe_call GT hr (by rfl) mT kT bT .nil pass0 (pa_cons (pv 0) (pa_cons pe_int pa_nil))) pa_nil)) (by rfl))
      (pss_cons (ps_set (i := 4) scSpoilt.nd rfl (by first | exact .inl rfl | exact .inr rfl) (pe_call GO hr (by rfl) mO kO bO .nil pass0 (pa_cons (pv 0) (pa_cons (pe_lst (pa_cons pe_str (pa_cons pe_str (pa_cons pe_str (pa_cons pe_str (pa_cons pe_str (pa_cons pe_str (pa_cons pe_str (pa_cons pe_str (pa_cons pe_str (pa_cons pe_str (pa_cons pe_str (pa_cons pe_str (pa_cons pe_str (pa_cons pe_str (pa_cons pe_str (pa_cons pe_str pa_nil))))))))))))))))) pa_nil))))
      (pss_cons (ps_if (pt_cmpR op_lt (pv 3) pe_int (nomark _)) (pss_one (ps_ret (pe_op op_add_str (pe_op op_add_str (pe_slice sl_str (pv 1) po_none (po_some (pv 2))) (pe_ifExp (pt_cmpR op_lt (pv 3) pe_int (nomark _)) (pv 4) pe_str))
          (pe_slice sl_str (pv 1) (po_some (pe_op op_add (pv 2) (pe_callTy call_int1 (by rfl) mi PyProof.Rows.boot_int (pa_cons (pe_cmpR op_gt (pv 3) pe_int (nomark _)) pa_nil)))) po_none)))) pss_nil)
      (pss_cons (ps_if (pt_cmpR op_eq (pv 3) pe_int (nomark _)) (pss_one (ps_ret (pe_op op_add_str (pe_op op_add_str (pe_slice sl_str (pv 1) po_none (po_some (pv 2))) (pe_slice sl_str (pv 1) (po_some (pv 2)) (po_some (pe_op op_add (pv 2) pe_int))))
          (pe_slice sl_str (pv 1) (po_some (pv 2)) po_none)))) pss_nil)
      (pss_cons (ps_set (i := 5) scSpoilt.nd rfl (by first | exact .inl rfl | exact .inr rfl) (pe_split (pv 1) pe_str))
      (pss_cons (ps_par (i := 6) (j := 7) (by rfl) scSpoilt.nd rfl rfl (by decide) rfl rfl (pa_cons (pe_call GT hr (by rfl) mT kT bT .nil pass0 (pa_cons (pv 0) (pa_cons (pe_callB call_len_seq (by rfl) ml PySem.boot_len (pa_cons (pv 5) pa_nil)) pa_nil)))
        (pa_cons (pe_call GT hr (by rfl) mT kT bT .nil pass0 (pa_cons (pv 0) (pa_cons (pe_callB call_len_seq (by rfl) ml PySem.boot_len (pa_cons (pv 5) pa_nil)) pa_nil))) pa_nil)) (by rfl))
      (pss_cons (ps_if (pt_cmpR op_eq (pv 3) pe_int (nomark _)) (pss_one (ps_expr (pe_bm PySem.F.plainAttrs_list PySem.F.slot_list_pop PySem.F.type_list_pop mt_popAt (pv 5) (pa_cons (pv 6) pa_nil))))
          (pss_one (ps_if (pt_cmpR op_eq (pv 3) pe_int (nomark _)) (pss_one (ps_expr (pe_bm PySem.F.plainAttrs_list PySem.F.slot_list_insert PySem.F.type_list_insert mt_insert (pv 5) (pa_cons (pv 6) (pa_cons (pe_ix ix_seq (pv 5) (pv 7) (fun _ _ => rfl)) pa_nil)))))
            (pss_one (ps_asg (pe_ix ix_seq (pv 5) (pv 7) (fun _ _ => rfl)) (pg_sub (pv 5) (pv 6) set_list))))))
      (pss_one (ps_ret (pe_join pe_str (pv 5)))))))))), ?_⟩
    have lz := nice_len hz
    have small : ∀ {k : Nat}, k ≤ 1000 → k ≤ sizeLine := fun h => Nat.le_of_lt (small1000 h)
    refine seq_gen (P := fun σ' H1 => ∃ (at_ way : Int), σ' = [some (.ref b), some (.str z), some (.int at_), some (.int way), none, none, none, none] ∧ SameX [b] H H1 ∧ BoxAt H1 b (n + 2) ∧ 0 ≤ at_ ∧ at_ ≤ z.length) (fun N hN => ?_) ?_
    · refine ⟨_, rfl, _, rfl, z, rfl, small (by omega), _, _, rfl, rfl, b, n, (z.length : Int) + 1, rfl, by omega, by omega, hB, by omega, fun r H1 r0 r1 s1 hB1 => ?_⟩
      refine ⟨_, rfl, b, n + 1, 7, rfl, by decide, by decide, hB1, by omega, fun r2 H2 _ _ s2 hB2 => ⟨_, _, rfl, hN _ _ ⟨r, r2, rfl, s1.trans s2, hB2, r0, by omega⟩⟩⟩
    rintro _ H1 ⟨at_, way, rfl, s1, hB1, a0, a1⟩
    refine seq_gen (P := fun σ' H2 => ∃ sg : Str, σ' = [some (.ref b), some (.str z), some (.int at_), some (.int way), some (.str sg), none, none, none] ∧ Nice 5 5 1 (TL.tl sg) ∧ SameX [b] H H2 ∧ BoxAt H2 b (n + 3)) (fun N hN => ?_) ?_
    · refine ⟨_, rfl, by show 16 ≤ sizeLine; decide, fun p hp => ?_⟩
      have np : p ≠ b := hB1.new hp
      have hB2 : BoxAt (upd H1 p (.lst (signs.map V.str))) b (n + 2) := by
        obtain ⟨u1, u2, u3, q, q2⟩ := hB1
        exact ⟨u1, u2, u3, by rw [upd_ne np.symm]; exact q, q2⟩
      have hp2 : hide [b] (upd H1 p (.lst (signs.map V.str))) p = some (.lst (signs.map V.str)) := by
        rw [hide_out (by simpa using np)]
        exact upd_same
      refine ⟨b, n + 2, .ref p, rfl, hB2, by omega, .inr ⟨[b], p, signs.map V.str, rfl, List.mem_cons_self, .inl (SqL.of hp2), by decide, by decide, fun i x H2 hx s2 hB3 => ?_⟩⟩
      obtain ⟨sg, hsg, rfl⟩ : ∃ sg ∈ signs, x = .str sg := by
        obtain ⟨y, hy, e⟩ := List.mem_map.mp (List.mem_of_getElem? hx)
        exact ⟨y, hy, e.symm⟩
      exact hN _ _ ⟨sg, rfl, signs_nice hsg, (s1.trans (SameX.of (same_upd hp))).trans s2, hB3⟩
    rintro _ H2 ⟨sg, rfl, hsg, s2, hB2⟩
    have lsg := nice_len hsg
    have l1 : ∀ lo hi, (cutS z lo hi).length ≤ 200 := fun lo hi => Nat.le_trans (cutS_length z lo hi) lz
    have none_ : Nice 5 5 1 (TL.tl (Str.ofString "")) := nice_small (by decide +kernel)
    refine seq_gen (P := fun σ' H3 => σ' = [some (.ref b), some (.str z), some (.int at_), some (.int way), some (.str sg), none, none, none] ∧ H3 = H2) (fun N hN => ?_) ?_
    · refine ⟨_, rfl, _, _, rfl, rfl, _, rfl, ite2 (fun e => ?_) (fun e => hN _ _ ⟨rfl, rfl⟩)⟩
      refine ⟨_, rfl, _, rfl, _, rfl, z, rfl, small (by omega), ?_⟩
      refine ⟨_, rfl, _, _, rfl, rfl, _, rfl, ite2 (fun e2 => ?_) (fun e2 => ?_)⟩
      · refine ⟨_, rfl, _, _, rfl, rfl, ?_, ?_⟩
        · have := l1 none (some at_)
          exact small (by omega)
        refine ⟨_, rfl, _, rfl, _, rfl, _, _, rfl, rfl, .inr ⟨_, rfl, _, _, rfl, rfl, _, rfl, z, rfl, small (by omega), _, _, rfl, rfl, ?_, ?_⟩⟩
        · rw [Str.length_append]
          have := l1 none (some at_)
          have := l1 (some (at_ + (if decide (0 < way) = true then 1 else 0))) none
          exact small (by omega)
        · exact k _ 3 H2 (by omega) ((nice_cat (nice_cat (nice_cut hz _ _) hsg) (nice_cut hz _ _)).mono (by decide) (by decide) (by decide)) s2 hB2
      · refine ⟨_, _, rfl, rfl, ?_, ?_⟩
        · have := l1 none (some at_)
          have := nice_len none_
          exact small (by omega)
        refine ⟨_, rfl, _, rfl, _, rfl, _, _, rfl, rfl, .inr ⟨_, rfl, _, _, rfl, rfl, _, rfl, z, rfl, small (by omega), _, _, rfl, rfl, ?_, ?_⟩⟩
        · rw [Str.length_append]
          have := l1 none (some at_)
          have := nice_len none_
          have := l1 (some (at_ + (if decide (0 < way) = true then 1 else 0))) none
          exact small (by omega)
        · exact k _ 3 H2 (by omega) ((nice_cat (nice_cat (nice_cut hz _ _) none_) (nice_cut hz _ _)).mono (by decide) (by decide) (by decide)) s2 hB2
    rintro _ H3 ⟨rfl, rfl⟩
    refine seq_gen (P := fun σ' H4 => σ' = [some (.ref b), some (.str z), some (.int at_), some (.int way), some (.str sg), none, none, none] ∧ H4 = H3) (fun N hN => ?_) ?_
    · refine ⟨_, rfl, rfl, _, rfl, ite2 (fun e => ?_) (fun e => hN _ _ ⟨rfl, rfl⟩)⟩
      refine ⟨_, rfl, _, rfl, _, rfl, z, rfl, small (by omega), ?_⟩
      refine ⟨_, rfl, _, rfl, _, rfl, _, rfl, _, _, rfl, rfl, _, rfl, z, rfl, small (by omega), ?_⟩
      refine ⟨_, _, rfl, rfl, ?_, ?_⟩
      · have := l1 none (some at_)
        have := l1 (some at_) (some (at_ + 1))
        exact small (by omega)
      refine ⟨_, rfl, _, rfl, _, rfl, z, rfl, small (by omega), _, _, rfl, rfl, ?_, ?_⟩
      · rw [Str.length_append]
        have := l1 none (some at_)
        have := l1 (some at_) (some (at_ + 1))
        have := l1 (some at_) none
        exact small (by omega)
      · exact k _ 3 H3 (by omega) ((nice_cat (nice_cat (nice_cut hz _ _) (nice_cut hz _ _)) (nice_cut hz _ _)).mono (by decide) (by decide) (by decide)) s2 hB2
    rintro _ H4 ⟨rfl, rfl⟩
    have lW : (Txt.split z " ").length ≤ 23 := by
      have e := congrArg List.length (split_wl z)
      rw [List.length_map, wl_len] at e
      have := hz.cnt
      omega
    have nW : 0 < (Txt.split z " ").length := by
      have e := congrArg List.length (split_wl z)
      rw [List.length_map, wl_len] at e
      omega
    refine seq_gen (P := fun σ' H5 => ∃ p, σ' = [some (.ref b), some (.str z), some (.int at_), some (.int way), some (.str sg), some (.ref p), none, none] ∧ H p = none ∧ p ≠ b ∧ SameX [b] H H5 ∧ BoxAt H5 b (n + 3) ∧ H5 p = some (.lst ((Txt.split z " ").map V.str))) (fun N hN => ?_) ?_
    · refine ⟨_, rfl, ⟨z, rfl⟩, z, _, rfl, rfl, by decide +kernel, small (by omega), fun p hp => ?_⟩
      have np : p ≠ b := hB2.new hp
      have h0 : H p = none := by
        cases q : H p with
        | none => rfl
        | some o =>
          have := s2 p o (by simpa using np) q
          rw [hp] at this
          cases this
      refine hN _ _ ⟨p, rfl, h0, np, s2.trans (SameX.of (same_upd hp)), ?_, upd_same⟩
      obtain ⟨u1, u2, u3, q, q2⟩ := hB2
      exact ⟨u1, u2, u3, by rw [upd_ne np.symm]; exact q, q2⟩
    rintro _ H5 ⟨p, rfl, h0, np, s5, hB5, hp5⟩
    generalize Txt.split z " " = W at hwz lW nW hp5
    have pb : p ∉ [b] := by simpa using np
    refine seq_gen (P := fun σ' H6 => ∃ i j : Nat, σ' = [some (.ref b), some (.str z), some (.int at_), some (.int way), some (.str sg), some (.ref p), some (.int i), some (.int j)] ∧ i < W.length ∧ j < W.length ∧ SameX [b] H H6 ∧ BoxAt H6 b (n + 5) ∧ H6 p = some (.lst (W.map V.str))) (fun N hN => ?_) ?_
    · refine ⟨_, rfl, _, rfl, p, _, rfl, .inl (SqL.of hp5), b, n + 3, ((W.map V.str).length : Int), rfl, by rw [List.length_map]; omega, by rw [List.length_map]; omega, hB5, by omega, fun r H6 r0 r1 s6 hB6 => ?_⟩
      have hp6 := s6 p _ pb hp5
      refine ⟨_, rfl, _, rfl, p, _, rfl, .inl (SqL.of hp6), b, n + 4, ((W.map V.str).length : Int), rfl, by rw [List.length_map]; omega, by rw [List.length_map]; omega, hB6, by omega, fun r2 H7 q0 q1 s7 hB7 => ⟨_, _, rfl, ?_⟩⟩
      rw [List.length_map] at r1 q1
      obtain ⟨i, rfl⟩ := Int.eq_ofNat_of_zero_le r0
      obtain ⟨j, rfl⟩ := Int.eq_ofNat_of_zero_le q0
      exact hN _ _ ⟨i, j, rfl, by omega, by omega, s5.trans (s6.trans s7), hB7, s7 p _ pb hp6⟩
    rintro _ H6 ⟨i, j, rfl, hi, hj, s6, hB6, hp6⟩
    have hWj : W[j]? = some W[j] := List.getElem?_eq_getElem hj
    have hWi : W[i]? = some W[i] := List.getElem?_eq_getElem hi
    have ch : ∀ xs : List V, SameX [b] H (upd H6 p (.lst xs)) ∧ BoxAt (upd H6 p (.lst xs)) b (n + 5) := fun xs =>
      ⟨fun c o nc e => by rw [upd_ne (ne_of_none e h0)]; exact s6 c o nc e, by
        obtain ⟨u1, u2, u3, q, q2⟩ := hB6
        exact ⟨u1, u2, u3, by rw [upd_ne np.symm]; exact q, q2⟩⟩
    refine seq_gen (P := fun σ' H7 => ∃ W' : List Str, σ' = [some (.ref b), some (.str z), some (.int at_), some (.int way), some (.str sg), some (.ref p), some (.int i), some (.int j)] ∧ W'.length ≤ 24 ∧ (∀ x ∈ W', wordT 8 x) ∧ SameX [b] H H7 ∧ BoxAt H7 b (n + 5) ∧ H7 p = some (.lst (W'.map V.str))) (fun N hN => ?_) ?_
    · refine ⟨_, rfl, rfl, _, rfl, ite2 (fun e => ?_) (fun e => ?_)⟩
      · refine ⟨_, rfl, .inl ⟨rfl, _, SqL.of hp6⟩, _, rfl, p, W.map V.str, (i : Int), i, .str W[i], rfl, rfl, hp6, by omega, by omega, ?_, by rw [List.getElem?_map, hWi]; rfl, hN _ _ ⟨W.eraseIdx i, rfl, ?_, fun x hx => hwz x (List.mem_of_mem_eraseIdx hx), (ch _).1, (ch _).2, ?_⟩⟩
        · exact PySem.seqIndex_of (by omega) (by rw [List.length_map]; omega)
        · have := List.length_eraseIdx_le (l := W) (i := i)
          omega
        · rw [upd_same]
          exact congrArg (fun l => some (HO.lst l)) (map_erase W i)
      · refine ⟨_, rfl, rfl, _, rfl, ite2 (fun e => ?_) (fun e => ?_)⟩
        · refine ⟨_, rfl, .inl ⟨rfl, _, SqL.of hp6⟩, _, rfl, _, rfl, _, rfl, .inl ⟨p, W.map V.str, (j : Int), .str W[j], rfl, rfl, SqL.of hp6, atI_nat (by rw [List.getElem?_map, hWj]; rfl), p, W.map V.str, (i : Int), .str W[j], rfl, rfl, hp6, by rw [List.length_map]; exact small1000 (by omega), by omega, by omega, hN _ _ ⟨W.take i ++ [W[j]] ++ W.drop i, rfl, ?_, fun x hx => ?_, (ch _).1, (ch _).2, ?_⟩⟩⟩
          · simp
            omega
          · rcases List.mem_append.mp hx with h | h
            · rcases List.mem_append.mp h with h | h
              · exact hwz x (List.mem_of_mem_take h)
              · rw [List.mem_singleton.mp h]
                exact hwz _ (List.getElem_mem hj)
            · exact hwz x (List.mem_of_mem_drop h)
          · rw [upd_same]
            simp
        · refine ⟨_, rfl, _, rfl, .inl ⟨p, W.map V.str, (j : Int), .str W[j], rfl, rfl, SqL.of hp6, atI_nat (by rw [List.getElem?_map, hWj]; rfl), ?_⟩⟩
          refine ⟨_, rfl, _, rfl, p, W.map V.str, (i : Int), i, rfl, rfl, hp6, ?_, hN _ _ ⟨W.set i W[j], rfl, ?_, fun x hx => ?_, (ch _).1, (ch _).2, ?_⟩⟩
          · unfold ixN; rw [if_pos (by omega), if_pos (by rw [List.length_map]; omega)]; rfl
          · rw [List.length_set]
            omega
          · rcases List.mem_or_eq_of_mem_set hx with h | h
            · exact hwz x h
            · rw [h]
              exact hwz _ (List.getElem_mem hj)
          · rw [upd_same, List.map_set]
    rintro _ H7 ⟨W', rfl, lW', hw', s7, hB7, hp7⟩
    refine ⟨⟨_, rfl⟩, _, rfl, _, p, W', rfl, rfl, .inl (SqL.of hp7), ?_, k _ 5 H7 (by omega) ((join_nice hw').mono ?_ (by decide) (by omega)) s7 hB7⟩
    · have := sum_len (l := W') fun x hx => Nat.le_trans (hw' x hx).2.1 (by decide)
      have l1 : (Str.ofString " ").length = 1 := by decide +kernel
      rw [l1]
      omega
    · have : W'.length * (8 + 1) ≤ 24 * 9 := Nat.mul_le_mul_right 9 lW'
      omega
end
end KV

namespace KV
open PySem PySem.Spec PyProof.Rows L2 RZ
abbrev sMixed : Stmt := topS 108
section
variable {P : Program} {w : World} {K : PySem.W.Frag} {mg : Str → Option Value} {base : Heap}
/-! ### _law_mixed -/
def spMixed (K : PySem.W.Frag) (m : Nat) : Sp := fun vs H Q _ => ∃ (B : List Addr) (b : Addr) (n : Nat) (v : V) (d : PyData), vs = [.ref b, v] ∧ b ∈ B ∧ Live B H ∧ BoxAt H b n ∧ n + nodesD d ≤ 2 ^ 40 ∧ Dp K (hide B H) v d ∧ okD d m = true ∧
  ∀ (v' : V) (d' : PyData) (H' : Hp), tupD d' = tupD d → okD d' m = true → SameX [b] H H' → BoxAt H' b (n + nodesD d) → Dp K (hide B H') v' d' → Q v' H'
theorem scMixed : FnScope ["_law_box_here", "_law_matter", "_law_some", "_law_bit"] ["_law_box_here", "_law_matter"] (defScope sMixed) :=
  ⟨rfl, rfl, rfl, by decide +kernel, rfl, by decide +kernel, by decide +kernel⟩
theorem ok_mixed {f fT : Addr} {fd fdT : FuncData} (F : Fun K "_law_mixed" "_law_mixed" sMixed f fd) (bF : Binds K fd ["_law_box_here", "_law_matter"] []) (mF : mg "_law_mixed" = some (.ref f))
    (FT : Fun K "_law_take" "_law_take" sTake fT fdT) (bT : Binds K fdT ["_law_box_here", "_law_below"] []) (mT : mg "_law_take" = some (.ref fT))
    (mn : mg "int" = none) (mi : mg "isinstance" = none) (ml : mg "list" = none) (mt : mg "tuple" = none) :
    ∀ m : Nat, FnOk P w K mg base CX0 (m + 2) f fd ["_law_box_here", "_law_matter"] (spMixed K m) := by
  have GT : FnOk P w K mg base CX0 1 fT fdT ["_law_box_here", "_law_below"] spTake := ok_take FT mn
  intro m
  induction m with
  | zero =>
    refine F.ok scMixed (fun vs H Q E h => ?_) (fun cdv A outer s H vs Q E hr h => ?_)
    · obtain ⟨B, b, n, v, d, rfl, _⟩ := h
      rfl
    · obtain ⟨B, b, n, v, d, rfl, hb, lv, hB, hn, hd, hok, q⟩ := h
      have ha := ok_atom hok
      refine ⟨_, pss_cons (ps_if (pt_not (pt_val (pe_callB cr_isSeq (by rfl) mi boot_isinstance (pa_cons (pv 1) (pa_cons (pe_tup (pa_cons (pe_bltn (v := .ty "list") (by rfl) ml (by decide +kernel) rfl) (pa_cons (pe_bltn (v := .ty "tuple") (by rfl) mt (by decide +kernel) rfl) pa_nil))) pa_nil)))))
        (pss_one (ps_ret (pv 1))) pss_nil) pss_never, ?_⟩
      refine ⟨_, rfl, by show 2 ≤ sizeLine; decide, fun t nt => ⟨_, _, d, rfl, upd_same, dp_same (same_upd nt) (dp_same (hide_same B H) hd), _, rfl, ?_⟩⟩
      rw [ha]
      refine iteT ⟨_, rfl, q _ d _ rfl hok (SameX.of (same_upd nt)) ((hB.same (same_upd nt)).le (Nat.le_add_right _ _)) ?_⟩
      exact dp_same (hide_of_same (same_upd nt)) hd
  | succ m ih =>
    refine F.ok scMixed (fun vs H Q E h => ?_) (fun cdv A outer s H vs Q E hr h => ?_)
    · obtain ⟨B, b, n, v, d, rfl, _⟩ := h
      rfl
    · obtain ⟨B, b, n, v, d, rfl, hb, lv, hB, hn, hd, hok, q⟩ := h
      refine ⟨_, pss_cons (ps_if (pt_not (pt_val (pe_callB cr_isSeq (by rfl) mi boot_isinstance (pa_cons (pv 1) (pa_cons (pe_tup (pa_cons (pe_bltn (v := .ty "list") (by rfl) ml (by decide +kernel) rfl) (pa_cons (pe_bltn (v := .ty "tuple") (by rfl) mt (by decide +kernel) rfl) pa_nil))) pa_nil)))))
        (pss_one (ps_ret (pv 1))) pss_nil)
        (pss_cons (ps_setLc (i := 2) (own := [("_law_bit", 3)]) (g := gName 3) (tt := tYes) rfl scMixed.nd rfl rfl (sw_true rfl rfl rfl (by decide +kernel)) (pi_dat B (pv 1)) (blkOk_by (N := ["_law_box_here", "_law_matter", "_law_some", "_law_bit"]) (sc := defScope sMixed) (by decide +kernel))
          (fun _ _ _ _ _ => pg_name (i := 3) scMixed.nd rfl (Or.inl rfl)) (fun _ _ _ _ _ => pts_nil) (fun _ _ _ _ _ => pe_call ih hr (by rfl) mF F.kp bF .nil pass0 (pa_cons (pv 0) (pa_cons (pv 3) pa_nil))))
        (pss_one (ps_ret (pe_ifExp (pt_cmpR op_eq (pe_call GT (hr.mono (by omega)) (by rfl) mT FT.kp bT .nil pass0 (pa_cons (pv 0) (pa_cons pe_int pa_nil))) pe_int (nomark _)) (pv 2)
          (pe_callTy call_tuple_of (by rfl) mt PyProof.Rows.boot_tuple (pa_cons (pv 2) pa_nil)))))), ?_⟩
      refine ⟨_, rfl, by show 2 ≤ sizeLine; decide, fun t nt => ⟨_, _, d, rfl, upd_same, dp_same (same_upd nt) (dp_same (hide_same B H) hd), _, rfl, ?_⟩⟩
      have s1 : Same H (upd H t (.tup [.ty "list", .ty "tuple"])) := same_upd nt
      have hd1 : Dp K (hide B (upd H t (.tup [.ty "list", .ty "tuple"]))) v d := dp_same (hide_of_same s1) hd
      have lv1 := lv.same s1
      have hB1 := hB.same s1
      generalize upd H t (.tup [.ty "list", .ty "tuple"]) = H1 at s1 hd1 lv1 hB1
      cases ha : isSeq d with
      | false => exact iteT ⟨_, rfl, q _ d _ rfl hok (SameX.of s1) (hB1.le (Nat.le_add_right _ _)) hd1⟩
      | true =>
        refine iteF ?_
        obtain ⟨a, xs, ds, rfl, hk, hall⟩ := dp_seq hd1 ha
        have hkk : d = .list ds ∨ d = .tuple ds := hk.imp And.right And.right
        obtain ⟨m', hm, hlen, hok2⟩ := ok_seq hkk hok
        have em : m' = m := by omega
        subst em
        have enod : nodesD d = nodesDs ds + 1 := by
          rcases hkk with rfl | rfl <;> simp only [nodesD]
        have etup : tupD d = .tuple (ds.map tupD) := by
          rcases hkk with rfl | rfl <;> simp only [tupD, tupDs_map]
        have hl := dps_len hall
        have hkB : SqL K (hide B H1) a xs ∨ SqT K (hide B H1) a xs := hk.imp And.left And.left
        have bne : ∀ {H2 : Hp} {k : Nat}, BoxAt H2 b k → H2 b ≠ none := fun {H2 k} z e => by
          obtain ⟨_, _, _, z1, _⟩ := z
          rw [z1] at e
          cases e
        refine ⟨_, rfl, a, xs, rfl, hkB, fun J G wk hG D nD => lc_dp (K := K) wk (ds := ds) (B := B) (C := [b]) (i := 3) hall lv1 (fun c hc => by rw [List.mem_singleton.mp hc]; exact hb) nD (by omega) hG
            (fun j H2 => BoxAt H2 b (n + nodesDs (ds.take j))) (by simpa only [List.take_zero, nodesDs, Nat.add_zero] using hB1) (fun j H2 o _ z => ?_) (fun j H2 z c hc => by rw [List.mem_singleton.mp hc]; exact bne z) (fun e e' => tupD e' = tupD e ∧ okD e' m' = true)
            (fun j x e H2 Q2 _ he lv2 z hdp2 k2 => ⟨_, rfl, _, rfl, D :: B, b, _, x, e, rfl, List.mem_cons_of_mem _ hb, lv2, z, ?_, hdp2, okDs_get hok2 he, fun y e' H3 et eo s3 hB3 hd3 => k2 y H3 e' s3 ⟨et, eo⟩ hd3 ?_⟩)
            (fun H2 acc ds' s2 lv2 z hD2 hacc h2 => ?_)⟩
        · obtain ⟨x1, y1, c1, z1, z2⟩ := z
          have nbD : b ≠ D := fun e => lv1.new nD (e ▸ hb)
          exact ⟨x1, y1, c1, by rw [upd_ne nbD]; exact z1, z2⟩
        · have h1 := nodes_le ds (j + 1)
          rw [nodes_take he] at h1
          omega
        · rw [nodes_take he, ← Nat.add_assoc]
          exact hB3
        · -- the draw
          have nDB : D ∉ B := lv1.new nD
          have nbD : D ≠ b := fun e => nDB (e ▸ hb)
          rw [hl, List.take_length] at z
          obtain ⟨ht2, hok3⟩ := all2_tup h2
          have hl3 := all2_len h2
          refine ⟨_, rfl, b, _, 2, rfl, by decide, by decide, z, by omega, fun r H3 r0 r1 s3 hB3 => ?_⟩
          have hD3 : H3 D = some (.lst acc) := s3 D _ (fun e => nbD (List.mem_singleton.mp e)) hD2
          have s23 : SameX [b] H H3 := fun c o e1 e2 => by
            have e3 := s1 c o e2
            have cD : c ≠ D := ne_of_none e3 nD
            exact s3 c o e1 (s2 c o (fun z => (List.mem_cons.mp z).elim cD e1) e3)
          have acc3 : DpAll K (hide B H3) acc ds' := dps_same (hide_leave.trans (s3.hide fun c hc => by rw [List.mem_singleton.mp hc]; exact hb)) hacc
          have hB4 : BoxAt H3 b (n + nodesD d) := hB3.le (by omega)
          have lv3 : Live B H3 := s3.live lv2.tail fun c hc => by rw [List.mem_singleton.mp hc]; exact bne hB3
          refine ⟨rfl, _, rfl, ite2 (fun e => ?_) (fun e => ?_)⟩
          · refine ⟨_, rfl, q _ (.list ds') _ ?_ (ok_mk (by omega) hok3).1 s23 hB4 (.lst (SqL.of (by rw [hide_out nDB]; exact hD3)) acc3)⟩
            rw [etup, ← ht2]
            simp only [tupD, tupDs_map]
          · refine ⟨_, rfl, _, _, rfl, .inl ⟨SqL.of hD3, fun l nl => q _ (.tuple ds') _ ?_ (ok_mk (by omega) hok3).2 ?_ (hB4.same (same_upd nl)) (.tup (SqT.of (hide_new lv3 nl)) (dps_same (hide_grow lv3 nl) acc3))⟩⟩
            · rw [etup, ← ht2]
              simp only [tupD, tupDs_map]
            · exact s23.trans (SameX.of (same_upd nl))
end
end KV

namespace KV
open PySem PySem.Spec PyProof.Rows L2 RZ
/-! ### a setup as data, as lists or tuples, as a value -/
theorem tup_seq : ∀ {d : PyData} {es : List PyData}, tupD d = .tuple es → ∃ ds, (d = .list ds ∨ d = .tuple ds) ∧ ds.map tupD = es
  | .list ds, es, e => ⟨ds, .inl rfl, by
      have e : PyData.tuple (tupDs ds) = .tuple es := e
      rw [tupDs_map] at e
      exact PyData.tuple.inj e⟩
  | .tuple ds, es, e => ⟨ds, .inr rfl, by
      have e : PyData.tuple (tupDs ds) = .tuple es := e
      rw [tupDs_map] at e
      exact PyData.tuple.inj e⟩
  | .none, es, e => by cases e
  | .bool b, es, e => by cases e
  | .int i, es, e => by cases e
  | .str x, es, e => by cases e
  | .dict l, es, e => by cases e
theorem dp_seqT {K : PySem.W.Frag} {H : Hp} {v : V} {d : PyData} {es : List PyData} (h : Dp K H v d) (e : tupD d = .tuple es) : ∃ p xs ds, v = .ref p ∧ (SqL K H p xs ∨ SqT K H p xs) ∧ DpAll K H xs ds ∧ ds.map tupD = es := by
  obtain ⟨ds, rfl | rfl, e2⟩ := tup_seq e
  · cases h with
    | lst h1 h2 => exact ⟨_, _, ds, rfl, .inl h1, h2, e2⟩
  · cases h with
    | tup h1 h2 => exact ⟨_, _, ds, rfl, .inr h1, h2, e2⟩
theorem dp_int {K : PySem.W.Frag} {H : Hp} {v : V} {d : PyData} {i : Int} (h : Dp K H v d) (e : tupD d = .int i) : v = .int i := by
  cases h with
  | int j =>
    have e : PyData.int j = .int i := e
    rw [PyData.int.inj e]
  | non => cases e
  | bl c => cases e
  | str x => cases e
  | lst h1 h2 => cases e
  | tup h1 h2 => cases e
theorem dp_ent {K : PySem.W.Frag} {H : Hp} {v : V} {d : PyData} {o : Option Str} (h : Dp K H v d) (e : tupD d = entD o) : v = entV o := by
  cases o with
  | none =>
    cases h with
    | non => rfl
    | int j => cases e
    | bl c => cases e
    | str x => cases e
    | lst h1 h2 => cases e
    | tup h1 h2 => cases e
  | some y =>
    cases h with
    | str x =>
      have e : PyData.str x = .str y := e
      rw [PyData.str.inj e]
      rfl
    | non => cases e
    | int j => cases e
    | bl c => cases e
    | lst h1 h2 => cases e
    | tup h1 h2 => cases e
theorem dps_ents {K : PySem.W.Frag} {H : Hp} : ∀ {xs : List V} {ds : List PyData} {es : List (Option Str)}, DpAll K H xs ds → ds.map tupD = es.map entD → xs = es.map entV
  | [], [], [], _, _ => rfl
  | [], [], o :: es, _, e => by cases e
  | x :: xs, d :: ds, [], _, e => by cases e
  | x :: xs, d :: ds, o :: es, .cons h1 h2, e => by
    rw [List.map_cons, List.map_cons, List.cons.injEq] at e
    rw [List.map_cons, ← dps_ents h2 e.2, dp_ent h1 e.1]
theorem setupV_of {K : PySem.W.Frag} {H : Hp} {v : V} {d : PyData} {a b : Nat} {ps : List Str} {es : List (Option Str)} (h : Dp K H v d) (e : tupD d = setD a b ps es) : SetupV K H v a b ps es := by
  obtain ⟨p, xs, ds, rfl, hp, hA, e2⟩ := dp_seqT h e
  have four : ∃ d1 d2 d3 d4, ds = [d1, d2, d3, d4] := by
    have l := congrArg List.length e2
    rw [List.length_map] at l
    match ds, l with
    | [d1, d2, d3, d4], _ => exact ⟨d1, d2, d3, d4, rfl⟩
  obtain ⟨d1, d2, d3, d4, rfl⟩ := four
  cases hA with
  | cons h1 hA =>
    cases hA with
    | cons h2 hA =>
      cases hA with
      | cons h3 hA =>
        cases hA with
        | cons h4 hA =>
          cases hA
          rw [List.map_cons, List.map_cons, List.map_cons, List.map_cons, List.map_nil] at e2
          rw [List.cons.injEq, List.cons.injEq, List.cons.injEq, List.cons.injEq] at e2
          obtain ⟨q1, q2, q3, q4, _⟩ := e2
          obtain ⟨q, ys, es3, rfl, hq, hA3, e3⟩ := dp_seqT h3 q3
          obtain ⟨r, zs, es4, rfl, hr, hA4, e4⟩ := dp_seqT h4 q4
          have f1 := dp_int h1 q1
          have f2 := dp_int h2 q2
          subst f1 f2
          have f3 := dps_ents (es := ps.map some) hA3 (by rw [e3, List.map_map]; rfl)
          have f4 := dps_ents hA4 e4
          have f3' : ys = ps.map V.str := by rw [f3, List.map_map]; rfl
          subst f3' f4
          exact ⟨p, q, r, rfl, hp, hq, hr⟩
end KV

namespace KV
open PySem PySem.Spec PyProof.Rows L2 RZ
theorem word_parts {x : Str} (h : wordS x = true) : 0 < x.length ∧ x.length ≤ 8 ∧ x.cps.toList.all isLet = true := by
  have z : (decide (0 < x.length) && decide (x.length ≤ 8) && x.cps.toList.all fun c => decide (97 ≤ c) && decide (c ≤ 122)) = true := h
  rw [Bool.and_eq_true, Bool.and_eq_true, decide_eq_true_eq, decide_eq_true_eq] at z
  exact ⟨z.1.1, z.1.2, z.2⟩
theorem word_is {x : Str} (h : wordS x = true) : isWordD (.str x) 8 = true := h
theorem word_lf1 {x : Str} (h : wordS x = true) : lf1 (.str x) = true := by
  obtain ⟨h1, h2, h3⟩ := word_parts h
  show (decide (x.length ≤ 15) && x.cps.toList.all fun c => decide (c < 128)) = true
  rw [Bool.and_eq_true, decide_eq_true_eq]
  refine ⟨by omega, ?_⟩
  rw [List.all_eq_true] at h3 ⊢
  intro c hc
  have z : (decide (97 ≤ c) && decide (c ≤ 122)) = true := h3 c hc
  rw [Bool.and_eq_true, decide_eq_true_eq, decide_eq_true_eq] at z
  exact decide_eq_true (by omega)
theorem strOf_map (ps : List Str) : (ps.map PyData.str).map strOfD = ps := by
  rw [List.map_map]
  exact List.map_id ps
theorem setup_good {l : Nat} {d : PyData} (h : SetupD l d) : gD lf1 5 d 3 = true := by
  obtain ⟨sp, rm, ps, ss, rfl, a1, a2, a3, a4, wp, asc, _, lp, ls, hs⟩ := h
  have gp : gDs lf1 5 (ps.map PyData.str) 1 = true := gDs_of fun e he => by
    obtain ⟨p, hp, rfl⟩ := List.mem_map.mp he
    simp only [gD]
    exact word_lf1 (wp p hp)
  have gs : gDs lf1 5 ss 1 = true := gDs_of fun e he => by
    rcases hs e he with rfl | ⟨p, hp, rfl⟩
    · simp only [gD]
    · simp only [gD]
      exact word_lf1 (wp p hp)
  have g1 : gD lf1 5 (.int sp) 2 = true := by
    simp only [gD]
    exact decide_eq_true (by omega)
  have g2 : gD lf1 5 (.int rm) 2 = true := by
    simp only [gD]
    exact decide_eq_true (by omega)
  refine (gD_mk (m := 2) (by show 4 ≤ 5; decide) (gDs_of fun e he => ?_)).2
  rcases List.mem_cons.mp he with rfl | he
  · exact g1
  rcases List.mem_cons.mp he with rfl | he
  · exact g2
  rcases List.mem_cons.mp he with rfl | he
  · exact (gD_mk (m := 1) (by rw [List.length_map]; omega) gp).2
  · rw [List.mem_singleton.mp he]
    exact (gD_mk (m := 1) (by omega) gs).2
theorem setup_is {l : Nat} {d : PyData} (h : SetupD l d) : isSetupD d = true := by
  obtain ⟨sp, rm, ps, ss, rfl, a1, a2, a3, a4, wp, asc, _, lp, ls, hs⟩ := h
  have n1 : isNumD (.int sp) 1 = true := decide_eq_true a1
  have n2 : isNumD (.int rm) 1 = true := decide_eq_true a3
  have n3 : areNamesD (.tuple (ps.map PyData.str)) = true := by
    show ((ps.map PyData.str).all (fun e => isWordD e 8) && ascS ((ps.map PyData.str).map strOfD)) = true
    rw [strOf_map, asc, Bool.and_true, List.all_map, List.all_eq_true]
    exact fun p hp => word_is (wp p hp)
  have n4 : slotsD (pipesD (.tuple (ps.map PyData.str))) (.tuple ss) = true := by
    show ss.all (slotD ((ps.map PyData.str).map strOfD)) = true
    rw [strOf_map, List.all_eq_true]
    intro e he
    rcases hs e he with rfl | ⟨p, hp, rfl⟩
    · rfl
    · exact decide_eq_true hp
  show (isNumD (.int sp) 1 && isNumD (.int rm) 1 && areNamesD (.tuple (ps.map PyData.str)) && slotsD (pipesD (.tuple (ps.map PyData.str))) (.tuple ss)) = true
  rw [n1, n2, n3, n4]
  rfl
theorem bulk_fits : 132 * bulkN 6 4 + 130 ≤ 16777216 := by decide +kernel
/-- the parts of a drawn SETUP -/
theorem drawn_parts {l : Nat} {d : PyData} (h : SetupD l d) : ∃ (a b : Nat) (ps : List Str) (es : List (Option Str)), d = setD a b ps es ∧ 1 ≤ a ∧ a ≤ 6 ∧ 1 ≤ b ∧ b ≤ 8 ∧ (∀ p ∈ ps, isWordD (.str p) 8 = true) ∧ ascS ps = true ∧ ps.length ≤ 4 ∧ es.length ≤ 5 ∧ ∀ o ∈ es, ∀ x, o = some x → x ∈ ps := by
  obtain ⟨sp, rm, ps, ss, rfl, a1, a2, a3, a4, wp, asc, _, lp, ls, hs⟩ := h
  obtain ⟨a, rfl⟩ := Int.eq_ofNat_of_zero_le (by omega : 0 ≤ sp)
  obtain ⟨b, rfl⟩ := Int.eq_ofNat_of_zero_le (by omega : 0 ≤ rm)
  have key : ∀ ss : List PyData, (∀ e ∈ ss, e = .none ∨ ∃ p ∈ ps, e = .str p) → ∃ es : List (Option Str), ss = es.map entD ∧ es.length = ss.length ∧ ∀ o ∈ es, ∀ x, o = some x → x ∈ ps := by
    intro ss
    induction ss with
    | nil => exact fun _ => ⟨[], rfl, rfl, fun o ho => absurd ho List.not_mem_nil⟩
    | cons e ss ih =>
      intro hs
      obtain ⟨es, e1, e2, e3⟩ := ih fun x hx => hs x (List.mem_cons_of_mem _ hx)
      rcases hs e List.mem_cons_self with rfl | ⟨p, hp, rfl⟩
      · refine ⟨none :: es, by rw [List.map_cons, ← e1]; rfl, by simp [e2], fun o ho x hx => ?_⟩
        rcases List.mem_cons.mp ho with z | z
        · rw [z] at hx; cases hx
        · exact e3 o z x hx
      · refine ⟨some p :: es, by rw [List.map_cons, ← e1]; rfl, by simp [e2], fun o ho x hx => ?_⟩
        rcases List.mem_cons.mp ho with z | z
        · rw [z] at hx
          cases hx
          exact hp
        · exact e3 o z x hx
  obtain ⟨es, e1, e2, e3⟩ := key ss hs
  exact ⟨a, b, ps, es, by rw [e1]; rfl, by omega, by omega, by omega, by omega, fun p hp => word_is (wp p hp), asc, lp, by omega, e3⟩
/-- a drawn SETUP is read back from its text -/
theorem drawn_back {a b : Nat} {ps : List Str} {es : List (Option Str)} (a1 : 1 ≤ a) (a2 : a ≤ 6) (b1 : 1 ≤ b) (b2 : b ≤ 8) (wp : ∀ p ∈ ps, isWordD (.str p) 8 = true) (nd : ps.Nodup) (he : ∀ o ∈ es, ∀ x, o = some x → x ∈ ps) (hs : isSetupD (setD a b ps es) = true) :
    readS (Txt.split (Txt.join " " (setupWords a b ps es)) " ") = some (setD a b ps es) := by
  have hw := setup_words (a := a) (b := b) (ps := ps) (es := es) (by omega) (by omega) wp fun o ho x hx => wp x (he o ho x hx)
  rw [join_back (by simp [setupWords]) hw]
  exact read_back a1 (by omega) b1 (by omega) nd (fun o ho x hx => (letters_word (wp x (he o ho x hx))).2) hs
/-- its text is a short line -/
theorem drawn_nice {a b : Nat} {ps : List Str} {es : List (Option Str)} (a2 : a ≤ 6) (b2 : b ≤ 8) (lp : ps.length ≤ 4) (le : es.length ≤ 5) (wp : ∀ p ∈ ps, isWordD (.str p) 8 = true) (he : ∀ o ∈ es, ∀ x, o = some x → x ∈ ps) :
    Nice 200 8 22 (TL.tl (Txt.join " " (setupWords a b ps es))) ∧ ∀ x ∈ Txt.split (Txt.join " " (setupWords a b ps es)) " ", wordT 8 x := by
  have hw := setup_words (a := a) (b := b) (ps := ps) (es := es) (by omega) (by omega) wp fun o ho x hx => wp x (he o ho x hx)
  have ll : (setupWords a b ps es).length ≤ 14 := by
    simp only [setupWords, List.length_append, List.length_cons, List.length_nil, List.length_map]
    omega
  refine ⟨(join_nice hw).mono ?_ (Nat.le_refl _) (by omega), ?_⟩
  · have := Nat.mul_le_mul_right (8 + 1) ll
    omega
  · rw [join_back (by simp [setupWords]) hw]
    exact hw
theorem asc_nodup {ps : List Str} (h : ascS ps = true) : ps.Nodup := (ascS_pw ps h).imp fun {a b} hl e => by
  subst e
  exact List.lt_irrefl _ hl
end KV

namespace KV
open PySem PySem.Spec PyProof.Rows L2 RZ
/-! ### a line in capitals -/
theorem up1_blank (c : Nat) : PyProof.Rows.up1 c = 32 ↔ c = 32 := by
  unfold PyProof.Rows.up1
  split <;> omega
theorem up1_le (c : Nat) : PyProof.Rows.up1 c ≤ c := by
  unfold PyProof.Rows.up1
  split <;> omega
theorem nice_map {n m k : Nat} {l : List Nat} (h : Nice n m k l) : Nice n m k (l.map PyProof.Rows.up1) := by
  refine ⟨by rw [List.length_map]; exact h.len, fun a b c e nb => ?_, ?_, fun c hc => ?_⟩
  · obtain ⟨a', r, e1, ea, er⟩ := List.map_eq_append_iff.mp e
    obtain ⟨b', c', e2, eb, ec⟩ := List.map_eq_append_iff.mp er
    have := h.run a' b' c' (by rw [e1, e2]) fun z => nb (by
      rw [← eb]
      exact List.mem_map.mpr ⟨32, z, (up1_blank 32).mpr rfl⟩)
    rw [← eb, List.length_map]
    exact this
  · have : (l.map PyProof.Rows.up1).count 32 = l.count 32 := by
      have aux : ∀ l : List Nat, (l.map PyProof.Rows.up1).count 32 = l.count 32 := by
        intro l
        induction l with
        | nil => rfl
        | cons c l ih =>
          rw [List.map_cons, List.count_cons, List.count_cons, ih]
          by_cases e : c = 32
          · have e2 := (up1_blank c).mpr e
            rw [e2, e]
          · have e2 : PyProof.Rows.up1 c ≠ 32 := fun z => e ((up1_blank c).mp z)
            simp [e, e2]
      exact aux l
    rw [this]
    exact h.cnt
  · obtain ⟨d, hd, e⟩ := List.mem_map.mp hc
    have := h.cp d hd
    have := up1_le d
    omega
end KV

namespace KV
open PySem PySem.Spec PyProof.Rows L2 PySem.Froz
/-! ### a set of few nested keys, none of which is there twice -/
abbrev NK (P : Program) (w : World) (h : Heap) (k : NestedKey) (a : Addr) : Prop := (nestedKind P w).is h k a
section
variable {P : Program} {w : World}
def ClsAt (P : Program) (w : World) (n : Nat) (s : Shared) (v : Value) : Prop := ∀ (A : Around) (E : Value → Shared → Prop) (Q : Bool → Shared → Prop), Q false s → wpAny (model P w) A (ofAClassStatement n v) Q E s
def ValAt (P : Program) (w : World) (n : Nat) (s : Shared) (v : Value) : Prop := ∀ (A : Around) (E : Value → Shared → Prop) (Q : Bool → Shared → Prop), (∀ b, Q b s) → wpAny (model P w) A (hashByValue n v) Q E s
theorem cls_tup {n : Nat} {s : Shared} {a : Addr} {o : Obj} {vs : Array Value} {m : Nat} (hg : s.heap.get? a = some o) (hc : o.cls = .type "tuple") (hd : o.data = .seq vs m) (all : ∀ v ∈ vs.toList, ClsAt P w n s v) : ClsAt P w (n + 1) s (.ref a) := by
  intro A E Q q
  have tt : (("tuple" : String) == "tuple") = true := beq_self_eq_true _
  unfold ofAClassStatement
  refine wpAny_bind (wpAny_typeOf (s := s) (T := "tuple") ⟨o, hg, hc⟩ ?_)
  dsimp only
  simp only [tt, if_true, Bool.not_true, Bool.false_eq_true, if_false]
  try refine wpAny_bind (wpAny_pure ?_)
  try simp only [Bool.not_true, Bool.false_eq_true, if_false]
  refine wpAny_bind (wpAny_seqItems hg hd ?_)
  dsimp only
  refine wpAny_bind ?_
  rw [← Array.forIn_toList]
  refine wpAny_forIn_list _ (fun l r z => z = s ∧ r.1 = none ∧ ∀ v ∈ l, ClsAt P w n s v) _ (fun v l r z h => ?_) (fun r z h => ?_) _ _ ⟨rfl, rfl, all⟩
  · obtain ⟨rfl, e, h⟩ := h
    refine wpAny_bind (h v List.mem_cons_self _ _ _ ?_)
    simp only [Bool.false_eq_true, if_false]
    exact wpAny_pure ⟨rfl, rfl, fun u hu => h u (List.mem_cons_of_mem _ hu)⟩
  · obtain ⟨rfl, e, _⟩ := h
    obtain ⟨r1, r2⟩ := r
    have e : r1 = none := e
    subst e
    exact wpAny_pure q
theorem val_tup {n : Nat} {s : Shared} {a : Addr} {o : Obj} {vs : Array Value} {m : Nat} (hg : s.heap.get? a = some o) (hc : o.cls = .type "tuple") (hd : o.data = .seq vs m) (all : ∀ v ∈ vs.toList, ValAt P w n s v) : ValAt P w (n + 1) s (.ref a) := by
  intro A E Q q
  unfold hashByValue
  refine wpAny_bind (wpAny_specialOf (s := s) (T := "tuple") ⟨o, hg, hc⟩ F.slot_tuple_hash.lookup ?_)
  refine wpAny_bind (wpAny_seqItems hg hd ?_)
  refine wpAny_bind ?_
  rw [Option.getD_some, ← Array.forIn_toList]
  refine wpAny_forIn_list _ (fun l r z => z = s ∧ r.1 = none ∧ ∀ v ∈ l, ValAt P w n s v) _ (fun v l r z h => ?_) (fun r z h => ?_) _ _ ⟨rfl, rfl, all⟩
  · obtain ⟨rfl, e, h⟩ := h
    refine wpAny_bind (h v List.mem_cons_self _ _ _ fun b => ?_)
    cases b with
    | true => exact wpAny_pure ⟨rfl, rfl, fun u hu => h u (List.mem_cons_of_mem _ hu)⟩
    | false => exact wpAny_pure (wpAny_pure (q false))
  · obtain ⟨rfl, e, _⟩ := h
    obtain ⟨r1, r2⟩ := r
    have e : r1 = none := e
    subst e
    exact wpAny_pure (q true)
mutual
theorem cls_key : ∀ (k : NestedKey) (v : Value) (n : Nat) (s : Shared), NestedIs s.heap k v → k.depth ≤ n → ClsAt P w n s v
  | .none, _, n, s, x, _ => by
    cases x
    intro A E Q h
    cases n <;> exact wpAny_pure h
  | .num i, _, n, s, x, _ => by
    cases x <;> intro A E Q h <;> cases n <;> exact wpAny_pure h
  | .text y, _, n, s, x, _ => by
    cases x
    intro A E Q h
    cases n <;> exact wpAny_pure h
  | .tup ks, _, n, s, x, hn => by
    cases x with
    | tup hg hc hd hk =>
      simp only [NestedKey.depth] at hn
      cases n with
      | zero => omega
      | succ n => exact cls_tup hg hc hd (cls_keys ks _ n s hk (by omega))
theorem cls_keys : ∀ (ks : List NestedKey) (vs : List Value) (n : Nat) (s : Shared), NestedAll s.heap ks vs → NestedKey.depthAll ks ≤ n → ∀ v ∈ vs, ClsAt P w n s v
  | [], _, n, s, x, _, v, hv => by
    cases x
    cases hv
  | k :: ks, _, n, s, x, hn, v, hv => by
    cases x with
    | cons x1 x2 =>
      simp only [NestedKey.depthAll] at hn
      rcases List.mem_cons.mp hv with e | hv
      · rw [e]
        exact cls_key k _ n s x1 (by omega)
      · exact cls_keys ks _ n s x2 (by omega) v hv
end
mutual
theorem val_key : ∀ (k : NestedKey) (v : Value) (n : Nat) (s : Shared), NestedIs s.heap k v → k.depth ≤ n → ValAt P w n s v
  | .none, _, n, s, x, _ => by
    cases x
    intro A E Q h
    cases n <;> exact wpAny_pure (h true)
  | .num i, _, n, s, x, _ => by
    cases x <;> intro A E Q h <;> cases n <;> exact wpAny_pure (h true)
  | .text y, _, n, s, x, _ => by
    cases x
    intro A E Q h
    cases n <;> exact wpAny_pure (h false)
  | .tup ks, _, n, s, x, hn => by
    cases x with
    | tup hg hc hd hk =>
      simp only [NestedKey.depth] at hn
      cases n with
      | zero => omega
      | succ n => exact val_tup hg hc hd (val_keys ks _ n s hk (by omega))
theorem val_keys : ∀ (ks : List NestedKey) (vs : List Value) (n : Nat) (s : Shared), NestedAll s.heap ks vs → NestedKey.depthAll ks ≤ n → ∀ v ∈ vs, ValAt P w n s v
  | [], _, n, s, x, _, v, hv => by
    cases x
    cases hv
  | k :: ks, _, n, s, x, hn, v, hv => by
    cases x with
    | cons x1 x2 =>
      simp only [NestedKey.depthAll] at hn
      rcases List.mem_cons.mp hv with e | hv
      · rw [e]
        exact val_key k _ n s x1 (by omega)
      · exact val_keys ks _ n s x2 (by omega) v hv
end
variable {A : Around} {E : Value → Shared → Prop} {s : Shared}
theorem unseen {k : NestedKey} {b : Addr} {Q : Bool → Shared → Prop} (hk : NK P w s.heap k b) {ys : List Value} (hy : ∀ y ∈ ys, ∃ k' c, y = Value.ref c ∧ NK P w s.heap k' c) (q : Q false s) :
    wpAny (model P w) A (searchCouldBeSeen (.ref b) ys) Q E s := by
  unfold searchCouldBeSeen
  refine wpAny_bind ?_
  refine wpAny_forIn_list _ (fun l r z => z = s ∧ r.1 = none ∧ ∀ y ∈ l, ∃ k' c, y = Value.ref c ∧ NK P w s.heap k' c) _ (fun v l r z h => ?_) (fun r z h => ?_) _ _ ⟨rfl, rfl, hy⟩
  · obtain ⟨rfl, e, h⟩ := h
    obtain ⟨k', c, rfl, hc⟩ := h v List.mem_cons_self
    have on : ∀ y ∈ l, ∃ k' c, y = Value.ref c ∧ NK P w z.heap k' c := fun u hu => h u (List.mem_cons_of_mem _ hu)
    dsimp only
    by_cases hv : (b == c || (carriedByValue (.ref b) && carriedByValue (.ref c))) = true
    · exact wp_if_pos hv (wpAny_pure ⟨rfl, rfl, on⟩)
    · refine wp_if_neg hv (wpAny_bind ((nestedKind P w).quiet hk ?_))
      simp only [Bool.not_true, Bool.false_eq_true, if_false]
      refine wpAny_bind ((nestedKind P w).quiet hc ?_)
      simp only [Bool.not_true, Bool.false_eq_true, if_false]
      refine wpAny_bind (cls_key _ _ 8 _ hk.1 hk.2 _ _ _ ?_)
      simp only [Bool.false_eq_true, if_false]
      refine wpAny_bind (cls_key _ _ 8 _ hc.1 hc.2 _ _ _ ?_)
      simp only [Bool.false_eq_true, if_false]
      exact wpAny_pure ⟨rfl, rfl, on⟩
  · obtain ⟨rfl, e, _⟩ := h
    obtain ⟨r1, r2⟩ := r
    have e : r1 = none := e
    subst e
    exact wpAny_pure q
/-- the set at a holds the keys L -/
structure KSet (P : Program) (w : World) (h : Heap) (a : Addr) (L : List (Addr × NestedKey)) (D : SD) : Prop where
  ob : h.get? a = some (sObj "set" D)
  rows : D.1.toList = L.map fun p => (p.2.hash w, Value.ref p.1)
  tab : TabOk D.2.2 (L.map fun p => p.2.hash w)
  m7 : D.2.2.mask = 7
  key : ∀ p ∈ L, NK P w h p.2 p.1
  nd : (L.map (·.2)).Nodup
  few : L.length ≤ 4
variable {a : Addr} {L : List (Addr × NestedKey)} {D : SD}
theorem KSet.size {h : Heap} (R : KSet P w h a L D) : D.1.size = L.length := by
  rw [← Array.length_toList, R.rows, List.length_map]
theorem KSet.places {h : Heap} (R : KSet P w h a L D) : D.2.2.place.size = L.length := by
  rw [R.tab.sz, List.length_map]
theorem KSet.fits {h : Heap} (R : KSet P w h a L D) : D.2.2.fits D.1.size = true := by
  have h1 := R.places
  have h2 := R.size
  have h3 := R.few
  have h4 := R.m7
  have h5 : D.2.2.fill ≤ D.2.2.mask := by
    unfold SetTable.fill
    rw [R.tab.dm, h4]
    show D.2.2.place.size + 0 ≤ 7
    omega
  unfold SetTable.fits
  rw [Bool.and_eq_true, beq_iff_eq, decide_eq_true_eq, h1, h2]
  exact ⟨rfl, h5⟩
theorem KSet.entry {h : Heap} (R : KSet P w h a L D) {i : Nat} {p : Addr × NestedKey} (e : L[i]? = some p) : D.1[i]? = some (p.2.hash w, Value.ref p.1) := by
  rw [← Array.getElem?_toList, R.rows, List.getElem?_map, e]
  rfl
theorem nth_clean (m : Nat) : ∀ (n : Nat) (p : SetTable.Probe), p.dummy = none → (nth m p n).dummy = none
  | 0, _, h => h
  | n + 1, p, h => nth_clean m n (adv m p) (by
    unfold adv
    split <;> exact h)
abbrev prb (m : Nat) (h : Int) (c : Nat) : SetTable.Probe := nth m (runAt m (SetTable.bits h % (m + 1)) (SetTable.bits h)) c
theorem prb_on (m : Nat) (h : Int) (c q : Nat) : nth m (prb m h c) q = prb m h (c + q) := (nth_add m c _ q).symm
/-- the search for a key that is not there -/
theorem KSet.look {es : Array (Int × Value)} {ep : Nat} {t : SetTable} (R : KSet P w s.heap a L (es, ep, t)) {x : Addr} {k : NestedKey} (hx : NK P w s.heap k x) (hu : A.units + 8 < cLine) {K : Nat} (hF : K < 10 * SetTable.turns t.mask)
    (hK : way t.mask (k.hash w) K ∉ t.place.toList) (hB : ∀ c, c < K → way t.mask (k.hash w) c ∈ t.place.toList) (new : k ∉ L.map (·.2)) {Q : SetFound → Shared → Prop} (q : Q (.free (way t.mask (k.hash w) K) false) s) :
    ∀ (f c : Nat) (st : Option SetTable.Probe), st.getD (t.probeStart (k.hash w)) = prb t.mask (k.hash w) c → c ≤ K → K - c < f → wpAny (model P w) A (setSearchFrom a (.ref x) (k.hash w) true f st) Q E s
  | 0, _, _, _, _, z => absurd z (Nat.not_lt_zero _)
  | f + 1, c, st, hst, hc, hf => by
    have hlen := R.places
    have ent := fun {i p} => R.entry (i := i) (p := p)
    have hfit := R.fits
    have gw : ¬ t.gaveWay = true := by
      have m7 : t.mask = 7 := R.m7
      unfold SetTable.gaveWay
      rw [m7]
      decide
    have hob := R.ob
    have hris := R.tab.ris
    have hdm := R.tab.dm
    have rows := R.rows
    have keys := R.key
    dsimp only at hlen ent hfit hris hdm rows
    have g := go_spec t hris hdm (fun i => (es[i]?.map (·.1)).getD 0) (k.hash w) (10 * SetTable.turns t.mask) (K - c) (prb t.mask (k.hash w) c) (nth_clean _ _ _ rfl) (by omega)
      (fun j hj => by rw [prb_on]; exact hB (c + j) (by omega)) (by rw [prb_on, Nat.add_sub_cancel' hc]; exact hK)
    rw [setSearchFrom_succ]
    refine wpAny_bind (wpAny_setState_of (o := sObj "set" (es, ep, t)) hob rfl hfit ?_)
    dsimp only
    refine wp_if_neg gw ?_
    try refine wpAny_bind (wpAny_pure ?_)
    rcases g with ⟨j, i, hj, hi, hh, hno, hp⟩ | ⟨hno, hp⟩
    · rw [prb_on, prb_on] at hp
      rw [prb_on] at hi
      have hp2 : t.probe (fun i => (es[i]?.map (·.1)).getD 0) (k.hash w) (st.getD (t.probeStart (k.hash w))) = some (.candidate (way t.mask (k.hash w) (c + j)) i (prb t.mask (k.hash w) (c + (j + 1)))) := by
        rw [hst]
        exact hp
      rw [hp2]
      dsimp only
      have il : i < L.length := by
        have h1 := (List.getElem?_eq_some_iff.mp hi).1
        rw [Array.length_toList] at h1
        omega
      obtain ⟨p, hpi⟩ : ∃ p, L[i]? = some p := ⟨_, List.getElem?_eq_getElem il⟩
      have hm : p ∈ L := List.mem_of_getElem? hpi
      have nek : ¬ p.2 = k := fun e => new (List.mem_map.mpr ⟨p, hm, e⟩)
      have on : wpAny (model P w) A (searchRest a (.ref x) (k.hash w) true f es t (way t.mask (k.hash w) (c + j)) i (prb t.mask (k.hash w) (c + (j + 1)))) Q E s := by
        unfold searchRest
        rw [ent hpi]
        dsimp only
        refine wpAny_bind (wpAny_holding ((nestedKind P w).eqBool hu (keys p hm) hx ?_))
        refine wpAny_bind (wpAny_setState_of (o := sObj "set" (es, ep, t)) hob rfl hfit ?_)
        dsimp only
        refine wp_if_neg (by simp [nek]) ?_
        try refine wpAny_bind (wpAny_pure ?_)
        have same : t.sameMemory t.moves t.mask = some true := if_pos (beq_self_eq_true _)
        rw [same]
        dsimp only
        have hsl : t.slot (way t.mask (k.hash w) (c + j)) = .live i := slot_live hris hi
        simp only [if_true, hsl, ent hpi]
        refine wpAny_bind (wpAny_isSame_ref_self (wpAny_bind (wpAny_pure ?_)))
        simp only [if_true]
        refine wp_if_neg (by simp [nek]) ?_
        exact R.look hx hu hF hK hB new q f (c + (j + 1)) _ rfl (by omega) (by omega)
      by_cases hl : t.led = true
      · refine wp_if_neg (by simp [hl]) ?_
        try refine wpAny_bind (wpAny_pure ?_)
        exact on
      · refine wp_if_pos (by simp [hl]) ?_
        refine wpAny_bind (unseen hx (fun y hy => ?_) ?_)
        · obtain ⟨e, he, ee⟩ := List.mem_map.mp hy
          have he2 : e ∈ es.toList := by
            have he1 : e ∈ es ∧ e.1 = k.hash w := by simpa using he
            simpa using he1.1
          rw [rows] at he2
          obtain ⟨p2, hp2, e2⟩ := List.mem_map.mp he2
          exact ⟨p2.2, p2.1, by rw [← ee, ← e2], keys p2 hp2⟩
        · refine wp_if_neg (by decide) ?_
          try refine wpAny_bind (wpAny_pure ?_)
          exact on
    · rw [prb_on, Nat.add_sub_cancel' hc] at hp
      have hp2 : t.probe (fun i => (es[i]?.map (·.1)).getD 0) (k.hash w) (st.getD (t.probeStart (k.hash w))) = some (.empty (way t.mask (k.hash w) K) none) := by
        rw [hst]
        exact hp
      rw [hp2]
      dsimp only
      exact wpAny_pure q
end
end KV

namespace KV
open PySem PySem.Spec PyProof.Rows L2 PySem.Froz
section
variable {P : Program} {w : World} {A : Around} {E : Value → Shared → Prop} {s : Shared} {a : Addr} {L : List (Addr × NestedKey)} {D : SD}
theorem nk_same {h h' : Heap} {k : NestedKey} {b : Addr} (x : NK P w h k b) (ho : h.get? a = some (sObj "set" D)) (sb : Heap.SameBut a h h') : NK P w h' k b :=
  nestedKind_stays.stays (fun c o vs n e hd => by
    refine (sb.2 c fun z => ?_).trans e
    rw [z, ho] at e
    cases e
    cases hd) x
theorem nk_keep {h h' : Heap} {k : NestedKey} {b : Addr} (x : NK P w h k b) (hk : ∀ c o, h.get? c = some o → h'.get? c = some o) : NK P w h' k b :=
  nestedKind_stays.stays (fun c o _ _ e _ => hk c o e) x
theorem tab_val {t : SetTable} {hs : List Int} (T : TabOk t hs) (b : Bool) : TabOk (if b = true then t else { t with plain := false }) hs := by
  cases b with
  | true => exact T
  | false => exact ⟨T.ris, T.dm, T.sz, T.mok, T.bd, T.reach⟩
theorem mid_perm {α : Type} (l : List α) (n : Nat) (x : α) : (l.take n ++ x :: l.drop n).Perm (x :: l) := by
  have e : l.take n ++ l.drop n = l := List.take_append_drop n l
  exact List.perm_middle.trans (by rw [e])
/-- a new key is added -/
theorem KSet.add {es : Array (Int × Value)} {ep : Nat} {t : SetTable} (R : KSet P w s.heap a L (es, ep, t)) {x : Addr} {k : NestedKey} (hx : NK P w s.heap k x) (hu : A.units + 8 < cLine) (few : L.length ≤ 3) (new : k ∉ L.map (·.2)) {Q : Bool → Shared → Prop}
    (q : ∀ b h' L' D', Heap.SameBut a s.heap h' → KSet P w h' a L' D' → L'.Perm ((x, k) :: L) → Q b { s with heap := h' }) : wpAny (model P w) A (setAddHashed a (.ref x) (k.hash w)) Q E s := by
  have ho := R.ob
  have hsz : es.size = L.length := R.size
  have hfit : t.fits es.size = true := R.fits
  have m7 : t.mask = 7 := R.m7
  obtain ⟨K, hF, hK, hB⟩ := R.tab.first (by
    show (L.map fun p => p.2.hash w).length ≤ t.mask
    rw [List.length_map, m7]
    omega) (k.hash w)
  dsimp only at hF hK hB
  obtain ⟨q1, q2, q3, q4, q5, q6, q7, q8, q9⟩ := R.tab.put hK hB
  dsimp only at q1 q2 q3 q4 q5 q6 q7 q8 q9
  have big : K < 100000 := by
    have : SetTable.turns t.mask ≤ 142 := by
      rw [m7]
      decide
    omega
  have rows : es.toList = L.map fun p => (p.2.hash w, Value.ref p.1) := R.rows
  unfold setAddHashed
  refine wpAny_holding ?_
  rw [show (100000 : Nat) = 99999 + 1 from rfl, setAddHashedIn_succ]
  refine wpAny_bind (wpAny_setState_of (o := sObj "set" (es, ep, t)) ho rfl hfit ?_)
  dsimp only
  refine wp_if_neg (by simp [byScan, Value.scannable]) ?_
  try refine wpAny_bind (wpAny_pure ?_)
  unfold setSearch
  refine wpAny_bind (R.look hx hu hF hK hB new ?_ 100000 0 none rfl (Nat.zero_le _) (by omega))
  dsimp only
  refine wpAny_bind (wpAny_setState_of (o := sObj "set" (es, ep, t)) ho rfl hfit ?_)
  dsimp only
  generalize hpt : t.put (way t.mask (k.hash w) K) = pt at q1 q3 q4 q5 q6 q7 q8 q9 ⊢
  obtain ⟨t1, n⟩ := pt
  dsimp only at q1 q3 q4 q5 q6 q7 q8 q9 ⊢
  subst q1
  generalize hn : SetTable.below t.place (way t.mask (k.hash w) K) = n at q2 q3 ⊢
  have hin : (SetTable.insertAt es n (k.hash w, Value.ref x)).toList = (L.take n ++ (x, k) :: L.drop n).map fun p => (p.2.hash w, Value.ref p.1) := by
    rw [SetTable.toList_insertAt, rows, List.map_append, List.map_cons, List.map_take, List.map_drop]
  have q3' : TabOk t1 ((L.take n ++ (x, k) :: L.drop n).map fun p => p.2.hash w) := by
    rw [List.map_append, List.map_cons, List.map_take, List.map_drop]
    exact q3
  have pm := mid_perm L n (x, k)
  generalize L.take n ++ (x, k) :: L.drop n = L1 at hin q3' pm
  have len : L1.length = L.length + 1 := pm.length_eq
  have hes : (SetTable.insertAt es n (k.hash w, Value.ref x)).size = L.length + 1 := by
    rw [← Array.length_toList, hin, List.length_map, len]
  generalize SetTable.insertAt es n (k.hash w, Value.ref x) = es1 at hin hes ⊢
  have nd1 : (L1.map (·.2)).Nodup := (pm.map (·.2)).nodup_iff.mpr (by
    rw [List.map_cons]
    exact List.nodup_cons.mpr ⟨new, R.nd⟩)
  have fin : ∀ b : Bool, wpAny (model P w) A (do
      storeSet a es1 (if b = true then t1 else { t1 with plain := false })
      if !false && (if b = true then t1 else { t1 with plain := false }).tooFull then setRelay a (SetTable.grown (es.size + 1))
      return true) Q E s := fun b => by
    have tb := tab_val q3' b
    have mb : (if b = true then t1 else { t1 with plain := false }).mask = 7 := by
      cases b
      · exact q4.trans m7
      · exact q4.trans m7
    generalize (if b = true then t1 else { t1 with plain := false }) = t2 at tb mb ⊢
    have nf : ¬ (!false && t2.tooFull) = true := by
      have h1 : t2.place.size = L.length + 1 := by rw [tb.sz, List.length_map, len]
      have h2 : t2.fill = L.length + 1 := by
        unfold SetTable.fill
        rw [tb.dm, h1]
        rfl
      unfold SetTable.tooFull
      rw [h2, mb]
      simp
      omega
    refine wpAny_bind (wpAny_storeSet_of (o := sObj "set" (es, ep, t)) ho rfl ?_ (by rw [hes, sizeLine_eq]; omega))
    have sb : Heap.SameBut a s.heap (s.heap.update a (Obj.putSet es1 t2)) := Heap.SameBut.update ..
    have h1 := store_at (es' := es1) (t' := t2) ho (show (sObj "set" (es, ep, t)).data = .set es ep t from rfl)
    first
      | refine wp_if_neg nf ?_
      | (refine wpAny_bind ?_; refine wp_if_neg nf ?_; refine wpAny_pure ?_)
    refine wpAny_pure (q true _ L1 (es1, ep + 1, t2) sb ⟨h1, hin, tb, mb, fun p hp => ?_, nd1, by omega⟩ pm)
    rcases List.mem_cons.mp (pm.mem_iff.mp hp) with e | hp
    · rw [e]
      exact nk_same hx ho sb
    · exact nk_same (R.key p hp) ho sb
  by_cases hp : t1.plain = true
  · first
      | (refine wpAny_bind ?_; refine wp_if_pos hp ?_; exact val_key _ _ 8 _ hx.1 hx.2 _ _ _ fun b => fin b)
      | exact wp_if_pos hp (wpAny_bind (val_key _ _ 8 _ hx.1 hx.2 _ _ _ fun b => fin b))
  · first
      | (refine wpAny_bind ?_; refine wp_if_neg hp ?_; exact wpAny_pure (fin true))
      | exact wp_if_neg hp (fin true)
end
end KV

namespace KV
open PySem PySem.Spec PyProof.Rows L2 PySem.Froz
section
variable {P : Program} {w : World} {A : Around} {E : Value → Shared → Prop} {s : Shared} {a : Addr} {L : List (Addr × NestedKey)} {D : SD}
theorem KSet.keep {h h' : Heap} (R : KSet P w h a L D) (ha : ∀ o, h.get? a = some o → h'.get? a = some o) (hk : ∀ p ∈ L, NK P w h' p.2 p.1) : KSet P w h' a L D :=
  ⟨ha _ R.ob, R.rows, R.tab, R.m7, hk, R.nd, R.few⟩
theorem ks_fresh {h : Heap} (ho : h.get? a = some (nob w)) : KSet P w h a [] (#[], 0, .fresh 0 0 (!w.params.followText "set-order")) :=
  ⟨ho, rfl, ⟨List.Pairwise.nil, rfl, rfl, .inl rfl, (fun x hx => by cases hx), (fun i h j hi => by simp at hi)⟩, rfl, (fun p hp => by cases hp), List.nodup_nil, Nat.zero_le _⟩
theorem ks_loop {I : Addr} {fp wr : List Addr} {G : Array GenState → Array GenState → Prop} {n : Nat} {Pv : Nat → Value → Prop} {St : Nat → Shared → Prop} {R : Result → Shared → Prop}
    (W : WalksS P w A.in1 I fp wr G n Pv St) (hf : a ∉ fp) (ks : List (Addr × NestedKey)) (hn : n = ks.length) (few : ks.length ≤ 4) (nd : (ks.map (·.2)).Nodup) (hval : ∀ i v, Pv i v → ∃ p, ks[i]? = some p ∧ v = .ref p.1)
    (h0 : Heap) (hk : ∀ p ∈ ks, NK P w h0 p.2 p.1) (ha0 : h0.get? a = none) (hw0 : ∀ b ∈ wr, h0.get? b = none) (hu : A.in1.units + 8 < cLine) :
    ∀ (m i : Nat) (s : Shared), n = i + m → St i s → (∀ b o, h0.get? b = some o → s.heap.get? b = some o) → (∃ L D, L.Perm (ks.take i) ∧ KSet P w s.heap a L D) →
      (∀ s' L D, Moved (a :: wr) G s s' → L.Perm ks → KSet P w s'.heap a L D → (∀ b o, h0.get? b = some o → s'.heap.get? b = some o) → R (.ok (.ret .none)) s') →
      codeAny (model P w) A (.builtin "set.update.loop" ⟨[.ref a, .ref I], []⟩) R s := by
  have ha : a ∉ wr := fun z => hf (W.sub _ z)
  have old : ∀ {z z' : Shared}, Moved wr G z z' → (∀ b o, h0.get? b = some o → z.heap.get? b = some o) → ∀ b o, h0.get? b = some o → z'.heap.get? b = some o := fun mv k b o e =>
    mv.heap b o (fun hb => by
      rw [hw0 b hb] at e
      cases e) (k b o e)
  intro m
  induction m with
  | zero =>
    rintro i s en st kp ⟨L, D, pm, hS⟩ fin
    have ei : i = n := by omega
    subst ei
    have all : ks.take i = ks := List.take_of_length_le (Nat.le_of_eq hn.symm)
    rw [all] at pm
    refine codeAny_builtin F.entry_set_update_loop (Around.under_plainId F.plain_set_update_loop _ ▸ wpAny_bind (W.done s _ _ st fun s' mv => wpAny_pure ?_))
    exact fin s' L D (mv.mono fun b z => List.mem_cons_of_mem _ z) pm (hS.keep (fun o e => mv.heap a o ha e) fun p hp => nk_keep (hk p (pm.mem_iff.mp hp)) (old mv kp)) (old mv kp)
  | succ m ih =>
    rintro i s en st kp ⟨L, D, pm, hS⟩ fin
    have hi : i < n := by omega
    refine codeAny_builtin F.entry_set_update_loop (Around.under_plainId F.plain_set_update_loop _ ▸ wpAny_bind (W.item i s _ _ hi st fun v s1 pv st1 mv => ?_))
    obtain ⟨p, hp, rfl⟩ := hval i v pv
    have kp1 := old mv kp
    have R1 : KSet P w s1.heap a L D := hS.keep (fun o e => mv.heap a o ha e) fun q hq => nk_keep (hk q (List.mem_of_mem_take (pm.mem_iff.mp hq))) kp1
    have hx : NK P w s1.heap p.2 p.1 := nk_keep (hk p (List.mem_of_getElem? hp)) kp1
    have tk : ks.take (i + 1) = ks.take i ++ [p] := by rw [List.take_add_one, hp] <;> rfl
    have new : p.2 ∉ L.map (·.2) := fun z => by
      have nd2 : ((ks.take (i + 1)).map (·.2)).Nodup := nd.sublist ((List.take_sublist _ _).map _)
      rw [tk, List.map_append] at nd2
      have := (List.nodup_append.mp nd2).2.2
      exact this p.2 ((pm.map (·.2)).mem_iff.mp z) p.2 (by simp) rfl
    have len : L.length = i := by
      rw [pm.length_eq, List.length_take]
      omega
    show wpAny _ A.in1 (holding [Value.ref p.1] (setAdd a (.ref p.1)) >>= _) _ _ s1
    refine wpAny_bind (wpAny_holding ?_)
    unfold setAdd
    refine wpAny_holding (wpAny_bind ((nestedKind P w).pyHash hu hx ?_))
    obtain ⟨es, ep, t⟩ := D
    refine KSet.add (s := { s1 with toks := s1.toks + p.2.draws }) R1 hx hu (by omega) new fun b h' L' D' sb R2 pm2 => ?_
    have kp2 : ∀ b o, h0.get? b = some o → h'.get? b = some o := fun b o e => (sb.2 b fun z => by
      rw [z, ha0] at e
      cases e).trans (kp1 b o e)
    refine wpAny_pure ⟨plainId_quiet F.plain_set_update_loop _, ih (i + 1) _ (by omega) (W.frame _ s1 _ _ st1 (Nat.le_add_right _ _) fun b hb o e => (sb.2 b (fun z : b = a => hf (z ▸ hb))).trans e) kp2 ⟨L', D', ?_, R2⟩ fun s2 L2 D2 mv2 h2 h3 h4 => ?_⟩
    · rw [tk]
      exact pm2.trans ((pm.cons _).trans (List.perm_append_singleton _ _).symm)
    · exact fin s2 L2 D2 (Moved.trans W.gtrans ((mv.mono fun b z => List.mem_cons_of_mem _ z).then_heap (Nat.le_add_right _ _) fun b o hb e => (sb.2 b (fun z : b = a => hb (z ▸ List.mem_cons_self))).trans e) mv2) h2 h3 h4
/-- set(a list of tuples, all different) -/
theorem ks_of_list {p : Addr} {its : Array Value} {ks : List (Addr × NestedKey)} {Q : Value → Shared → Prop} (hh : A.handled = none) (hp : s.heap.IsList p its) (hx : its.toList = ks.map fun q => Value.ref q.1) (hk : ∀ q ∈ ks, NK P w s.heap q.2 q.1)
    (few : ks.length ≤ 4) (nd : (ks.map (·.2)).Nodup) (hu : A.units + 16 < cLine)
    (q : ∀ (h' : Heap) (tk : Nat) (L : List (Addr × NestedKey)) (D : SD), KSet P w h' s.heap.objs.size L D → L.Perm ks → (∀ b o, s.heap.get? b = some o → h'.get? b = some o) → Q (.ref s.heap.objs.size) { s with heap := h', toks := tk }) :
    wpAny (model P w) A (call (.type "set") [.ref p]) Q E s := by
  have hsz : its.size = ks.length := by rw [← Array.length_toList, hx, List.length_map]
  have ⟨c, tl, hmro⟩ := F.called_set.mro
  have hmade := F.called_set.made
  have hsub := F.called_set.sub
  have h1 := F.called_set.notType
  have h2 := F.called_set.canCreate
  have hct := F.typeCall_set_1 (.ref p)
  refine wpAny_call (codeAny_of_tree ?_)
  show wpAny _ _ (callAny (.type "set") _) _ _ _
  refine wpAny_pure ⟨Code.quiet_builtin _ (by decide +kernel), codeAny_builtin F.entry_type_call (Around.under_plain (weight_type_call_type "set" [.ref p] []) rfl ▸ ?_)⟩
  repeat (any_goals (first | assumption | wp_step))
  refine codeAny_mono (code_set_led1 (.ref p) (E := E) (Q₁ := fun v s1 => v = .ref s.heap.objs.size ∧ s1 = { s with heap := s.heap.push (nob w) }) ⟨rfl, rfl⟩) fun r s1 hr => ?_
  rcases r with e | fl
  · exact hr
  · cases fl with
    | ret v =>
      obtain ⟨rfl, rfl⟩ := hr
      have hS : (s.heap.push (nob w)).get? s.heap.objs.size = some (nob w) := Heap.get?_push_size _ rfl
      have hT : Shared.TypeIs { s with heap := s.heap.push (nob w) } (.ref s.heap.objs.size) "set" := ⟨_, hS, rfl⟩
      have hli := F.called_set.init.lookup
      have hbi := F.called_set.init.bind (.ref s.heap.objs.size)
      repeat (any_goals (first | assumption | wp_step))
      refine codeAny_mono (codeAny_call_builtin (R := wants (fun r s2 => r = .none ∧ ∃ h' tk L D, s2 = { s with heap := h', toks := tk } ∧ KSet P w h' s.heap.objs.size L D ∧ L.Perm ks ∧
          ∀ b o, s.heap.get? b = some o → h'.get? b = some o) E) F.called_set.init.plain F.entry_set_init (check_set_init_1 hT ?_)) fun r2 s2 hr2 => ?_
      · obtain ⟨⟨oc, od, odt, osl⟩, hol, hcl, nl, hdl⟩ := hp
        simp only at hcl hdl
        subst hcl; subst hdl
        have hol1 : (s.heap.push (nob w)).get? p = some { cls := .type "list", dict := od, data := .seq its nl, slots := osl } := Heap.get?_push_of_some _ hol
        have n1 := F.sub_list_set
        have n2 := F.sub_list_frozenset
        have n3 : (Value.type "list" == Value.type "dict") = false := by decide
        have hp1 : (s.heap.push (nob w)).IsList p its := ⟨_, hol1, rfl, nl, rfl⟩
        unfold Builtin.«set.__init__» noKeywords Builtin.Frozenset.updateFrom
        generalize hPI : pyIter = PI
        wp_walk
        subst hPI
        refine wpAny_pyIter_list hp1 (wpAny_bind (wpAny_runValue ?_))
        have pS : p < s.heap.objs.size := Heap.lt_size hol
        have hz : (s.heap.push (nob w)).objs.size = s.heap.objs.size + 1 := Heap.size_push ..
        have hI : p ≠ (s.heap.push (nob w)).objs.size := fun z => Nat.ne_of_lt (Nat.lt_succ_of_lt pS) (z.trans hz)
        have hh3 : A.in1.in1.in1.handled = none := by simp [hh]
        have hSf : s.heap.objs.size ∉ [(s.heap.push (nob w)).objs.size, p] := fun z => by
          rcases List.mem_cons.mp z with z | z
          · exact absurd (z.trans hz) (Nat.ne_of_lt (Nat.lt_succ_self _))
          · exact Nat.ne_of_gt pS (List.mem_singleton.mp z)
        have hval : ∀ (i : Nat) (v : Value), its[i]? = some v → ∃ q, ks[i]? = some q ∧ v = .ref q.1 := fun i v hv => by
          have e : its.toList[i]? = some v := by rw [Array.getElem?_toList]; exact hv
          rw [hx, List.getElem?_map] at e
          cases h : ks[i]? with
          | none =>
            rw [h] at e
            cases e
          | some q =>
            rw [h] at e
            exact ⟨q, rfl, (Option.some.inj e).symm⟩
        have off : ∀ b, s.heap.objs.size ≤ b → s.heap.get? b = none := fun b hb => by
          cases e : s.heap.get? b with
          | none => rfl
          | some o => exact absurd (Heap.lt_size e) (Nat.not_lt.mpr hb)
        refine ks_loop (a := s.heap.objs.size) ((Walks.list hh3 _ p hI its).toS) hSf ks hsz few nd hval s.heap hk (off _ (Nat.le_refl _)) (fun b hb => off b (by
            rw [List.mem_singleton.mp hb, hz]
            exact Nat.le_succ _)) (by simp only [Around.in1_units]; omega) its.size 0 _ (by omega) ⟨⟨_, Heap.get?_push_size _ rfl, rfl, rfl⟩, hp1.push _⟩ (fun b o e => Heap.get?_push_of_some _ (Heap.get?_push_of_some _ e))
          ⟨[], _, by rw [List.take_zero], ks_fresh (Heap.get?_push_of_some _ hS)⟩ ?_
        rintro ⟨h', g', d', tk', os'⟩ L D mv pm hS2 hk2
        have eg : g' = s.gens := mv.gens
        have ed : d' = s.drawn := mv.drawn
        have eo : os' = s.os := mv.os
        subst eg; subst ed; subst eo
        show wpAny _ _ _ _ _ _
        refine wpAny_pure ?_
        show wpAny _ _ (ret Value.none) _ _ _
        exact wpAny_pure ⟨rfl, h', tk', L, D, rfl, hS2, pm, hk2⟩
      · rcases r2 with e | fl2
        · exact hr2
        · cases fl2 with
          | ret v2 =>
            obtain ⟨rfl, h', tk, L, D, rfl, hS2, pm, hk2⟩ := hr2
            repeat (any_goals (first | assumption | wp_step))
            exact q _ _ L D hS2 pm hk2
          | _ => exact hr2.elim
    | _ => exact hr.elim
end
/-! ### as rules of the hand layer -/
mutual
def keyD : PyData → NestedKey
  | .int i => .num i
  | .str x => .text x
  | .tuple ds => .tup (keyDs ds)
  | _ => .none
def keyDs : List PyData → List NestedKey
  | [] => []
  | d :: ds => keyD d :: keyDs ds
end
mutual
def keyable : PyData → Bool
  | .none => true
  | .int _ => true
  | .str _ => true
  | .tuple ds => keyables ds
  | _ => false
def keyables : List PyData → Bool
  | [] => true
  | d :: ds => keyable d && keyables ds
end
section
variable {X : Cx} {pins : List (Addr × Obj)} {σ : L2.St} {H : Hp} {s : Shared}
mutual
theorem nested_of (I : Inv X pins σ H s) : ∀ (d : PyData) (v : V) (u : Value), Dp X.K H v d → RelV v u → keyable d = true → NestedIs s.heap (keyD d) u
  | .none, _, _, h, r, _ => by
    cases h
    cases r
    exact .none
  | .bool b, _, _, _, _, k => by cases k
  | .int i, _, _, h, r, _ => by
    cases h
    obtain ⟨t, rfl⟩ := r
    exact .int _ _
  | .str x, _, _, h, r, _ => by
    cases h
    obtain ⟨t, rfl⟩ := r
    exact .text _ _
  | .list ds, _, _, _, _, k => by cases k
  | .tuple ds, _, _, h, r, k => by
    cases h with
    | tup hs ha =>
      cases r
      obtain ⟨its, rv, ⟨o, ho, hc, n, hd⟩, _⟩ := I.tuple hs
      exact .tup ho hc hd (nested_all I ds _ _ ha (by simpa using rv) k)
  | .dict _, _, _, _, _, k => by cases k
theorem nested_all (I : Inv X pins σ H s) : ∀ (ds : List PyData) (vs : List V) (us : List Value), DpAll X.K H vs ds → Vals vs us → keyables ds = true → NestedAll s.heap (keyDs ds) us
  | [], _, _, h, r, _ => by
    cases h
    cases r
    exact .nil
  | d :: ds, _, _, h, r, k => by
    have k : (keyable d && keyables ds) = true := k
    rw [Bool.and_eq_true] at k
    cases h with
    | cons h1 h2 =>
      cases r with
      | cons r1 r2 => exact .cons (nested_of I d _ _ h1 r1 k.1) (nested_all I ds _ _ h2 r2 k.2)
end
/-- a set of so many -/
def LenSet (h : Heap) (a : Addr) (n : Nat) : Prop := ∃ D : SD, h.get? a = some (sObj "set" D) ∧ D.2.2.fits D.1.size = true ∧ D.1.size = n
def LsO (a : Addr) (n : Nat) : HO := .ext fun h => LenSet h a n
theorem lsO_new {h : Heap} {a : Addr} {n : Nat} {P : Program} {w : World} (R : LenSet h a n) : ObjOk P w H h a (LsO a n) :=
  ⟨R, R.elim fun D z => ⟨_, z.1⟩, fun h1 h2 p k => p.elim fun D z => ⟨D, k _ z.1, z.2⟩⟩
def rSetK (K : PySem.W.Frag) : List V → Hp → VK → Prop := fun vs H Q => ∃ (p : Addr) (ks : List (Addr × PyData)), vs = [.ref p] ∧ SqL K H p (ks.map fun q => V.ref q.1) ∧ (∀ q ∈ ks, Dp K H (.ref q.1) q.2 ∧ keyable q.2 = true ∧ (keyD q.2).depth ≤ 8) ∧
  (ks.map fun q => keyD q.2).Nodup ∧ ks.length ≤ 4 ∧ ∀ a : Addr, H a = none → Q (.ref a) (upd H a (LsO a ks.length))
theorem cr_setK (hc : X.calm = true) (hu : X.A.units + 64 < cLine) : CallR X (.type "set") (rSetK X.K) := by
  intro pins s σ H vs us Q I r h
  obtain ⟨p, ks, rfl, hq, hk, nd, few, q⟩ := h
  rw [Vals.ref1 r]
  obtain ⟨its, rv, pt, _⟩ := I.list hq
  have refs : ∀ {ks : List (Addr × PyData)} {us : List Value}, Vals (ks.map fun q => V.ref q.1) us → us = ks.map fun q => Value.ref q.1 := by
    intro ks
    induction ks with
    | nil =>
      intro us z
      cases z
      rfl
    | cons k ks ih =>
      intro us z
      cases z with
      | cons z1 z2 =>
        cases z1
        rw [ih z2, List.map_cons]
  refine ks_of_list (P := X.prog) (w := X.w) (ks := ks.map fun q => (q.1, keyD q.2)) (I.ok.hd hc) (show s.heap.IsList p its.toArray from pt.isList) ?_ ?_ (by rw [List.length_map]; exact few) (by rw [List.map_map]; exact nd) (by omega) fun h' tk L D R pm k => ?_
  · show its = _
    rw [List.map_map, refs rv]
    rfl
  · intro z hz
    obtain ⟨y, hy, rfl⟩ := List.mem_map.mp hz
    obtain ⟨h1, h2, h3⟩ := hk y hy
    exact ⟨nested_of I _ _ _ h1 rfl h2, h3⟩
  · have e : D.1.size = ks.length := by rw [R.size, pm.length_eq, List.length_map]
    exact ⟨.ref _, upd H s.heap.objs.size (LsO s.heap.objs.size ks.length), I.laid k (Nat.le_refl _) (lsO_new ⟨D, R.ob, R.fits, e⟩), rfl, q _ (I.hok.fresh (Nat.le_refl _))⟩
def rLenK : List V → Hp → VK → Prop := fun vs H Q => ∃ (a : Addr) (n : Nat), vs = [.ref a] ∧ n ≤ 4 ∧ H a = some (LsO a n) ∧ Q (.int n) H
theorem cr_lenK : CallR X (.builtin "len") rLenK := by
  intro pins s σ H vs us Q I r h
  obtain ⟨a, n, rfl, hn, ha, q⟩ := h
  rw [Vals.ref1 r]
  have R : LenSet s.heap a n := (I.hok a _ ha).1
  obtain ⟨D, e, ft, sz⟩ := R
  exact call_len_set (o := PySem.Froz.sObj "set" D) (es := D.1) (ep := D.2.1) (t := D.2.2) e ⟨rfl, rfl, rfl⟩ rfl ft (by omega) ⟨.int n, H, I.tok _, ⟨_, by rw [sz]⟩, q⟩
end
end KV

namespace KV
open PySem PySem.Spec PyProof.Rows L2 RZ
/-! ### list(d.values()) -/
def VwO (v d : Addr) : HO := .ext fun h => h.IsValuesView v d
section
variable {X : Cx}
theorem mt_values : MtR X "dict.values" (fun x vs H Q => ∃ d kvs, x = .ref d ∧ vs = [] ∧ H d = some (.dK kvs) ∧ ∀ v, H v = none → Q (.ref v) (upd H v (VwO v d))) := by
  intro pins s σ H x vs v us Q I rx rv h
  obtain ⟨d, kvs, rfl, rfl, hd, q⟩ := h
  cases rx
  cases rv
  obtain ⟨_, hsys, vs, rel, dof⟩ := dk_of I.hok hd
  have ⟨ep, ob, es, ho, ex, r⟩ := dof.dictAt
  refine call_meetsIn F.slot_dict_values ⟨ob, ho, ex.1⟩ F.entry_dict_values (F.args_dict_values_1 _) (meets_dict_values (mixKind X.prog X.w) d hsys) ⟨⟨vs, dof⟩, ?_⟩
  have vw : (s.heap.push { cls := .type "dict_values", data := .fields #[.ref d] }).get? s.heap.objs.size = some { cls := .type "dict_values", data := .fields #[.ref d] } := Heap.get?_push_size _ rfl
  refine ⟨.ref _, upd H s.heap.objs.size (VwO s.heap.objs.size d), I.laid (t' := s.toks) (fun b u e => Heap.get?_push_of_some _ e) (Nat.le_refl _) ?_, rfl, q _ (I.hok.fresh (Nat.le_refl _))⟩
  exact ⟨⟨_, vw, rfl, rfl⟩, ⟨_, vw⟩, fun h1 h2 p k => p.elim fun o z => ⟨o, k _ z.1, z.2⟩⟩
theorem cr_listVw (hc : X.calm = true) : CallR X (.type "list") (fun xs H Q => ∃ v d kvs, xs = [V.ref v] ∧ H v = some (VwO v d) ∧ H d = some (.dK kvs) ∧ ∀ q, H q = none → Q (.ref q) (upd H q (.lst (kvs.map (·.2))))) := by
  intro pins s σ H xs us Q I r h
  obtain ⟨v, d, kvs, rfl, hv, hd, q⟩ := h
  rw [Vals.ref1 r]
  obtain ⟨z, lo, vs, rk, dof⟩ := dk_of I.hok hd
  obtain ⟨ep, hat⟩ := dof.dictAt
  have vw : s.heap.IsValuesView v d := (I.hok v _ hv).1
  have hl : kvs.length = vs.length := Paired.length rk
  refine PySem.W.kdl_call (PySem.W.kdl_values (knd := mixKind X.prog X.w) (kvs := vs) (ep := ep)) (I.ok.hd hc) ⟨vw, hat⟩ (by rw [← hl]; exact z) fun h' tk acc c' keep hS hacc => ?_
  refine ⟨.ref s.heap.objs.size, upd H s.heap.objs.size (.lst (kvs.map (·.2))), I.laid keep (Nat.le_refl _) (show ObjOk X.prog X.w _ _ _ (.lst (kvs.map (·.2))) from ⟨by rw [List.length_map]; exact z, acc.toList, c', ?_, by rw [Array.toArray_toList]; exact hS⟩), rfl, q _ (I.hok.fresh (Nat.le_refl _))⟩
  have al : acc.toList.length = acc.size := Array.length_toList
  refine vals_of_at (by rw [List.length_map, al, hacc.1, hl]) fun j x u h1 h2 => ?_
  obtain ⟨k, hk⟩ := hacc.2 j u (by rw [← Array.getElem?_toList]; exact h2)
  obtain ⟨y, e, ry⟩ := L2.KV.at' rk hk
  rw [List.getElem?_map, e] at h1
  cases h1
  exact ry
/-- f(k = v) of a def that may raise -/
theorem pe_callK0L {x : Str} {k : Nat} {f : Addr} {fd : FuncData} {ps ks : List Str} {sp : Sp} {kws : List Keyword} {tk : TA} {p pos : Pos} {g : List Value → List Value → List Value} {gV : List V → List V → List V}
    (F : FnOk X.prog X.w X.K X.mg X.base (L2.CX X.prog X.w) k f fd ps sp) (hr : Room k X.A) (hg : Gl X x) (hm : X.mg x = some (.ref f)) (hk : PySem.W.keepIn X.K (.ref f) = true) (hb : KBinds X.K fd ps ks g gV)
    (hkw : PK X kws tk) (hall : (backToKw pos (keywordEach kws X.env)).all (·.1.isSome) = true := by rfl) (hks : (backToKw pos (keywordEach kws X.env)).filterMap (·.1) = ks := by rfl)
    (hdb : (x == ("__debug__" : Str)) = false := by decide)
    (hpl : ((backTo pos (starEach [] X.env)).any (·.1) || (backToKw pos (keywordEach kws X.env)).any (·.1.isNone)) = false := by rfl) :
    PE X (.Call (.Name x p) [] kws pos) (tCallK sp gV E0 tNil tk) := by
  refine ⟨fun pins s σ H Q I h => wpAny_Call_Name_kw (ld_glob I hg hm ?_ hdb)⟩
  refine PySem.W.callWith_KW0 (h₀ := X.base) I.ok.mod.kin hk hall (thn (hkw.run pos pins s σ H _ I h) fun ws s2 hv => ?_) hpl
  obtain ⟨zs, H2, I2, rz, q2⟩ := hv
  refine ⟨I2.kIn, ?_⟩
  rw [hks]
  exact run_fnk (us := []) (vs := []) F hr hb passL I2 .nil rz q2
end
/-! ### setups as keys -/
mutual
theorem key_inj : ∀ (d e : PyData), keyable d = true → keyable e = true → keyD d = keyD e → d = e
  | .none, .none, _, _, _ => rfl
  | .int i, .int j, _, _, h => by
    simp only [keyD, NestedKey.num.injEq] at h
    rw [h]
  | .str x, .str y, _, _, h => by
    simp only [keyD, NestedKey.text.injEq] at h
    rw [h]
  | .tuple ds, .tuple es, h1, h2, h => by
    simp only [keyD, NestedKey.tup.injEq] at h
    rw [keys_inj ds es h1 h2 h]
  | .none, .int _, _, _, h => by simp [keyD] at h
  | .none, .str _, _, _, h => by simp [keyD] at h
  | .none, .tuple _, _, _, h => by simp [keyD] at h
  | .int _, .none, _, _, h => by simp [keyD] at h
  | .int _, .str _, _, _, h => by simp [keyD] at h
  | .int _, .tuple _, _, _, h => by simp [keyD] at h
  | .str _, .none, _, _, h => by simp [keyD] at h
  | .str _, .int _, _, _, h => by simp [keyD] at h
  | .str _, .tuple _, _, _, h => by simp [keyD] at h
  | .tuple _, .none, _, _, h => by simp [keyD] at h
  | .tuple _, .int _, _, _, h => by simp [keyD] at h
  | .tuple _, .str _, _, _, h => by simp [keyD] at h
  | .bool _, _, h, _, _ => by cases h
  | .list _, _, h, _, _ => by cases h
  | .dict _, _, h, _, _ => by cases h
  | .none, .bool _, _, h, _ => by cases h
  | .none, .list _, _, h, _ => by cases h
  | .none, .dict _, _, h, _ => by cases h
  | .int _, .bool _, _, h, _ => by cases h
  | .int _, .list _, _, h, _ => by cases h
  | .int _, .dict _, _, h, _ => by cases h
  | .str _, .bool _, _, h, _ => by cases h
  | .str _, .list _, _, h, _ => by cases h
  | .str _, .dict _, _, h, _ => by cases h
  | .tuple _, .bool _, _, h, _ => by cases h
  | .tuple _, .list _, _, h, _ => by cases h
  | .tuple _, .dict _, _, h, _ => by cases h
theorem keys_inj : ∀ (ds es : List PyData), keyables ds = true → keyables es = true → keyDs ds = keyDs es → ds = es
  | [], [], _, _, _ => rfl
  | [], _ :: _, _, _, h => by simp [keyDs] at h
  | _ :: _, [], _, _, h => by simp [keyDs] at h
  | d :: ds, e :: es, h1, h2, h => by
    have h1 : (keyable d && keyables ds) = true := h1
    have h2 : (keyable e && keyables es) = true := h2
    rw [Bool.and_eq_true] at h1 h2
    simp only [keyDs, List.cons.injEq] at h
    rw [key_inj d e h1.1 h2.1 h.1, keys_inj ds es h1.2 h2.2 h.2]
end
theorem keyables_all : ∀ ds : List PyData, keyables ds = ds.all keyable
  | [] => rfl
  | d :: ds => by
    show (keyable d && keyables ds) = _
    rw [keyables_all ds, List.all_cons]
theorem depth0_all : ∀ ds : List PyData, (∀ d ∈ ds, (keyD d).depth = 0) → NestedKey.depthAll (keyDs ds) = 0
  | [], _ => rfl
  | d :: ds, h => by
    show max ((keyD d).depth) (NestedKey.depthAll (keyDs ds)) = 0
    rw [h d List.mem_cons_self, depth0_all ds fun e he => h e (List.mem_cons_of_mem _ he)]
    rfl
theorem set_key (a b : Nat) (ps : List Str) (es : List (Option Str)) : keyable (setD a b ps es) = true ∧ (keyD (setD a b ps es)).depth ≤ 8 := by
  have h1 : keyables (ps.map PyData.str) = true := by
    rw [keyables_all, List.all_map]
    exact List.all_eq_true.mpr fun _ _ => rfl
  have h2 : keyables (es.map entD) = true := by
    rw [keyables_all, List.all_map]
    refine List.all_eq_true.mpr fun o _ => ?_
    cases o <;> rfl
  have d1 : NestedKey.depthAll (keyDs (ps.map PyData.str)) = 0 := depth0_all _ fun d hd => by
    obtain ⟨p, _, rfl⟩ := List.mem_map.mp hd
    rfl
  have d2 : NestedKey.depthAll (keyDs (es.map entD)) = 0 := depth0_all _ fun d hd => by
    obtain ⟨o, _, rfl⟩ := List.mem_map.mp hd
    cases o <;> rfl
  constructor
  · show (true && (true && (keyables (ps.map PyData.str) && (keyables (es.map entD) && true)))) = true
    rw [h1, h2]
    rfl
  · show max 0 (max 0 (max (NestedKey.depthAll (keyDs (ps.map PyData.str)) + 1) (max (NestedKey.depthAll (keyDs (es.map entD)) + 1) 0))) + 1 ≤ 8
    rw [d1, d2]
    decide
theorem setD_inj {a b a' b' : Nat} {ps ps' : List Str} {es es' : List (Option Str)} (h : setD a b ps es = setD a' b' ps' es') : a = a' ∧ b = b' ∧ ps = ps' ∧ es = es' := by
  have h := PyData.tuple.inj h
  simp only [List.cons.injEq, PyData.int.injEq, PyData.tuple.injEq, and_true] at h
  obtain ⟨h1, h2, h3, h4⟩ := h
  refine ⟨by omega, by omega, ?_, ?_⟩
  · have := congrArg (List.map strOfD) h3
    rwa [strOf_map, strOf_map] at this
  · have aux : ∀ es es' : List (Option Str), es.map entD = es'.map entD → es = es' := by
      intro es
      induction es with
      | nil =>
        intro es' h
        cases es' with
        | nil => rfl
        | cons o es' => cases h
      | cons o es ih =>
        intro es' h
        cases es' with
        | nil => cases h
        | cons o' es' =>
          rw [List.map_cons, List.map_cons, List.cons.injEq] at h
          rw [ih es' h.2]
          congr 1
          cases o with
          | none =>
            cases o' with
            | none => rfl
            | some y => exact absurd h.1 (by intro z; cases z)
          | some x =>
            cases o' with
            | none => exact absurd h.1 (by intro z; cases z)
            | some y => rw [PyData.str.inj h.1]
    exact aux es es' h4
abbrev txtS (a b : Nat) (ps : List Str) (es : List (Option Str)) : Str := Txt.join " " (setupWords a b ps es)
/-- a setup that was seen, with its text -/
def RowS (r : Str × Addr × PyData) : Prop := ∃ a b ps es, r.2.2 = setD a b ps es ∧ r.1 = txtS a b ps es
theorem rowS_nodup : ∀ {rows : List (Str × Addr × PyData)}, (∀ r ∈ rows, RowS r) → (rows.map (·.1)).Nodup → (rows.map fun r => keyD r.2.2).Nodup
  | [], _, _ => List.nodup_nil
  | r :: rows, h, nd => by
    rw [List.map_cons, List.nodup_cons] at nd ⊢
    refine ⟨fun z => nd.1 ?_, rowS_nodup (fun x hx => h x (List.mem_cons_of_mem _ hx)) nd.2⟩
    obtain ⟨r', hr', e⟩ := List.mem_map.mp z
    obtain ⟨a, b, ps, es, e1, e2⟩ := h r List.mem_cons_self
    obtain ⟨a', b', ps', es', e3, e4⟩ := h r' (List.mem_cons_of_mem _ hr')
    rw [e1, e3] at e
    obtain ⟨rfl, rfl, rfl, rfl⟩ := setD_inj (key_inj _ _ (set_key _ _ _ _).1 (set_key _ _ _ _).1 e)
    refine List.mem_map.mpr ⟨r', hr', ?_⟩
    rw [e2, e4]
/-! ### lines -/
theorem drawn_ascii {a b : Nat} {ps : List Str} {es : List (Option Str)} (a2 : a ≤ 20) (b2 : b ≤ 20) (wp : ∀ p ∈ ps, isWordD (.str p) 8 = true) (he : ∀ o ∈ es, ∀ x, o = some x → x ∈ ps) : ∀ c ∈ TL.tl (txtS a b ps es), c < 128 := by
  have let_ : ∀ x : Str, isWordD (.str x) 8 = true → ∀ c ∈ TL.tl x, c < 128 := fun x h c hc => by
    have h : (decide (0 < x.length) && decide (x.length ≤ 8) && x.cps.toList.all isLet) = true := h
    rw [Bool.and_eq_true, List.all_eq_true] at h
    have := h.2 c hc
    unfold isLet at this
    rw [Bool.and_eq_true, decide_eq_true_eq, decide_eq_true_eq] at this
    omega
  have num : ∀ n : Nat, n ≤ 20 → ∀ c ∈ TL.tl (Str.ofString (toString ((n : Nat) : Int))), c < 128 := fun n hn c hc => by
    have key : (List.range 21).all (fun n => (TL.tl (Str.ofString (toString ((n : Nat) : Int)))).all fun c => decide (c < 128)) = true := by decide +kernel
    have z := List.all_eq_true.mp key n (List.mem_range.mpr (by omega))
    exact of_decide_eq_true (List.all_eq_true.mp z c hc)
  have lit : ∀ s : Str, ((TL.tl s).all fun c => decide (c < 128)) = true → ∀ c ∈ TL.tl s, c < 128 := fun s h c hc => of_decide_eq_true (List.all_eq_true.mp h c hc)
  have words : ∀ x ∈ setupWords a b ps es, ∀ c ∈ TL.tl x, c < 128 := by
    intro x hx
    rcases List.mem_append.mp hx with h | h
    · rcases List.mem_cons.mp h with e | h
      · rw [e]; exact lit _ (by decide +kernel)
      rcases List.mem_cons.mp h with e | h
      · rw [e]; exact num a a2
      rcases List.mem_cons.mp h with e | h
      · rw [e]; exact num b b2
      rw [List.mem_singleton.mp h]; exact lit _ (by decide +kernel)
    · rcases List.mem_append.mp h with h | h
      · exact let_ x (wp x h)
      · rcases List.mem_append.mp h with h | h
        · rw [List.mem_singleton.mp h]; exact lit _ (by decide +kernel)
        · obtain ⟨o, ho, e⟩ := List.mem_map.mp h
          rw [← e]
          cases o with
          | none => exact lit _ (by decide +kernel)
          | some y => exact let_ y (wp y (he _ ho y rfl))
  have join : ∀ ws : List (List Nat), (∀ w ∈ ws, ∀ c ∈ w, c < 128) → ∀ c ∈ TL.joinL [32] ws, c < 128 := by
    intro ws
    induction ws with
    | nil => intro _ c hc; simp [TL.joinL] at hc
    | cons w ws ih =>
      intro h c hc
      cases ws with
      | nil => exact h w List.mem_cons_self c hc
      | cons v ws =>
        have ej : TL.joinL [32] (w :: v :: ws) = w ++ (32 :: TL.joinL [32] (v :: ws)) := rfl
        rw [ej] at hc
        rcases List.mem_append.mp hc with z | z
        · exact h w List.mem_cons_self c z
        · rcases List.mem_cons.mp z with z | z
          · rw [z]; decide
          · exact ih (fun x hx => h x (List.mem_cons_of_mem _ hx)) c z
  intro c hc
  unfold txtS at hc
  rw [TL.join_eq, TL.tl_join] at hc
  have e : TL.tl (" " : Str) = [32] := by decide +kernel
  rw [e] at hc
  refine join _ (fun w hw => ?_) c hc
  obtain ⟨x, hx, rfl⟩ := List.mem_map.mp hw
  exact words x hx
theorem nice_upper {n m k : Nat} {z : Str} (h : Nice n m k (TL.tl z)) (ha : ∀ c ∈ TL.tl z, c < 128) : Nice n m k (TL.tl (Txt.upper z)) := by
  rw [PyProof.Rows.upper_ascii (x := z) ha]
  have e : TL.tl (⟨z.cps.map PyProof.Rows.up1⟩ : Str) = (TL.tl z).map PyProof.Rows.up1 := by
    show (z.cps.map PyProof.Rows.up1).toList = _
    rw [Array.toList_map]
  rw [e]
  exact nice_map h
def niceB (s : Str) : Bool := decide ((TL.tl s).length ≤ 40) && ((TL.tl s).all fun c => decide (c < 1114112))
theorem nice_lit {s : Str} (h : niceB s = true) : Nice 700 40 70 (TL.tl s) := by
  unfold niceB at h
  rw [Bool.and_eq_true, decide_eq_true_eq, List.all_eq_true] at h
  exact ⟨by omega, runs_word h.1, Nat.le_trans List.count_le_length (by omega), fun c hc => of_decide_eq_true (h.2 c hc)⟩
/-- what is read is good data -/
theorem read_good {ws : List Str} (hl : ws.length ≤ 100) (hw : ∀ x ∈ ws, shortW x = true) : gD lf2 100 (readD ws) 2 = true := by
  have key : ∀ d, readS ws = some d → gD lf2 100 d 2 = true := by
    intro d h
    unfold readS at h
    split at h
    · split at h
      · rename_i a b ha hb
        split at h
        · unfold firstS at h
          obtain ⟨j, _, rfl⟩ := Option.map_eq_some_iff.mp h
          obtain ⟨x, _, hx⟩ := Option.bind_eq_some_iff.mp ha
          obtain ⟨y, _, hy⟩ := Option.bind_eq_some_iff.mp hb
          exact mkS_good (numIn_lt hx).1 (numIn_lt hy).1 (by rw [List.length_drop]; omega) fun z hz => hw z (List.mem_of_mem_drop hz)
        · cases h
      · cases h
    · cases h
  unfold readD
  cases h : readS ws with
  | none => decide +kernel
  | some d => exact key d h
/-! ### _law_lists -/
abbrev sLists : Stmt := topS 107
section
variable {P : Program} {w : World} {K : PySem.W.Frag} {mg : Str → Option Value} {base : Heap}
theorem scLists : FnScope ["_law_matter", "_law_bit"] ["_law_matter"] (defScope sLists) :=
  ⟨rfl, rfl, rfl, by decide +kernel, rfl, by decide +kernel, by decide +kernel⟩
theorem ok_lists {f : Addr} {fd : FuncData} (F : Fun K "_law_lists" "_law_lists" sLists f fd) (bF : Binds K fd ["_law_matter"] []) (mF : mg "_law_lists" = some (.ref f)) (mi : mg "isinstance" = none) (ml : mg "list" = none) (mt : mg "tuple" = none) :
    ∀ n : Nat, FnOk P w K mg base CX0 (n + 1) f fd ["_law_matter"] (spLists K n) := by
  intro n
  induction n with
  | zero =>
    refine F.ok scLists (fun vs H Q E h => ?_) (fun cdv A outer s H vs Q E hr h => ?_)
    · obtain ⟨B, v, d, rfl, _⟩ := h
      rfl
    · obtain ⟨B, v, d, rfl, lv, hd, hok, q⟩ := h
      have ha := ok_atom hok
      refine ⟨_, pss_one (ps_ret (pe_ifExp (pt_val (pe_callB cr_isSeq (by rfl) mi boot_isinstance (pa_cons (pv 0) (pa_cons (pe_tup (pa_cons (pe_bltn (v := .ty "list") (by rfl) ml (by decide +kernel) rfl) (pa_cons (pe_bltn (v := .ty "tuple") (by rfl) mt (by decide +kernel) rfl) pa_nil))) pa_nil))))
        pe_never (pv 0))), ?_⟩
      refine ⟨_, rfl, by show 2 ≤ sizeLine; decide, fun t nt => ⟨_, _, d, rfl, upd_same, dp_same (same_upd nt) (dp_same (hide_same B H) hd), _, rfl, ?_⟩⟩
      rw [ha]
      refine iteF ⟨_, rfl, q _ _ (same_upd nt) ?_⟩
      rw [lst_atom ha]
      exact dp_same (hide_of_same (same_upd nt)) hd
  | succ n ih =>
    refine F.ok scLists (fun vs H Q E h => ?_) (fun cdv A outer s H vs Q E hr h => ?_)
    · obtain ⟨B, v, d, rfl, _⟩ := h
      rfl
    · obtain ⟨B, v, d, rfl, lv, hd, hok, q⟩ := h
      refine ⟨_, pss_one (ps_ret (pe_ifExp (pt_val (pe_callB cr_isSeq (by rfl) mi boot_isinstance (pa_cons (pv 0) (pa_cons (pe_tup (pa_cons (pe_bltn (v := .ty "list") (by rfl) ml (by decide +kernel) rfl) (pa_cons (pe_bltn (v := .ty "tuple") (by rfl) mt (by decide +kernel) rfl) pa_nil))) pa_nil))))
        (pe_lc (own := [("_law_bit", 1)]) (g := gName 1) (tt := tYes) rfl scLists.nd (pi_dat B (pv 0)) (blkOk_by (N := ["_law_matter", "_law_bit"]) (sc := defScope sLists) (by decide +kernel)) (fun _ _ _ _ _ => pg_name (i := 1) scLists.nd rfl (Or.inl rfl)) (fun _ _ _ _ _ => pts_nil)
            (fun _ _ _ _ _ => pe_call ih hr (by rfl) mF F.kp bF .nil pass0 (pa_cons (pv 1) pa_nil))) (pv 0))), ?_⟩
      refine ⟨_, rfl, by show 2 ≤ sizeLine; decide, fun t nt => ⟨_, _, d, rfl, upd_same, dp_same (same_upd nt) (dp_same (hide_same B H) hd), _, rfl, ?_⟩⟩
      have s1 : Same H (upd H t (.tup [.ty "list", .ty "tuple"])) := same_upd nt
      have hd1 : Dp K (hide B (upd H t (.tup [.ty "list", .ty "tuple"]))) v d := dp_same (hide_of_same s1) hd
      have lv1 := lv.same s1
      generalize upd H t (.tup [.ty "list", .ty "tuple"]) = H1 at s1 hd1 lv1
      cases ha : isSeq d with
      | false =>
        refine iteF ⟨_, rfl, q _ _ s1 ?_⟩
        rw [lst_atom ha]
        exact hd1
      | true =>
        refine iteT ?_
        obtain ⟨a, xs, ds, rfl, hk, hall⟩ := dp_seq hd1 ha
        have hkk : d = .list ds ∨ d = .tuple ds := hk.imp And.right And.right
        obtain ⟨m, hm, hlen, hok2⟩ := ok_seq hkk hok
        have em : m = n := by omega
        subst em
        have elst : lstD d = .list (ds.map lstD) := by
          rcases hkk with rfl | rfl <;> simp only [lstD, lstDs_map]
        have hl := dps_len hall
        have hkB : SqL K (hide B H1) a xs ∨ SqT K (hide B H1) a xs := hk.imp And.left And.left
        refine ⟨_, rfl, a, xs, rfl, hkB, fun J G wk hG D nD => lc_dp (K := K) wk (ds := ds) (B := B) (C := []) (i := 1) hall lv1 (fun b hb => absurd hb List.not_mem_nil) nD (by omega) hG
            (fun _ _ => True) trivial (fun _ _ _ _ _ => trivial) (fun _ _ _ b hb => absurd hb List.not_mem_nil) (fun e e' => e' = lstD e)
            (fun j x e H2 Q2 _ he lv2 _ hdp2 k2 => ⟨_, rfl, D :: B, x, e, rfl, lv2, hdp2, okDs_get hok2 he, fun y H3 s3 hd3 => k2 y H3 _ (SameX.of s3) rfl hd3 trivial⟩)
            (fun H2 acc ds' s2 lv2 _ hD2 hacc h2 => q _ _ (fun c o e => ?_) ?_)⟩
        · have e1 := s1 c o e
          have cD : c ≠ D := ne_of_none e1 nD
          exact s2 c o (fun z => (List.mem_cons.mp z).elim cD (fun z => absurd z List.not_mem_nil)) e1
        · rw [elst, ← h2.fn]
          exact .lst (SqL.of (by rw [hide_out (lv1.new nD)]; exact hD2)) (dps_same hide_leave hacc)
end
end KV

namespace KV
open PySem PySem.Spec PyProof.Rows L2 RZ
/-! ### _law_right -/
abbrev sRight : Stmt := topS 120
abbrev nRight : List Str := ["_law_box_here", "_law_seen", "_law_none_so", "_law_turn", "_law_some", "_law_words", "_law_told", "_law_odd", "_law_line", "_law_due", "_law_again"]
/-- the setups that were seen -/
def SeenAt (K : PySem.W.Frag) (b D : Addr) (H : Hp) (rows : List (Str × Addr × PyData)) : Prop :=
  H D = some (.dK (rows.map fun r => ((Sum.inr r.1 : Key), V.ref r.2.1))) ∧ (rows.map (·.1)).Nodup ∧ ∀ r ∈ rows, RowS r ∧ Dp K (hide [b, D] H) (.ref r.2.1) r.2.2
theorem SeenAt.keep {K : PySem.W.Frag} {b D : Addr} {H H' : Hp} {rows : List (Str × Addr × PyData)} (h : SeenAt K b D H rows) (nb : D ≠ b) (s : SameX [b] H H') : SeenAt K b D H' rows :=
  ⟨s D _ (fun z => nb (List.mem_singleton.mp z)) h.1, h.2.1, fun r hr => ⟨(h.2.2 r hr).1, dp_same (s.hide fun c hc => by rw [List.mem_singleton.mp hc]; exact List.mem_cons_self) (h.2.2 r hr).2⟩⟩
/-- a row in its place, or at the end -/
def putR (rows : List (Str × Addr × PyData)) (t : Str) (a : Addr) (d : PyData) : List (Str × Addr × PyData) :=
  if (rows.any fun r => decide (r.1 = t)) = true then rows.map (fun r => if r.1 = t then (t, a, d) else r) else rows ++ [(t, a, d)]
theorem putR_k (rows : List (Str × Addr × PyData)) (t : Str) (a : Addr) (d : PyData) :
    putK (rows.map fun r => ((Sum.inr r.1 : Key), V.ref r.2.1)) (Sum.inr t) (V.ref a) = (putR rows t a d).map fun r => ((Sum.inr r.1 : Key), V.ref r.2.1) := by
  have e : ∀ x : Str, decide ((Sum.inr x : Key) = Sum.inr t) = decide (x = t) := fun x => decide_eq_decide.mpr ⟨fun z => Sum.inr.inj z, fun z => by rw [z]⟩
  have e2 : (rows.map fun r => ((Sum.inr r.1 : Key), V.ref r.2.1)).any (fun kv => decide (kv.1 = Sum.inr t)) = rows.any fun r => decide (r.1 = t) := by
    rw [List.any_map]
    exact congrArg rows.any (funext fun r => e r.1)
  unfold putK putR
  rw [e2]
  split
  · rw [List.map_map, List.map_map]
    refine List.map_congr_left fun r _ => ?_
    show (if (Sum.inr r.1 : Key) = Sum.inr t then ((Sum.inr r.1 : Key), V.ref a) else ((Sum.inr r.1 : Key), V.ref r.2.1)) = ((fun r : Str × Addr × PyData => ((Sum.inr r.1 : Key), V.ref r.2.1)) (if r.1 = t then (t, a, d) else r))
    by_cases h : r.1 = t
    · rw [if_pos h, if_pos (congrArg Sum.inr h), h]
    · rw [if_neg h, if_neg fun z => h (Sum.inr.inj z)]
  · rw [List.map_append]
    rfl
theorem putR_keys (rows : List (Str × Addr × PyData)) (t : Str) (a : Addr) (d : PyData) (nd : (rows.map (·.1)).Nodup) : ((putR rows t a d).map (·.1)).Nodup := by
  unfold putR
  split
  · have e : (rows.map (fun r => if r.1 = t then (t, a, d) else r)).map (·.1) = rows.map (·.1) := by
      rw [List.map_map]
      refine List.map_congr_left fun r _ => ?_
      show (if r.1 = t then (t, a, d) else r).1 = r.1
      by_cases h : r.1 = t
      · rw [if_pos h, h]
      · rw [if_neg h]
    rw [e]
    exact nd
  · rename_i h
    rw [List.map_append, List.nodup_append]
    refine ⟨nd, by simp, fun x hx y hy e => h ?_⟩
    obtain ⟨r, hr, rfl⟩ := List.mem_map.mp hx
    have hy : y = t := by simpa using hy
    exact List.any_eq_true.mpr ⟨r, hr, decide_eq_true (e.trans hy)⟩
theorem putR_mem {rows : List (Str × Addr × PyData)} {t : Str} {a : Addr} {d : PyData} {r : Str × Addr × PyData} (h : r ∈ putR rows t a d) : r = (t, a, d) ∨ r ∈ rows := by
  unfold putR at h
  split at h
  · obtain ⟨r', hr', e⟩ := List.mem_map.mp h
    by_cases z : r'.1 = t
    · rw [if_pos z] at e
      exact .inl e.symm
    · rw [if_neg z] at e
      exact .inr (e ▸ hr')
  · rcases List.mem_append.mp h with h | h
    · exact .inr h
    · exact .inl (List.mem_singleton.mp h)
theorem putR_len (rows : List (Str × Addr × PyData)) (t : Str) (a : Addr) (d : PyData) : (putR rows t a d).length ≤ rows.length + 1 := by
  unfold putR
  split
  · rw [List.length_map]
    omega
  · rw [List.length_append]
    exact Nat.le_refl _
theorem allS_len (ws : List Str) : (allS ws).length ≤ ws.length := by
  unfold allS
  split
  · split
    · rw [List.length_map]
      refine Nat.le_trans (List.length_filter_le _ _) ?_
      rw [List.length_range, List.length_drop]
      omega
    · exact Nat.zero_le _
  · exact Nat.zero_le _
theorem cat_read {H : Hp} {l : Addr} {L M : List Str} {Q : VK} (hl : H l = some (.lst (L.map V.str))) (hk : L.length + M.length ≤ 100) (q : ∀ g H', Same H H' → H' g = some (.lst ((L ++ M).map V.str)) → Q (.ref g) H') :
    (M.map V.str).length ≤ sizeLine ∧ ∀ p, H p = none → rCat (.ref l) (.ref p) (upd H p (.lst (M.map V.str))) Q := by
  refine ⟨Nat.le_of_lt (small1000 (by rw [List.length_map]; omega)), fun p hp => ⟨l, p, _, _, rfl, rfl, same_upd hp _ _ hl, upd_same, Nat.le_of_lt (small1000 (by rw [List.length_map, List.length_map]; omega)), fun g hg => q g _ ((same_upd hp).trans (same_upd hg)) ?_⟩⟩
  rw [upd_same, List.map_append]
theorem tup_setD (a b : Nat) (ps : List Str) (es : List (Option Str)) : tupD (setD a b ps es) = setD a b ps es := by
  have h1 : (ps.map PyData.str).map tupD = ps.map PyData.str := by
    rw [List.map_map]
    exact List.map_congr_left fun p _ => by simp [tupD]
  have h2 : (es.map entD).map tupD = es.map entD := by
    rw [List.map_map]
    refine List.map_congr_left fun o _ => ?_
    cases o <;> simp [tupD, entD]
  unfold setD
  simp only [tupD, tupDs_map, List.map_cons, List.map_nil, h1, h2]
theorem nodes_setD {a b : Nat} {ps : List Str} {es : List (Option Str)} (lp : ps.length ≤ 4) (le : es.length ≤ 5) : nodesD (setD a b ps es) ≤ 20 := by
  have k : ∀ ds : List PyData, (∀ d ∈ ds, nodesD d ≤ 1) → nodesDs ds ≤ ds.length := by
    intro ds
    induction ds with
    | nil => exact fun _ => Nat.le_refl _
    | cons d ds ih =>
      intro h
      have h1 := h d List.mem_cons_self
      have h2 := ih fun e he => h e (List.mem_cons_of_mem _ he)
      simp only [nodesDs, List.length_cons]
      omega
  have h1 := k (ps.map PyData.str) fun d hd => by
    obtain ⟨p, _, rfl⟩ := List.mem_map.mp hd
    simp [nodesD]
  have h2 := k (es.map entD) fun d hd => by
    obtain ⟨o, _, rfl⟩ := List.mem_map.mp hd
    cases o <;> simp [nodesD, entD]
  rw [List.length_map] at h1 h2
  unfold setD
  simp only [nodesD, nodesDs]
  omega
/-- lines that may be asked -/
def Lines (L : List Str) : Prop := ∀ x ∈ L, Nice 700 40 70 (TL.tl x)
theorem Lines.app {L M : List Str} (h : Lines L) (h' : Lines M) : Lines (L ++ M) := fun x hx => (List.mem_append.mp hx).elim (h x) (h' x)
theorem Lines.lit {L : List Str} (h : L.all niceB = true) : Lines L := fun x hx => nice_lit (List.all_eq_true.mp h x hx)
/-- the first of what the law reads, or the line's number -/
theorem first_read {K : PySem.W.Frag} {H : Hp} {xs : List V} {t : Addr} {ws : List Str} (dA : DpAll K H xs (allS ws)) (ht : SqT K H t [.str "line", .int (0 : Nat)]) : ∃ v, (xs ++ [V.ref t])[0]? = some v ∧ Dp K H v (readD ws) := by
  have hh := allS_head ws
  unfold readD
  cases dA' : allS ws with
  | nil =>
    rw [dA'] at dA hh
    cases dA
    refine ⟨_, rfl, ?_⟩
    rw [← hh]
    exact .tup ht (.cons (.str _) (.cons (.int _) .nil))
  | cons d ds =>
    rw [dA'] at dA hh
    cases dA with
    | cons h1 h2 =>
      refine ⟨_, rfl, ?_⟩
      rw [← hh]
      exact h1
section
variable {P : Program} {w : World} {K : PySem.W.Frag} {mg : Str → Option Value} {base : Heap}
def spRight : Sp := fun vs H Q _ => ∃ (b : Addr) (n : Nat), vs = [.ref b] ∧ BoxAt H b n ∧ n ≤ 2 ^ 20 ∧ ∀ H', SameX [b] H H' → BoxAt H' b (n + 4000) → Q (.bl true) H'
theorem scRight : FnScope nRight ["_law_box_here"] (defScope sRight) :=
  ⟨rfl, rfl, rfl, by decide +kernel, rfl, by decide +kernel, by decide +kernel⟩
theorem ok_right {f fD fX fS fL fM fE fI fP fU fR B : Addr} {fd fdD fdX fdS fdL fdM fdE fdI fdP fdU fdR : FuncData} (F : Fun K "_law_right" "_law_right" sRight f fd)
    (FD : Fun K "_law_named_setup" "_law_named_setup" sNamed fD fdD) (bD : Binds K fdD ["_law_box_here", "_law_least_so"] []) (mD : mg "_law_named_setup" = some (.ref fD)) (GD : FnOk P w K mg base CX0 14 fD fdD ["_law_box_here", "_law_least_so"] (spNamed K))
    (FX : Fun K "_law_setup_words" "_law_setup_words" sLawWords fX fdX) (bX : Binds K fdX ["_law_setup_so"] []) (mX : mg "_law_setup_words" = some (.ref fX)) (GX : FnOk P w K mg base CX0 14 fX fdX ["_law_setup_so"] (spLawWords K))
    (FS : Fun K "setup_text" "setup_text" sSetupText fS fdS) (bS : Binds K fdS ["setup"] []) (kS : KBinds K fdS ["setup"] ["setup"] (fun us ws => us ++ ws) (fun vs zs => vs ++ zs)) (mS : mg "setup_text" = some (.ref fS)) (GS : FnOk P w K mg base CX0 14 fS fdS ["setup"] (spSetupText K))
    (FL : Fun K "_law_lists" "_law_lists" sLists fL fdL) (bL : Binds K fdL ["_law_matter"] []) (mL : mg "_law_lists" = some (.ref fL)) (GL : FnOk P w K mg base CX0 14 fL fdL ["_law_matter"] (spLists K 7))
    (FM : Fun K "_law_mixed" "_law_mixed" sMixed fM fdM) (bM : Binds K fdM ["_law_box_here", "_law_matter"] []) (mM : mg "_law_mixed" = some (.ref fM)) (GM : FnOk P w K mg base CX0 14 fM fdM ["_law_box_here", "_law_matter"] (spMixed K 7))
    (FE : Fun K "_law_same" "_law_same" sSame fE fdE) (bE : Binds K fdE ["_law_found", "_law_due"] []) (mE : mg "_law_same" = some (.ref fE)) (GE : FnOk P w K mg base CX0 14 fE fdE ["_law_found", "_law_due"] (spSame K 8))
    (FI : Fun K "setup_in" "setup_in" sSetupIn fI fdI) (bI : Binds K fdI ["text"] []) (kI : KBinds K fdI ["text"] ["text"] (fun us ws => us ++ ws) (fun vs zs => vs ++ zs)) (mI : mg "setup_in" = some (.ref fI)) (GI : FnOk P w K mg base (L2.CX P w) 14 fI fdI ["text"] (spSetupIn K B))
    (FP : Fun K "_law_spoilt" "_law_spoilt" sSpoilt fP fdP) (bP : Binds K fdP ["_law_box_here", "_law_line"] []) (mP : mg "_law_spoilt" = some (.ref fP)) (GP : FnOk P w K mg base CX0 14 fP fdP ["_law_box_here", "_law_line"] spSpoilt)
    (FU : Fun K "_law_setups_in" "_law_setups_in" sSetupsIn fU fdU) (bU : Binds K fdU ["_law_line"] []) (mU : mg "_law_setups_in" = some (.ref fU)) (GU : FnOk P w K mg base CX0 14 fU fdU ["_law_line"] (spSetupsIn K))
    (FR : Fun K "_law_read" "_law_read" sRead fR fdR) (bR : Binds K fdR ["_law_door", "_law_setup_so", "_law_words"] []) (mR : mg "_law_read" = some (.ref fR)) (GR : FnOk P w K mg base CX0 14 fR fdR ["_law_door", "_law_setup_so", "_law_words"] (spRead K))
    (zi : mg "int" = none) (zr : mg "range" = none) (zl : mg "len" = none) (zs : mg "set" = none) (zt : mg "list" = none) : FnOk P w K mg base CX0 15 f fd ["_law_box_here"] spRight := by
  refine F.ok scRight (fun vs H Q E h => ?_) (fun cdv A outer s H vs Q E hr h => ?_)
  · obtain ⟨b, n, rfl, _⟩ := h
    rfl
  · obtain ⟨b, n, rfl, hB, hn, q⟩ := h
    refine ⟨_, (pss_cons (ps_par (i := 1) (j := 2) (by rfl) scRight.nd rfl rfl (by decide) rfl rfl (pa_cons pe_dnewK (pa_cons (pe_tup (pa_cons pe_int (pa_cons pe_int (pa_cons (pe_tup pa_nil) (pa_cons (pe_tup pa_nil) pa_nil))))) pa_nil)) (by rfl))
      (pss_cons (ps_for PassesOwn.never rfl (pi_range1 (by rfl) zr (pa_cons pe_int pa_nil)) (pg_name (i := 3) scRight.nd rfl (.inl rfl))
      (pss_cons (ps_set (i := 4) scRight.nd rfl (by first | exact .inl rfl | exact .inr rfl) (pe_call GD hr (by rfl) mD FD.kp bD .nil pass0 (pa_cons (pv 0) (pa_cons (pe_op op_mod (pe_callTy call_int1 (by rfl) zi PyProof.Rows.boot_int (pa_cons (pv 3) pa_nil)) pe_int) pa_nil))))
      (pss_cons (ps_set (i := 5) scRight.nd rfl (by first | exact .inl rfl | exact .inr rfl) (pe_join pe_str (pe_call GX hr (by rfl) mX FX.kp bX .nil pass0 (pa_cons (pv 4) pa_nil))))
      (pss_cons (ps_set (i := 6) scRight.nd rfl (by first | exact .inl rfl | exact .inr rfl) (pe_lst (pa_cons (pe_call GS hr (by rfl) mS FS.kp bS .nil pass0 (pa_cons (pv 4) pa_nil)) (pa_cons (pe_callK0 GS hr (by rfl) mS FS.kp kS (pk_cons (pe_call GL hr (by rfl) mL FL.kp bL .nil pass0 (pa_cons (pv 4) pa_nil)) pk_nil)) (pa_cons (pe_call GS hr (by rfl) mS FS.kp bS .nil pass0 (pa_cons (pe_call GM hr (by rfl) mM FM.kp bM .nil pass0 (pa_cons (pv 0) (pa_cons (pv 4) pa_nil))) pa_nil)) pa_nil)))))
      (pss_cons (ps_if (PW.pt (pw_or (pt_not (pt_val (pe_call GE hr (by rfl) mE FE.kp bE .nil pass0 (pa_cons (pv 6) (pa_cons (pe_op op_rep (pe_lst (pa_cons (pv 5) pa_nil)) pe_int) pa_nil))))) (pw_or1 (pt_not (pt_val (pe_call GE hr (by rfl) mE FE.kp bE .nil pass0 (pa_cons (pe_lst (pa_cons (pe_call GI hr (by rfl) mI FI.kp bI .nil passL (pa_cons (pv 5) pa_nil)) (pa_cons (pe_callK0L GI hr (by rfl) mI FI.kp kI (pk_cons (pv 5) pk_nil)) pa_nil))) (pa_cons (pe_lst (pa_cons (pv 4) (pa_cons (pv 4) pa_nil))) pa_nil)))))))) (pss_one (ps_ret pe_bl)) pss_nil)
      (pss_cons (ps_dput (Nat.lt_of_le_of_lt (Nat.add_le_add_left (by decide) _) hr.units) (pv 1) (pv 5) (pv 4) rfl)
      (pss_cons (ps_set (i := 7) scRight.nd rfl (by first | exact .inl rfl | exact .inr rfl) (pe_lst (pa_cons pe_str (pa_cons (pe_op op_add_str (pv 5) pe_str) (pa_cons (pe_op op_add_str pe_str (pv 5)) (pa_cons (pe_op op_add_str (pv 5) pe_str) (pa_cons (pe_upper (pv 5)) (pa_cons pe_str pa_nil))))))))
      (pss_cons (ps_set (i := 7) scRight.nd rfl (by first | exact .inl rfl | exact .inr rfl) (pe_op op_cat (pv 7) (pe_lst (pa_cons pe_str pa_nil))))
      (pss_cons (ps_set (i := 7) scRight.nd rfl (by first | exact .inl rfl | exact .inr rfl) (pe_op op_cat (pv 7) (pe_lst (pa_cons pe_str (pa_cons pe_str (pa_cons pe_str pa_nil))))))
      (pss_cons (ps_set (i := 7) scRight.nd rfl (by first | exact .inl rfl | exact .inr rfl) (pe_op op_cat (pv 7) (pe_lst (pa_cons pe_str pa_nil))))
      (pss_cons (ps_set (i := 7) scRight.nd rfl (by first | exact .inl rfl | exact .inr rfl) (pe_op op_cat (pv 7) (pe_lst (pa_cons pe_str (pa_cons pe_str (pa_cons pe_str pa_nil))))))
      (pss_cons (ps_set (i := 7) scRight.nd rfl (by first | exact .inl rfl | exact .inr rfl) (pe_op op_cat (pv 7) (pe_lst (pa_cons pe_str pa_nil))))
      (pss_cons (ps_set (i := 7) scRight.nd rfl (by first | exact .inl rfl | exact .inr rfl) (pe_op op_cat (pv 7) (pe_lst (pa_cons pe_str pa_nil))))
      (pss_cons (ps_set (i := 7) scRight.nd rfl (by first | exact .inl rfl | exact .inr rfl) (pe_op op_cat (pv 7) (pe_lst (pa_cons pe_str (pa_cons pe_str pa_nil)))))
      (pss_cons (ps_set (i := 7) scRight.nd rfl (by first | exact .inl rfl | exact .inr rfl) (pe_op op_cat (pv 7) (pe_lst (pa_cons pe_str pa_nil))))
      (pss_one (ps_for PassesOwn.never rfl (pi_list (pe_op op_cat (pv 7) (pe_lc (own := [("_law_again", 10)]) (g := gName 10) (tt := tYes) rfl scRight.nd (pi_range1 (by rfl) zr (pa_cons pe_int pa_nil)) (blkOk_by (N := nRight) (sc := defScope sRight) (by decide +kernel))
          (fun _ _ _ _ _ => pg_name (i := 10) scRight.nd rfl (Or.inl rfl)) (fun _ _ _ _ _ => pts_nil) (fun _ _ _ _ _ => (pe_call GP hr (by rfl) mP FP.kp bP .nil pass0 (pa_cons (pv 0) (pa_cons (pv 5) pa_nil))))))) (pg_name (i := 8) scRight.nd rfl (.inl rfl))
        (pss_cons (ps_set (i := 9) scRight.nd rfl (by first | exact .inl rfl | exact .inr rfl) (pe_ix ix_seq (pe_op op_cat (pe_call GU hr (by rfl) mU FU.kp bU .nil pass0 (pa_cons (pv 8) pa_nil)) (pe_lst (pa_cons (pe_tup (pa_cons pe_str (pa_cons pe_int pa_nil))) pa_nil))) pe_int (fun _ _ => rfl)))
      (pss_one (ps_if (pt_not (pt_val (pe_call GE hr (by rfl) mE FE.kp bE .nil pass0 (pa_cons (pe_call GR hr (by rfl) mR FR.kp bR .nil pass0 (pa_cons pe_str (pa_cons (pv 2) (pa_cons (pv 8) pa_nil)))) (pa_cons (pv 9) pa_nil))))) (pss_one (ps_ret pe_bl)) pss_nil))))))))))))))))))))
      (pss_one (ps_ret (pe_cmpR op_eq (pe_callB cr_lenK (by rfl) zl PySem.boot_len (pa_cons (pe_callTy (cr_setK rfl hr.units) (by rfl) zs PyProof.Rows.boot_set (pa_cons (pe_callTy (cr_listVw rfl) (by rfl) zt PyProof.Rows.boot_list (pa_cons (pe_bm0 PySem.F.plainAttrs_dict PySem.F.slot_dict_values PySem.F.type_dict_values mt_values (pv 1)) pa_nil)) pa_nil)) pa_nil)) (pe_callB call_lenD (by rfl) zl PySem.boot_len (pa_cons (pv 1) pa_nil)) (nomark _)))))), ?_⟩
    have lv : ∀ {H' : Hp} {k : Nat}, BoxAt H' b k → Live [b] H' := fun {H' k} h c hc => by
      rw [List.mem_singleton.mp hc]
      exact h.live
    refine seq_gen (P := fun σ' H1 => ∃ D nv, σ' = [some (.ref b), some (.ref D), some nv, none, none, none, none, none, none, none, none] ∧ D ≠ b ∧ H D = none ∧ Same H H1 ∧ H1 D = some (.dK [])) (fun N hN => ?_) ?_
    · refine fun D nD => ⟨by show 0 ≤ sizeLine; decide, fun t1 h1 => ⟨by show 0 ≤ sizeLine; decide, fun t2 h2 => ⟨by show 4 ≤ sizeLine; decide, fun t3 h3 => ⟨_, _, rfl, hN _ _ ⟨D, _, rfl, fun z => hB.live (z ▸ nD), nD, ?_, ?_⟩⟩⟩⟩⟩
      · exact (same_upd nD).trans ((same_upd h1).trans ((same_upd h2).trans (same_upd h3)))
      · exact same_upd h3 _ _ (same_upd h2 _ _ (same_upd h1 _ _ upd_same))
    rintro _ H1 ⟨D, nv, rfl, nDb, nD, s1, hD⟩
    have b1 := hB.same s1
    have hbm : b ∈ [b, D] := List.mem_cons_self
    refine seq_gen (P := fun σ' H2 => ∃ y3 y4 y5 y6 y7 y8 y9 rows, σ' = [some (.ref b), some (.ref D), some nv, y3, y4, y5, y6, y7, y8, y9, none] ∧ SameX [b, D] H1 H2 ∧ BoxAt H2 b (n + 4000) ∧ SeenAt K b D H2 rows ∧ rows.length ≤ 4) (fun N hN => ?_) ?_
    · refine ⟨4, rfl, by decide, by decide, for_range (lo := 0) (n := 4) (fun i σ H' => ∃ y3 y4 y5 y6 y7 y8 y9 rows, σ = [some (.ref b), some (.ref D), some nv, y3, y4, y5, y6, y7, y8, y9, none] ∧ SameX [b, D] H1 H' ∧ BoxAt H' b (n + 1000 * i) ∧ SeenAt K b D H' rows ∧ rows.length ≤ i)
        ⟨none, none, none, none, none, none, none, [], rfl, SameX.refl _ _, b1, ⟨hD, List.nodup_nil, fun r hr => absurd hr List.not_mem_nil⟩, Nat.le_refl _⟩ ?_ (fun σ H' h => hN _ _ h)⟩
      rintro i σ H' hi ⟨y3, y4, y5, y6, y7, y8, y9, rows, rfl, sx, bx, seen, rl⟩
      have lv2 : ∀ {H2 : Hp} {k : Nat} {rows : List (Str × Addr × PyData)}, BoxAt H2 b k → SeenAt K b D H2 rows → Live [b, D] H2 := fun {H2 k rows} h hs c hc => by
        rcases List.mem_cons.mp hc with rfl | hc
        · exact h.live
        · rw [List.mem_singleton.mp hc, hs.1]
          exact fun z => by cases z
      show tSeq _ _ _ [some (.ref b), some (.ref D), some nv, some (.int (0 + (i : Int))), y4, y5, y6, y7, y8, y9, none] H'
      have et : (0 : Int) + (i : Int) = ((i : Nat) : Int) := Int.zero_add _
      rw [et]
      -- the SETUP
      refine seq_gen (P := fun σ' H2 => ∃ sv d, σ' = [some (.ref b), some (.ref D), some nv, some (.int (i : Nat)), some sv, y5, y6, y7, y8, y9, none] ∧ SetupD (i % 2) d ∧ SameX [b] H' H2 ∧ BoxAt H2 b (n + 1000 * i + 400) ∧ Dp K (hide [b, D] H2) sv d) (fun N1 hN1 => ?_) ?_
      · exact ⟨_, rfl, _, rfl, .inl ⟨_, rfl, _, _, rfl, rfl, (by show (0 : Int) < 2; decide), [b, D], b, n + 1000 * i, i % 2, rfl, by omega, hbm, lv2 bx seen, bx, by omega, fun v d H2 hd s2 b2 dv => hN1 _ _ ⟨v, d, rfl, hd, s2, b2, dv⟩⟩⟩
      rintro _ H2 ⟨sv, d, rfl, hd, s2, b2, dv⟩
      have gd := setup_good hd
      have isd := setup_is hd
      obtain ⟨a, c, ps, es, rfl, a1, a2, c1, c2, wp, asc, lp, le, he⟩ := drawn_parts hd
      have back := drawn_back a1 a2 c1 c2 wp (asc_nodup asc) he isd
      obtain ⟨nice, words⟩ := drawn_nice a2 c2 lp le wp he
      have asci := drawn_ascii (a := a) (b := c) (ps := ps) (es := es) (by omega) (by omega) wp he
      have sw := setup_words (a := a) (b := c) (ps := ps) (es := es) (by omega) (by omega) wp fun o ho x hx => wp x (he o ho x hx)
      have wl60 : ∀ x ∈ ps, x.length ≤ 60 := fun x hx => Nat.le_trans (letters_word (wp x hx)).1.2.1 (by decide)
      have el60 : ∀ o ∈ es, (entW o).length ≤ 60 := fun o ho => by
        cases o with
        | none => exact by decide +kernel
        | some x => exact wl60 x (he _ ho x rfl)
      have okd6 : okD (setD a c ps es) 6 = true := gD_ok (by decide) _ 6 (gD_mono (fun _ z => z) (Nat.le_refl 5) _ 3 6 (by decide) gd)
      have okd7 : okD (setD a c ps es) 7 = true := gD_ok (by decide) _ 7 (gD_mono (fun _ z => z) (Nat.le_refl 5) _ 3 7 (by decide) gd)
      have nodes : nodesD (setD a c ps es) ≤ 20 := nodes_setD lp le
      have tset := tup_setD a c ps es
      obtain ⟨T, hT⟩ : ∃ T, T = txtS a c ps es := ⟨_, rfl⟩
      have back : readS (Txt.split T " ") = some (setD a c ps es) := by rw [hT]; exact back
      have nice : Nice 200 8 22 (TL.tl T) := by rw [hT]; exact nice
      have words : ∀ x ∈ Txt.split T " ", wordT 8 x := by rw [hT]; exact words
      have asci : ∀ c ∈ TL.tl T, c < 128 := by rw [hT]; exact asci
      obtain ⟨lT, lwT, hwT⟩ := nice.words (by decide) (by decide) (by decide)
      have lT2 := nice_len nice
      obtain ⟨p0, rfl⟩ : ∃ p0, sv = .ref p0 := by
        cases dv with
        | tup h1 h2 => exact ⟨_, rfl⟩
      have sV : ∀ {H9 : Hp} {v : V} {d : PyData}, Dp K (hide [b, D] H9) v d → tupD d = setD a c ps es → SetupV K H9 v a c ps es := fun h e => setupV_of (dp_same (hide_same _ _) h) e
      have seen2 := seen.keep nDb s2
      have sx2 : SameX [b, D] H1 H2 := sx.trans (s2.sub fun z hz => by rw [List.mem_singleton.mp hz]; exact hbm)
      -- its text
      refine seq_gen (P := fun σ' H3 => σ' = [some (.ref b), some (.ref D), some nv, some (.int (i : Nat)), some (.ref p0), some (.str T), y6, y7, y8, y9, none] ∧ Same H2 H3) (fun N2 hN2 => ?_) ?_
      · refine ⟨⟨_, rfl⟩, _, rfl, .ref p0, a, c, ps, es, rfl, sV dv tset, by omega, by omega, by omega, by omega, fun t H3 s3 h3 => ⟨_, t, setupWords a c ps es, rfl, rfl, .inl (SqL.of h3), ?_, hN2 _ _ ⟨by rw [hT]; rfl, s3⟩⟩⟩
        have h1 := sum_len fun x hx => Nat.le_trans (sw x hx).2.1 (by decide : 8 ≤ 60)
        have ll : (setupWords a c ps es).length ≤ 14 := by
          simp only [setupWords, List.length_append, List.length_cons, List.length_nil, List.length_map]
          omega
        have l1 : (Str.ofString " ").length = 1 := by decide +kernel
        rw [l1]
        omega
      rintro _ H3 ⟨rfl, s3⟩
      have b3 := b2.same s3
      have seen3 := seen2.keep nDb (SameX.of s3)
      have dv3 := dp_same (hide_of_same (B := [b, D]) s3) dv
      -- told
      refine seq_gen (P := fun σ' H4 => ∃ t, σ' = [some (.ref b), some (.ref D), some nv, some (.int (i : Nat)), some (.ref p0), some (.str T), some (.ref t), y7, y8, y9, none] ∧ SameX [b] H3 H4 ∧ BoxAt H4 b (n + 1000 * i + 420) ∧ H4 t = some (.lst [.str T, .str T, .str T])) (fun N2 hN2 => ?_) ?_
      · refine ⟨_, rfl, .ref p0, a, c, ps, es, rfl, sV dv3 tset, by omega, by omega, by omega, by omega, wl60, el60, fun H4 s4 => ?_⟩
        have dv4 := dp_same (hide_of_same (B := [b, D]) s4) dv3
        have b4 := b3.same s4
        have seen4 := seen3.keep nDb (SameX.of s4)
        refine ⟨_, rfl, [b, D], .ref p0, setD a c ps es, rfl, lv2 b4 seen4, dv4, okd7, fun v5 H5 s5 d5 => ⟨v5, a, c, ps, es, rfl, sV d5 (by rw [tup_lst, tset]), by omega, by omega, by omega, by omega, wl60, el60, fun H6 s6 => ?_⟩⟩
        have s46 := s5.trans s6
        have dv6 := dp_same (hide_of_same (B := [b, D]) s46) dv4
        have b6 := b4.same s46
        have seen6 := seen4.keep nDb (SameX.of s46)
        refine ⟨_, rfl, _, rfl, [b, D], b, n + 1000 * i + 400, .ref p0, setD a c ps es, rfl, hbm, lv2 b6 seen6, b6, by omega, dv6, okd7, fun v7 d7 H7 e7 ok7 s7 b7 dp7 => ⟨v7, a, c, ps, es, rfl, sV dp7 (by rw [e7, tset]), by omega, by omega, by omega, by omega, wl60, el60, fun H8 s8 => ⟨by show 3 ≤ sizeLine; decide, fun t ht => hN2 _ _ ⟨t, rfl, ?_, ?_, ?_⟩⟩⟩⟩
        · exact (SameX.of (s4.trans s46)).trans (s7.trans (SameX.of (s8.trans (same_upd ht))))
        · exact ((b7.same s8).same (same_upd ht)).le (by omega)
        · rw [upd_same, hT]
      rintro _ H4 ⟨t, rfl, s4, b4, ht⟩
      have seen4 := seen3.keep nDb s4
      have sub1 : ∀ z ∈ [b], z ∈ [b, D] := fun z hz => by rw [List.mem_singleton.mp hz]; exact hbm
      have dv4 := dp_same (s4.hide sub1) dv3
      -- the check
      refine seq_gen (P := fun σ' H5 => σ' = [some (.ref b), some (.ref D), some nv, some (.int (i : Nat)), some (.ref p0), some (.str T), some (.ref t), y7, y8, y9, none] ∧ Same H4 H5) (fun N2 hN2 => ?_) ?_
      · refine ⟨_, rfl, _, rfl, by show 1 ≤ sizeLine; decide, fun p hp => ⟨p, 3, _, rfl, rfl, upd_same, by decide, by decide, by show 1 * 3 ≤ sizeLine; decide, fun g hg => ?_⟩⟩
        have u1 := same_upd (o := HO.lst [V.str T]) hp
        have u2 := same_upd (o := HO.lst (List.replicate (3 : Int).toNat [V.str T]).flatten) hg
        refine ⟨7, .ref t, .ref g, .list [.str T, .str T, .str T], rfl, rfl, .lst (SqL.of (u2 _ _ (u1 _ _ ht))) (.cons (.str _) (.cons (.str _) (.cons (.str _) .nil))), .lst (SqL.of upd_same) (.cons (.str _) (.cons (.str _) (.cons (.str _) .nil))), by simp [okD, okDs], fun H7 s7 => ⟨_, rfl, iteF ?_⟩⟩
        have u47 := (u1.trans u2).trans s7
        have full : ∀ {H9 : Hp} {v : V} {s : PyData}, readS (Txt.split T " ") = some s → Dp K H9 v s → Dp K H9 v (setD a c ps es) := fun {H9 v s} e h => by
          rw [back] at e
          rw [Option.some.inj e]
          exact h
        have no : readS (Txt.split T " ") = none → False := fun e => by
          rw [back] at e
          cases e
        refine ⟨_, rfl, T, rfl, lT, lwT, hwT, fun e => (no e).elim, fun s8 v8 H8 e8 q8 d8 => ?_⟩
        refine ⟨_, rfl, T, rfl, lT, lwT, hwT, fun e => (no e).elim, fun s9 v9 H9 e9 q9 d9 => ?_⟩
        refine ⟨by show 2 ≤ sizeLine; decide, fun p2 h2 => ?_⟩
        have w1 := same_upd (o := HO.lst [v8, v9]) h2
        refine ⟨_, rfl, _, rfl, by show 2 ≤ sizeLine; decide, fun p3 h3 => ?_⟩
        have w2 := same_upd (o := HO.lst [V.ref p0, V.ref p0]) h3
        have dvA : Dp K (upd (upd H9 p2 (.lst [v8, v9])) p3 (.lst [V.ref p0, V.ref p0])) (.ref p0) (setD a c ps es) := dp_same ((((hide_same [b, D] H4).trans u47).trans (q8.trans q9)).trans (w1.trans w2)) dv4
        have d8' := dp_same (q9.trans (w1.trans w2)) (full e8 d8)
        have d9' := dp_same (w1.trans w2) (full e9 d9)
        have okl : okD (.list [setD a c ps es, setD a c ps es]) 7 = true := (ok_mk (m := 6) (by show 2 ≤ 1000; decide) (by simp [okDs, okd6])).1
        refine ⟨7, .ref p2, .ref p3, .list [setD a c ps es, setD a c ps es], rfl, rfl, .lst (SqL.of (w2 _ _ upd_same)) (.cons d8' (.cons d9' .nil)), .lst (SqL.of upd_same) (.cons dvA (.cons dvA .nil)), okl, fun H10 s10 => ⟨_, rfl, iteF (hN2 _ _ ⟨rfl, ?_⟩)⟩⟩
        exact u47.trans ((q8.trans q9).trans ((w1.trans w2).trans s10))
      rintro _ H5 ⟨rfl, s5⟩
      have b5 := b4.same s5
      have seen5 := seen4.keep nDb (SameX.of s5)
      have dv5 := dp_same (hide_of_same (B := [b, D]) s5) dv4
      have sx5 : SameX [b, D] H1 H5 := sx2.trans ((SameX.of s3).trans ((s4.sub sub1).trans (SameX.of s5)))
      -- it is seen
      refine seq_gen (P := fun σ' H6 => σ' = [some (.ref b), some (.ref D), some nv, some (.int (i : Nat)), some (.ref p0), some (.str T), some (.ref t), y7, y8, y9, none] ∧ SameX [b, D] H5 H6 ∧ BoxAt H6 b (n + 1000 * i + 420) ∧ ∃ rows', SeenAt K b D H6 rows' ∧ rows'.length ≤ i + 1) (fun N2 hN2 => ?_) ?_
      · refine ⟨_, rfl, _, rfl, _, rfl, D, _, rfl, DPut.k (k := Sum.inr T) seen5.1 (small1000 (by rw [List.length_map]; omega)), hN2 _ _ ⟨rfl, sameX_upd (List.mem_cons_of_mem _ List.mem_cons_self), ?_, putR rows T p0 (setD a c ps es), ⟨?_, putR_keys _ _ _ _ seen5.2.1, fun r hr => ?_⟩, Nat.le_trans (putR_len _ _ _ _) (Nat.add_le_add_right rl 1)⟩⟩
        · obtain ⟨x, y, z, e1, e2⟩ := b5
          exact ⟨x, y, z, by rw [upd_ne (Ne.symm nDb)]; exact e1, e2⟩
        · rw [upd_same, putR_k rows T p0 (setD a c ps es)]
        · rw [hide_upd_in (List.mem_cons_of_mem _ List.mem_cons_self)]
          rcases putR_mem hr with rfl | hr
          · exact ⟨⟨a, c, ps, es, rfl, hT⟩, dv5⟩
          · exact seen5.2.2 r hr
      clear seen seen2 seen3 seen4 seen5 b5 b4 b3 b2 bx
      rintro _ H6 ⟨rfl, s6, b6, rows', seen6, rl'⟩
      have sx6 := sx5.trans s6
      -- the odd lines
      have small : ∀ {k : Nat}, k ≤ 1000 → k ≤ sizeLine := fun h => Nat.le_of_lt (small1000 h)
      have lsp : (Str.ofString " ").length = 1 := by decide +kernel
      have lnl : (Str.ofString "\n").length = 1 := by decide +kernel
      refine seq_gen (P := fun σ' H9 => ∃ l L, σ' = [some (.ref b), some (.ref D), some nv, some (.int (i : Nat)), some (.ref p0), some (.str T), some (.ref t), some (.ref l), y8, y9, none] ∧ Same H6 H9 ∧ H9 l = some (.lst (L.map V.str)) ∧ Lines L ∧ L.length ≤ 6) (fun N2 hN2 => ?_) ?_
      · refine ⟨_, rfl, T, _, rfl, rfl, small (by rw [lsp]; omega), _, rfl, _, T, rfl, rfl, small (by rw [lsp]; omega), _, rfl, T, _, rfl, rfl, small (by rw [lnl]; omega), _, rfl, ⟨_, rfl⟩, T, rfl, rfl, by omega, by show 6 ≤ sizeLine; decide, fun l hl => ?_⟩
        refine hN2 _ _ ⟨l, [Str.ofString "", T ++ Str.ofString " ", Str.ofString " " ++ T, T ++ Str.ofString "\n", Txt.upper T, Str.ofString "ring 0 1 pipes slots"], rfl, same_upd hl, upd_same, fun x hx => ?_, Nat.le_refl 6⟩
        have sp1 : Nice 5 5 1 (TL.tl (Str.ofString " ")) := nice_small (by decide +kernel)
        have sn1 : Nice 5 5 1 (TL.tl (Str.ofString "\n")) := nice_small (by decide +kernel)
        rcases List.mem_cons.mp hx with rfl | hx
        · exact nice_lit (by decide +kernel)
        rcases List.mem_cons.mp hx with rfl | hx
        · exact (nice_cat nice sp1).mono (by decide) (by decide) (by decide)
        rcases List.mem_cons.mp hx with rfl | hx
        · exact (nice_cat sp1 nice).mono (by decide) (by decide) (by decide)
        rcases List.mem_cons.mp hx with rfl | hx
        · exact (nice_cat nice sn1).mono (by decide) (by decide) (by decide)
        rcases List.mem_cons.mp hx with rfl | hx
        · exact (nice_upper nice asci).mono (by decide) (by decide) (by decide)
        rw [List.mem_singleton.mp hx]
        exact nice_lit (by decide +kernel)
      rintro _ H9 ⟨l, L, rfl, sO, hl, ln, lk⟩
      refine seq_gen (P := fun σ' H9 => ∃ l L, σ' = [some (.ref b), some (.ref D), some nv, some (.int (i : Nat)), some (.ref p0), some (.str T), some (.ref t), some (.ref l), y8, y9, none] ∧ Same H6 H9 ∧ H9 l = some (.lst (L.map V.str)) ∧ Lines L ∧ L.length ≤ 7) (fun N2 hN2 => ?_) ?_
      · exact ⟨_, rfl, cat_read (M := ["ring 1 0 pipes slots"]) hl (Nat.le_trans (Nat.add_le_add_right lk _) (by decide)) fun g H9 s9 hg => hN2 _ _ ⟨g, _, rfl, sO.trans s9, hg, ln.app (Lines.lit (by decide +kernel)), by rw [List.length_append]; exact Nat.le_trans (Nat.add_le_add_right lk _) (by decide)⟩⟩
      clear hl ln lk sO
      rintro _ H9 ⟨l, L, rfl, sO, hl, ln, lk⟩
      refine seq_gen (P := fun σ' H9 => ∃ l L, σ' = [some (.ref b), some (.ref D), some nv, some (.int (i : Nat)), some (.ref p0), some (.str T), some (.ref t), some (.ref l), y8, y9, none] ∧ Same H6 H9 ∧ H9 l = some (.lst (L.map V.str)) ∧ Lines L ∧ L.length ≤ 10) (fun N2 hN2 => ?_) ?_
      · exact ⟨_, rfl, cat_read (M := ["ring 01 1 pipes slots", "ring 1 1 pipes b a slots", "ring 1 1 pipes a slots b"]) hl (Nat.le_trans (Nat.add_le_add_right lk _) (by decide)) fun g H9 s9 hg => hN2 _ _ ⟨g, _, rfl, sO.trans s9, hg, ln.app (Lines.lit (by decide +kernel)), by rw [List.length_append]; exact Nat.le_trans (Nat.add_le_add_right lk _) (by decide)⟩⟩
      clear hl ln lk sO
      rintro _ H9 ⟨l, L, rfl, sO, hl, ln, lk⟩
      refine seq_gen (P := fun σ' H9 => ∃ l L, σ' = [some (.ref b), some (.ref D), some nv, some (.int (i : Nat)), some (.ref p0), some (.str T), some (.ref t), some (.ref l), y8, y9, none] ∧ Same H6 H9 ∧ H9 l = some (.lst (L.map V.str)) ∧ Lines L ∧ L.length ≤ 11) (fun N2 hN2 => ?_) ?_
      · exact ⟨_, rfl, cat_read (M := ["ring 1 1 pipes a"]) hl (Nat.le_trans (Nat.add_le_add_right lk _) (by decide)) fun g H9 s9 hg => hN2 _ _ ⟨g, _, rfl, sO.trans s9, hg, ln.app (Lines.lit (by decide +kernel)), by rw [List.length_append]; exact Nat.le_trans (Nat.add_le_add_right lk _) (by decide)⟩⟩
      clear hl ln lk sO
      rintro _ H9 ⟨l, L, rfl, sO, hl, ln, lk⟩
      refine seq_gen (P := fun σ' H9 => ∃ l L, σ' = [some (.ref b), some (.ref D), some nv, some (.int (i : Nat)), some (.ref p0), some (.str T), some (.ref t), some (.ref l), y8, y9, none] ∧ Same H6 H9 ∧ H9 l = some (.lst (L.map V.str)) ∧ Lines L ∧ L.length ≤ 14) (fun N2 hN2 => ?_) ?_
      · exact ⟨_, rfl, cat_read (M := ["ring 1 1 pipes slots -", "ring 1 1 pipes slots slots slots", "rang 1 1 pipes slots"]) hl (Nat.le_trans (Nat.add_le_add_right lk _) (by decide)) fun g H9 s9 hg => hN2 _ _ ⟨g, _, rfl, sO.trans s9, hg, ln.app (Lines.lit (by decide +kernel)), by rw [List.length_append]; exact Nat.le_trans (Nat.add_le_add_right lk _) (by decide)⟩⟩
      clear hl ln lk sO
      rintro _ H9 ⟨l, L, rfl, sO, hl, ln, lk⟩
      refine seq_gen (P := fun σ' H9 => ∃ l L, σ' = [some (.ref b), some (.ref D), some nv, some (.int (i : Nat)), some (.ref p0), some (.str T), some (.ref t), some (.ref l), y8, y9, none] ∧ Same H6 H9 ∧ H9 l = some (.lst (L.map V.str)) ∧ Lines L ∧ L.length ≤ 15) (fun N2 hN2 => ?_) ?_
      · exact ⟨_, rfl, cat_read (M := ["ring 1 1 slots"]) hl (Nat.le_trans (Nat.add_le_add_right lk _) (by decide)) fun g H9 s9 hg => hN2 _ _ ⟨g, _, rfl, sO.trans s9, hg, ln.app (Lines.lit (by decide +kernel)), by rw [List.length_append]; exact Nat.le_trans (Nat.add_le_add_right lk _) (by decide)⟩⟩
      clear hl ln lk sO
      rintro _ H9 ⟨l, L, rfl, sO, hl, ln, lk⟩
      refine seq_gen (P := fun σ' H9 => ∃ l L, σ' = [some (.ref b), some (.ref D), some nv, some (.int (i : Nat)), some (.ref p0), some (.str T), some (.ref t), some (.ref l), y8, y9, none] ∧ Same H6 H9 ∧ H9 l = some (.lst (L.map V.str)) ∧ Lines L ∧ L.length ≤ 16) (fun N2 hN2 => ?_) ?_
      · exact ⟨_, rfl, cat_read (M := ["ring 1 1 pipes  slots"]) hl (Nat.le_trans (Nat.add_le_add_right lk _) (by decide)) fun g H9 s9 hg => hN2 _ _ ⟨g, _, rfl, sO.trans s9, hg, ln.app (Lines.lit (by decide +kernel)), by rw [List.length_append]; exact Nat.le_trans (Nat.add_le_add_right lk _) (by decide)⟩⟩
      clear hl ln lk sO
      rintro _ H9 ⟨l, L, rfl, sO, hl, ln, lk⟩
      refine seq_gen (P := fun σ' H9 => ∃ l L, σ' = [some (.ref b), some (.ref D), some nv, some (.int (i : Nat)), some (.ref p0), some (.str T), some (.ref t), some (.ref l), y8, y9, none] ∧ Same H6 H9 ∧ H9 l = some (.lst (L.map V.str)) ∧ Lines L ∧ L.length ≤ 18) (fun N2 hN2 => ?_) ?_
      · exact ⟨_, rfl, cat_read (M := ["ring 1 1 pipes a slots - a -", "ring 1 1 pipes ninechars slots"]) hl (Nat.le_trans (Nat.add_le_add_right lk _) (by decide)) fun g H9 s9 hg => hN2 _ _ ⟨g, _, rfl, sO.trans s9, hg, ln.app (Lines.lit (by decide +kernel)), by rw [List.length_append]; exact Nat.le_trans (Nat.add_le_add_right lk _) (by decide)⟩⟩
      clear hl ln lk sO
      rintro _ H9 ⟨l, L, rfl, sO, hl, ln, lk⟩
      refine seq_gen (P := fun σ' H9 => ∃ l L, σ' = [some (.ref b), some (.ref D), some nv, some (.int (i : Nat)), some (.ref p0), some (.str T), some (.ref t), some (.ref l), y8, y9, none] ∧ Same H6 H9 ∧ H9 l = some (.lst (L.map V.str)) ∧ Lines L ∧ L.length ≤ 19) (fun N2 hN2 => ?_) ?_
      · exact ⟨_, rfl, cat_read (M := ["ring 9999999999999 1 pipes slots"]) hl (Nat.le_trans (Nat.add_le_add_right lk _) (by decide)) fun g H9 s9 hg => hN2 _ _ ⟨g, _, rfl, sO.trans s9, hg, ln.app (Lines.lit (by decide +kernel)), by rw [List.length_append]; exact Nat.le_trans (Nat.add_le_add_right lk _) (by decide)⟩⟩
      clear hl ln lk sO
      rintro _ H9 ⟨l, L, rfl, sO, hl, ln, lk⟩
      have b9 := b6.same sO
      have seen9 := seen6.keep nDb (SameX.of sO)
      have sx9 := sx6.trans (SameX.of sO)
      obtain ⟨m, hm⟩ : ∃ m, m = n + 1000 * i + 420 := ⟨_, rfl⟩
      rw [← hm] at b9
      have nlb : l ≠ b := fun z => by
        obtain ⟨x, y, w, e, _⟩ := b9
        rw [← z, hl] at e
        have e := HO.lst.inj (Option.some.inj e)
        cases L with
        | nil => cases e
        | cons x L => cases e
      refine ⟨_, rfl, ?_⟩
      refine ⟨10, rfl, by decide, by decide, fun Dc nDc => lc_it (walk_range (lo := 0) (n := 10)) (fun j H3 => SameX [Dc, b] H9 H3 ∧ BoxAt H3 b (m + 5 * j) ∧ ∃ M, H3 Dc = some (.lst (M.map V.str)) ∧ Lines M ∧ M.length = j) ⟨sameX_upd List.mem_cons_self, ?_, [], upd_same, (fun x hx => absurd hx List.not_mem_nil), rfl⟩ (fun _ _ _ _ => trivial) ?_ ?_⟩
      · have bD : b ≠ Dc := fun e => b9.live (by rw [e]; exact nDc)
        obtain ⟨x, y, w, z, z2⟩ := b9
        exact ⟨x, y, w, by rw [upd_ne bD]; exact z, z2⟩
      · rintro j x H15 H15' hj ⟨s15, b15, M, hM, lM, nM⟩ ⟨rfl, rfl⟩
        have bD : b ≠ Dc := fun e => b9.live (by rw [e]; exact nDc)
        refine ⟨rfl, tYes_ok ⟨_, rfl, _, rfl, b, m + 5 * j, T, rfl, b15, by omega, nice, words, fun y k H16 hk ny s16 b16 => ?_⟩⟩
        have hD16 := s16 Dc _ (fun z => bD (List.mem_singleton.mp z).symm) hM
        refine ⟨_, hD16, small1000 (by rw [List.length_map]; omega), s15.trans ((s16.sub fun z hz => List.mem_cons_of_mem _ hz).trans (sameX_upd List.mem_cons_self)), ?_, M ++ [y], ?_, lM.app fun z hz => by rw [List.mem_singleton.mp hz]; exact ny, by rw [List.length_append, nM]; rfl⟩
        · obtain ⟨u, v, w, z, z2⟩ := b16
          exact ⟨u, v, w, by rw [upd_ne bD]; exact z, by omega⟩
        · rw [upd_same, List.map_append]
          rfl
      · rintro H15 ⟨s15, b15, M, hM, lM, nM⟩
        have bD : b ≠ Dc := fun e => b9.live (by rw [e]; exact nDc)
        have nlD : l ≠ Dc := fun z => by
          rw [← z, hl] at nDc
          cases nDc
        have hl15 := s15 l _ (fun z => (List.mem_cons.mp z).elim nlD fun z => nlb (List.mem_singleton.mp z)) hl
        have sx15 : SameX [b] H9 H15 := fun z o hz e => s15 z o (fun y => (List.mem_cons.mp y).elim (fun y => ne_of_none e nDc y) hz) e
        refine ⟨l, Dc, _, _, rfl, rfl, hl15, hM, small (by rw [List.length_map, List.length_map]; omega), fun g hg => ?_⟩
        have u15 := same_upd (o := HO.lst (L.map V.str ++ M.map V.str)) hg
        have hg15 : upd H15 g (.lst (L.map V.str ++ M.map V.str)) g = some (.lst ((L ++ M).map V.str)) := by rw [upd_same, List.map_append]
        generalize upd H15 g (.lst (L.map V.str ++ M.map V.str)) = H17 at u15 hg15
        have lLM := ln.app lM
        have nLM : (L ++ M).length ≤ 40 := by
          rw [List.length_append]
          omega
        generalize L ++ M = LL at hg15 lLM nLM
        have sx17 := sx15.trans (SameX.of u15)
        refine ⟨g, rfl, ⟨_, SqL.of hg15⟩, for_it (walk_list (xs := LL.map V.str)) (fun j σ H' => ∃ z8 z9, σ = [some (.ref b), some (.ref D), some nv, some (.int (i : Nat)), some (.ref p0), some (.str T), some (.ref t), some (.ref l), z8, z9, none] ∧ Same H17 H') ⟨y8, y9, rfl, Same.refl _⟩ (fun j σ H' _ h => ?_) ?_ ?_⟩
        · obtain ⟨_, _, _, s⟩ := h
          exact s.seq (SqL.of hg15)
        · rintro j x σ H18 H18' hj ⟨z8, z9, rfl, sm⟩ ⟨rfl, hx⟩
          rw [List.getElem?_map] at hx
          obtain ⟨y, hy, rfl⟩ := Option.map_eq_some_iff.mp hx
          obtain ⟨ly, lwy, hwy⟩ := (lLM y (List.mem_of_getElem? hy)).words (by decide) (by decide) (by decide)
          show tSeq _ _ _ [some (.ref b), some (.ref D), some nv, some (.int (i : Nat)), some (.ref p0), some (.str T), some (.ref t), some (.ref l), some (.str y), z9, none] H18'
          refine seq_gen (P := fun σ' H19 => ∃ v, σ' = [some (.ref b), some (.ref D), some nv, some (.int (i : Nat)), some (.ref p0), some (.str T), some (.ref t), some (.ref l), some (.str y), some v, none] ∧ Same H18' H19 ∧ Dp K H19 v (readD (Txt.split y " "))) (fun N2 hN2 => ?_) ?_
          · refine ⟨_, rfl, y, rfl, ly, lwy, hwy, fun r xs H19 s19 hr dA => ⟨by show 2 ≤ sizeLine; decide, fun t1 h1 => ⟨by show 1 ≤ sizeLine; decide, fun t2 h2 => ⟨r, t2, xs, _, rfl, rfl, ?_, upd_same, ?_, fun t3 h3 => ?_⟩⟩⟩⟩
            · exact same_upd h2 _ _ (same_upd h1 _ _ hr)
            · have h1 := dps_len dA
              have h2 := allS_len (Txt.split y " ")
              show xs.length + 1 ≤ sizeLine
              exact small (by omega)
            · have q1 := same_upd (o := HO.tup [V.str (Str.ofString "line"), V.int (0 : Nat)]) h1
              have q2 := same_upd (o := HO.lst [V.ref t1]) h2
              have q3 := same_upd (o := HO.lst (xs ++ [V.ref t1])) h3
              obtain ⟨v, e, dv⟩ := first_read (t := t1) (dps_same ((q1.trans q2).trans q3) dA) (SqT.of (q3 _ _ (q2 _ _ upd_same)))
              exact .inl ⟨t3, _, 0, v, rfl, rfl, SqL.of upd_same, atI_nat (j := 0) e, hN2 _ _ ⟨v, rfl, s19.trans ((q1.trans q2).trans q3), dv⟩⟩
          rintro _ H19 ⟨v, rfl, s19, dv⟩
          refine ⟨_, rfl, _, rfl, nv, y, rfl, ly, lwy, hwy, fun u H20 s20 du => ⟨_, rfl, 7, u, v, readD (Txt.split y " "), rfl, rfl, du, dp_same s20 dv, gD_ok (by decide) _ 7 (gD_mono (fun _ z => z) (Nat.le_refl 100) _ 2 7 (by decide) (read_good lwy hwy)), fun H21 s21 => ⟨_, rfl, iteF ⟨_, _, rfl, sm.trans (s19.trans (s20.trans s21))⟩⟩⟩⟩
        · rintro σ H18 ⟨z8, z9, rfl, sm⟩
          have sx18 := sx17.trans (SameX.of sm)
          refine ⟨_, _, _, _, _, _, _, rows', rfl, sx9.trans (sx18.sub sub1), ?_, seen9.keep nDb sx18, rl'⟩
          exact (b15.same (u15.trans sm)).le (by omega)
    rintro _ H2 ⟨y3, y4, y5, y6, y7, y8, y9, rows, rfl, s2, b2, seen, rl⟩
    refine ⟨_, rfl, .inr (.inr (.inl ⟨rfl, .inl ⟨_, seen.1⟩⟩)), D, _, rfl, rfl, seen.1, fun v hv => ?_⟩
    have u1 := same_upd (o := VwO v D) hv
    refine ⟨v, D, _, rfl, upd_same, u1 _ _ seen.1, fun l hl => ?_⟩
    have u2 := same_upd (o := HO.lst ((rows.map fun r => ((Sum.inr r.1 : Key), V.ref r.2.1)).map (·.2))) hl
    refine ⟨l, rows.map (·.2), rfl, SqL.of (by rw [upd_same, List.map_map, List.map_map]; rfl), fun r hr => ?_, ?_, by rw [List.length_map]; exact rl, fun g hg => ?_⟩
    · obtain ⟨y, hy, rfl⟩ := List.mem_map.mp hr
      obtain ⟨⟨a, c, ps, es, e1, _⟩, dr⟩ := seen.2.2 y hy
      have k := set_key a c ps es
      rw [← e1] at k
      exact ⟨dp_same ((hide_same [b, D] H2).trans (u1.trans u2)) dr, k⟩
    · rw [List.map_map]
      exact rowS_nodup (fun r hr => (seen.2.2 r hr).1) seen.2.1
    · have u3 := same_upd (o := LsO g (rows.map (·.2)).length) hg
      refine ⟨g, _, rfl, by rw [List.length_map]; exact rl, upd_same, ?_⟩
      refine ⟨_, rfl, D, _, rfl, u3 _ _ (u2 _ _ (u1 _ _ seen.1)), ?_⟩
      have e : decide (V.int ((rows.map (·.2)).length : Nat) = V.int ((rows.map fun r => ((Sum.inr r.1 : Key), V.ref r.2.1)).length : Nat)) = true := decide_eq_true (by rw [List.length_map, List.length_map])
      refine ⟨rfl, ?_⟩
      rw [e]
      refine q _ (fun z o hz e => ?_) ((b2.same (u1.trans u2)).same u3)
      exact u3 _ _ (u2 _ _ (u1 _ _ (s2 z o (fun y => (List.mem_cons.mp y).elim (fun y => hz (List.mem_singleton.mpr y)) fun y => ne_of_none e nD (List.mem_singleton.mp y)) (s1 z o e))))
end
end KV

namespace KV
open PySem PySem.Spec PyProof.Rows L2 RZ
/-! ### classes of errors -/
theorem kit_ref {K : PySem.W.Frag} {t : Value} {C : Addr} {r : Bool} (h1 : PySem.W.isClsIn K C = true) (h2 : PySem.W.typeIn K (.ref C) = some (.type "type")) (h3 : PySem.W.subIn K t (.ref C) = some r) : PySem.W.kitCls K t (.ref C) = some r := by
  have e : ((PySem.W.clsIn K C).isSome && PySem.W.typeIn K (.ref C) == some (.type "type")) = true := by
    have h1' : (PySem.W.clsIn K C).isSome = true := h1
    rw [h1', h2] <;> rfl
  show (if ((PySem.W.clsIn K C).isSome && PySem.W.typeIn K (.ref C) == some (.type "type")) = true then PySem.W.subIn K t (.ref C) else none) = some r
  rw [if_pos e]
  exact h3
theorem exm_ref {K : PySem.W.Frag} {t : Value} {C : Addr} {r : Bool} (h0 : PySem.W.subIn K (.ref C) (.type "BaseException") = some true) (h1 : PySem.W.isClsIn K C = true) (h2 : PySem.W.typeIn K (.ref C) = some (.type "type")) (h3 : PySem.W.subIn K t (.ref C) = some r) : PySem.W.exmOne K t (.ref C) = some r := by
  have e : (PySem.W.subIn K (.ref C) (.type "BaseException") == some true) = true := by rw [h0] <;> rfl
  show (if (PySem.W.subIn K (.ref C) (.type "BaseException") == some true) = true then PySem.W.kitCls K t (.ref C) else none) = some r
  rw [if_pos e]
  exact kit_ref h1 h2 h3
theorem kit1_ref {K : PySem.W.Frag} {B C : Addr} {r : Bool} (n : (Value.ref B == Value.ref C) = false) (h1 : PySem.W.isClsIn K C = true) (h2 : PySem.W.typeIn K (.ref C) = some (.type "type")) (h3 : PySem.W.subIn K (.ref B) (.ref C) = some r) : PySem.W.kitOne K (.ref B) (.ref C) = some r := by
  unfold PySem.W.kitOne
  rw [n, if_neg Bool.false_ne_true]
  exact kit_ref h1 h2 h3
theorem kit1_self {K : PySem.W.Frag} {B : Addr} : PySem.W.kitOne K (.ref B) (.ref B) = some true := if_pos (by simp)
theorem kit1_type {K : PySem.W.Frag} {B : Addr} {T : String} {r : Bool} (m : PySem.W.kitMeta T = true) (h : PySem.W.subIn K (.ref B) (.type T) = some r) : PySem.W.kitOne K (.ref B) (.type T) = some r := by
  unfold PySem.W.kitOne
  have n : (Value.ref B == Value.type T) = false := rfl
  rw [n, if_neg Bool.false_ne_true]
  show (if PySem.W.kitMeta T = true then PySem.W.subIn K (.ref B) (.type T) else none) = some r
  rw [if_pos m]
  exact h
theorem iteBF {b : Bool} {A B : Prop} (h : b = false) (x : B) : if b = true then A else B := by
  subst h
  exact x
abbrev sLaw : Stmt := topS 121
section
variable {P : Program} {w : World} {K : PySem.W.Frag} {mg : Str → Option Value} {base : Heap}
def spLaw (K : PySem.W.Frag) : Sp := fun vs H Q _ => ∃ (a : Addr) (ns : List Int), vs = [.ref a] ∧ SqL K H a (ns.map V.int) ∧ ns.length ≤ 63 ∧ ∀ H', Q (.bl true) H'
theorem scLaw : FnScope ["_law_script", "_law_k", "_law_box_here", "_law_turn"] ["_law_script"] (defScope sLaw) :=
  ⟨rfl, rfl, rfl, by decide +kernel, rfl, by decide +kernel, by decide +kernel⟩
theorem ok_law {f fR fB : Addr} {fd fdR fdB : FuncData} (F : Fun K "law" "law" sLaw f fd) (FR : Fun K "_law_right" "_law_right" sRight fR fdR) (bR : Binds K fdR ["_law_box_here"] []) (mR : mg "_law_right" = some (.ref fR))
    (GR : FnG P w K mg base 15 fR fdR ["_law_box_here"] spRight)
    (FB : Fun K "_law_box" "_law_box" sBox fB fdB) (bB : Binds K fdB ["_law_script", "_law_k"] []) (mB : mg "_law_box" = some (.ref fB)) (zInt : mg "int" = none) (zLen : mg "len" = none) (zAbs : mg "abs" = none) (zMin : mg "min" = none) (zRange : mg "range" = none) (zAll : mg "all" = none) : FnG P w K mg base 16 f fd ["_law_script"] (spLaw K) := by
  have GB : FnOk P w K mg base CX0 1 fB fdB ["_law_script", "_law_k"] (spBox K) := ok_box FB zInt zLen zAbs
  refine okG F scLaw (fun vs H Q E h => ?_) (fun cdv A outer s H vs Q E hgd hr h => ?_)
  · obtain ⟨a, ns, rfl, _⟩ := h
    rfl
  · obtain ⟨a, ns, rfl, hS, hlen, q⟩ := h
    have hr1 : Room 1 _ := hr.mono (by decide)
    refine ⟨_, pss_cons (ps_for PassesOwn.never rfl (pi_range1 (by rfl) zRange (pa_cons (pe_op op_add pe_int (pe_callB (call_min2 rfl) (by rfl) zMin boot_min (pa_cons pe_int (pa_cons (pe_callB call_len_seq (by rfl) zLen PySem.boot_len (pa_cons (pv 0) pa_nil)) pa_nil)))) pa_nil)) (pg_name (i := 1) scLaw.nd rfl (.inl rfl))
        (pss_cons (ps_set (i := 2) scLaw.nd rfl (.inr rfl) (pe_call GB hr1 (by rfl) mB FB.kp bB .nil pass0 (pa_cons (pv 0) (pa_cons (pv 1) pa_nil))))
        (pss_one (ps_if (pt_not (pt_val (pe_callB (cr_all rfl) (by rfl) zAll boot_all (pa_cons
          (pe_lc (own := [("_law_turn", 3)]) (g := gName 3) (tt := tYes) rfl scLaw.nd (pi_range1 (by rfl) zRange (pa_cons pe_int pa_nil)) (blkOk_by (N := ["_law_script", "_law_k", "_law_box_here", "_law_turn"]) (sc := defScope sLaw) (by decide +kernel))
            (fun _ _ _ _ _ => pg_name (i := 3) scLaw.nd rfl (Or.inl rfl)) (fun _ _ _ _ _ => pts_nil) (fun _ _ _ _ _ => pe_callG GR hgd hr (by rfl) mR FR.kp bR (pa_cons (pv 2) pa_nil))) pa_nil)))) (pss_one (ps_ret pe_bl)) pss_nil))))
      (pss_one (ps_ret pe_bl)), ?_⟩
    refine ⟨_, rfl, a, _, rfl, .inl hS, _, _, rfl, _, _, rfl, rfl, _, rfl, ?_, ?_, for_range (lo := 0) (n := _) (fun i σ H' => ∃ y1 y2, σ = [some (.ref a), y1, y2, none] ∧ Same H H') ⟨none, none, rfl, Same.refl _⟩ ?_ ?_⟩
    · split <;> omega
    · split <;> omega
    · rintro i σ H' hi ⟨y1, y2, rfl, sm⟩
      have hi10 : i < 10 := by
        rw [List.length_map] at hi
        split at hi <;> omega
      refine ⟨_, rfl, _, rfl, a, ns, i, by rw [Int.zero_add]; rfl, sm.seq hS, hi10, hlen, fun p H2 s2 n2 b2 => ?_⟩
      refine ⟨2, rfl, by decide, by decide, fun D nD => lc_it (walk_range (lo := 0) (n := 2)) (fun j H3 => SameX [D, p] H2 H3 ∧ BoxAt H3 p (4000 * j) ∧ H3 D = some (.lst ((List.replicate j true).map V.bl))) ⟨?_, ?_, upd_same⟩ (fun _ _ _ _ => trivial) ?_ ?_⟩
      · exact sameX_upd List.mem_cons_self
      · have pD : p ≠ D := fun e => by
          obtain ⟨_, _, _, z, _⟩ := b2
          rw [e, nD] at z
          cases z
        obtain ⟨x, y, c, z, z2⟩ := b2
        exact ⟨x, y, c, by rw [upd_ne pD]; exact z, z2⟩
      · rintro j x H3 H3' hj ⟨s3, b3, hD3⟩ ⟨rfl, rfl⟩
        refine ⟨rfl, tYes_ok ⟨_, rfl, p, _, rfl, b3, by omega, fun H4 s4 b4 => ?_⟩⟩
        have pD : D ≠ p := fun e => by
          obtain ⟨_, _, _, z, _⟩ := b2
          rw [← e, nD] at z
          cases z
        have hD4 : H4 D = some (.lst ((List.replicate j true).map V.bl)) := s4 D _ (fun z => pD (List.mem_singleton.mp z)) hD3
        refine ⟨_, hD4, by rw [List.length_map, List.length_replicate]; exact small1000 (by omega), ?_, ?_, ?_⟩
        · exact s3.trans ((s4.sub fun c hc => List.mem_cons_of_mem _ hc).trans (sameX_upd List.mem_cons_self))
        · obtain ⟨x, y, c, z, z2⟩ := b4
          exact ⟨x, y, c, by rw [upd_ne pD.symm]; exact z, by omega⟩
        · rw [upd_same, List.replicate_succ', List.map_append]
          rfl
      · rintro H3 ⟨s3, b3, hD3⟩
        refine ⟨D, List.replicate 2 true, rfl, SqL.of hD3, _, rfl, iteBF (by rw [rep_all]; rfl) ?_⟩
        refine ⟨_, _, rfl, fun c o e => ?_⟩
        have e1 := sm c o e
        have e2 := s2 c o e1
        refine s3 c o (fun z => ?_) e2
        rcases List.mem_cons.mp z with z | z
        · exact ne_of_none e2 nD z
        · exact ne_of_none e1 n2 (List.mem_singleton.mp z)
    · rintro σ H' _
      exact q H'
end
end KV

namespace KV
open PySem PySem.Spec PyProof.Rows L2
/-! ### the head: by one run of the top, and by what a hook reads behind it -/
theorem fun_of {K : PySem.W.Frag} {x q : Str} {st : Stmt} {f : Addr} {fd : FuncData} (F : FunD K x q (defArgs st) (defBody st) (defScope st) [] [] f fd) : L2.Fun K x q st f fd := by
  obtain ⟨oc, od, dV, kV, doc, pm, an, cdv, ct, osl, e, lk, hc, hd, hk⟩ := F.ex
  have e2 : dV = .none := by
    rcases hd with ⟨_, e⟩ | ⟨n, _⟩
    · exact e
    · exact absurd rfl n
  subst e2
  exact ⟨⟨oc, od, kV, doc, pm, an, cdv, ct, osl, e, lk, hc⟩, F.kp⟩
theorem walkGE {l : PySem.W.OpenLaw} {n k : Nat} {q : Program} {loose : List Str} {XP : (Str → Option Value) → Heap → Prop} {YP : World → Heap → Prop} {d : DefRec} {x : Str}
    (hn : l.most = some n) (hn2 : n ≤ sizeLine) (hdf : d.params.defaults = []) (room : Room k callerA)
    (F : ∀ (w : World) (mg : Str → Option Value) (fa : Addr) (h : Heap), YP w h → h.Ns mainGlobals mg → mg d.name = some (.ref fa) →
      ∃ (K : PySem.W.Frag) (fd : FuncData) (sp : Sp), K.In h ∧ (∀ (s : Shared) (u : Value), BindsTo s fd ⟨[u], []⟩ [(x, u)]) ∧
        (∀ (H : Hp) (a : Addr) (ns : List Int), ns.length ≤ n → Only H → SqL K H a (ns.map V.int) → sp [.ref a] H (fun v _ => v = .bl true) fun _ _ _ => False) ∧
        ∀ base : Heap, K.In base → base.Ns mainGlobals mg → FnG l.prog w K mg base k fa fd [x] sp) :
    PySem.W.WalkO q loose XP YP l.row.toRowW d [] (fun f vs => PySem.call f vs) := by
  refine Att.attach_call hn hdf fun w _ s₁ mg mb fa _ _ _ _ a vs ns G Y _ _ _ hmg hobj hints hlen hgen => ?_
  obtain ⟨K, fd, sp, inK, hb, asks, hF⟩ := F w mg fa _ Y G.T.g hmg
  exact law_goes inK G.T.g G.T.b G.T.builtins G.T.nolimit hgen hobj hints (Nat.le_trans hlen hn2) room hF hb fun H h1 h2 => asks H a ns hlen h1 h2
/-- an own class of ValueError that has an __init__ -/
def oexB (K : PySem.W.Frag) (C : Addr) : Bool := match K.lookup C with
  | some ⟨.type T, _, .cls cd, sl⟩ => decide (T = "type") && (match cd.mro, sl.toList with
    | .ref D :: bm, [_, _, _, _, some (.builtin n), _] => decide (D = C) && (decide (n = "ValueError.__new__") && (!cd.hasDel && (cd.hasDict && PySem.HandSPX.refsVE bm)))
    | _, _ => false)
  | _ => false
theorem oexB_ok {K : PySem.W.Frag} {C : Addr} (h : oexB K C = true) : ∃ nm q N bs bm sn sub ab col dd k0 k1 k2 k3 k5, K.lookup C = some (excClassObj nm q C N bs bm true sn sub ab col dd k0 k1 k2 k3 k5 "ValueError.__new__") ∧ PySem.HandSPX.refsVE bm = true := by
  unfold oexB at h
  split at h
  · rename_i T dd cd sl lk
    obtain ⟨g1, g2⟩ := He.ba h
    have e1 := of_decide_eq_true g1
    subst e1
    clear h
    split at g2
    · rename_i D bm k0 k1 k2 k3 n k5 hm hs
      obtain ⟨h2, g3⟩ := He.ba g2
      obtain ⟨h3, g4⟩ := He.ba g3
      obtain ⟨h4, g5⟩ := He.ba g4
      obtain ⟨h5, h6⟩ := He.ba g5
      have e2 := of_decide_eq_true h2
      have e3 := of_decide_eq_true h3
      subst e2 e3
      obtain ⟨nm, bs, mro, ns, qn, hd, sn, sub, ab, col, del⟩ := cd
      dsimp only at hm h4 h5
      have e4 : del = false := by
        cases del
        · rfl
        · cases h4
      subst hm e4 h5
      have es : sl = #[k0, k1, k2, k3, some (.builtin "ValueError.__new__"), k5] := by
        obtain ⟨l⟩ := sl
        simp only at hs
        rw [hs]
      subst es
      exact ⟨nm, qn, ns, bs, bm, sn, sub, ab, col, dd, k0, k1, k2, k3, k5, lk, h6⟩
    · cases g2
  · cases h
/-! ### what is read behind the top: the objects at these addresses alone -/
abbrev AlL : Type := He.AlD × Bool
def obsL (as : List Addr) (fa : List He.Fa) (fn : List He.DefD) (ex : PySem.W.Frag → Bool) (g : Addr → Option Obj) : AlL := (He.obsD fa fn (He.frG g as), ex (He.frG g as))
def SaysL (fa : List He.Fa) (fn : List He.DefD) (ex : PySem.W.Frag → Bool) (K : PySem.W.Frag) : Prop := He.SaysD fa fn K ∧ ex K = true
def hookL (as : List Addr) (fa : List He.Fa) (fn : List He.DefD) (ex : PySem.W.Frag → Bool) : PySem.W.Hook where
  α := AlL
  obs := fun s => obsL as fa fn ex s.heap.get?
  val := fun _ => (He.valD fn, true)
  says := fun _ h => ∃ K : PySem.W.Frag, K.In h ∧ SaysL fa fn ex K
  of := fun _ _ e => ⟨_, He.frG_in, congrArg Prod.fst e, congrArg Prod.snd e⟩
  keeps := fun _ _ _ ⟨K, hK, c⟩ k => ⟨K, PySem.W.Frag.In.keeps hK k, c⟩
theorem obsL_eq {as : List Addr} {fa : List He.Fa} {fn : List He.DefD} {ex : PySem.W.Frag → Bool} {g : Addr → Option Obj} {s : Shared} (h : ∀ a, g a = s.heap.get? a) : obsL as fa fn ex g = (hookL as fa fn ex).obs s := by
  have e : g = s.heap.get? := funext h
  rw [e]
  rfl
end KV

namespace KV
open PySem PySem.Spec PyProof.Rows L2 RZ
def d0 : He.DefD := ⟨("is_number", none), "is_number", "is_number", defArgs sNum, defBody sNum, defScope sNum, [], []⟩
def d1 : He.DefD := ⟨("is_letters", none), "is_letters", "is_letters", defArgs sLets, defBody sLets, defScope sLets, [], []⟩
def d2 : He.DefD := ⟨("is_name", none), "is_name", "is_name", defArgs sIsName, defBody sIsName, defScope sIsName, [], []⟩
def d3 : He.DefD := ⟨("is_row", none), "is_row", "is_row", defArgs sRow, defBody sRow, defScope sRow, [], []⟩
def d4 : He.DefD := ⟨("ascends", none), "ascends", "ascends", defArgs sAsc, defBody sAsc, defScope sAsc, [], []⟩
def d5 : He.DefD := ⟨("are_names", none), "are_names", "are_names", defArgs sAreNames, defBody sAreNames, defScope sAreNames, [], []⟩
def d6 : He.DefD := ⟨("is_setup", none), "is_setup", "is_setup", defArgs sIsSetup, defBody sIsSetup, defScope sIsSetup, [], []⟩
def d7 : He.DefD := ⟨("BadLine", some "__init__"), "__init__", "BadLine.__init__", defArgs sBadInit, defBody sBadInit, defScope sBadInit, [], []⟩
def d8 : He.DefD := ⟨("Words", some "__init__"), "__init__", "Words.__init__", defArgs sWInit, defBody sWInit, defScope sWInit, [], []⟩
def d9 : He.DefD := ⟨("Words", some "next_word"), "next_word", "Words.next_word", defArgs sNext, defBody sNext, defScope sNext, [], []⟩
def d10 : He.DefD := ⟨("Words", some "rest"), "rest", "Words.rest", defArgs sRest, defBody sRest, defScope sRest, [], []⟩
def d11 : He.DefD := ⟨("Words", some "expect"), "expect", "Words.expect", defArgs sExpect, defBody sExpect, defScope sExpect, [], []⟩
def d12 : He.DefD := ⟨("Words", some "next_number"), "next_number", "Words.next_number", defArgs sNextNum, defBody sNextNum, defScope sNextNum, [], []⟩
def d13 : He.DefD := ⟨("Words", some "number_in"), "number_in", "Words.number_in", defArgs sNumIn, defBody sNumIn, defScope sNumIn, [], []⟩
def d14 : He.DefD := ⟨("setup_text", none), "setup_text", "setup_text", defArgs sSetupText, defBody sSetupText, defScope sSetupText, [], []⟩
def d15 : He.DefD := ⟨("setup_in", none), "setup_in", "setup_in", defArgs sSetupIn, defBody sSetupIn, defScope sSetupIn, [], []⟩
def d16 : He.DefD := ⟨("_law_take", none), "_law_take", "_law_take", defArgs sTake, defBody sTake, defScope sTake, [], []⟩
def d17 : He.DefD := ⟨("_law_of", none), "_law_of", "_law_of", defArgs sOf, defBody sOf, defScope sOf, [], []⟩
def d18 : He.DefD := ⟨("_law_name", none), "_law_name", "_law_name", defArgs sName, defBody sName, defScope sName, [], []⟩
def d19 : He.DefD := ⟨("_law_names", none), "_law_names", "_law_names", defArgs sNames, defBody sNames, defScope sNames, [], []⟩
def d20 : He.DefD := ⟨("_law_named_setup", none), "_law_named_setup", "_law_named_setup", defArgs sNamed, defBody sNamed, defScope sNamed, [], []⟩
def d21 : He.DefD := ⟨("_law_setup_words", none), "_law_setup_words", "_law_setup_words", defArgs sLawWords, defBody sLawWords, defScope sLawWords, [], []⟩
def d22 : He.DefD := ⟨("_law_lists", none), "_law_lists", "_law_lists", defArgs sLists, defBody sLists, defScope sLists, [], []⟩
def d23 : He.DefD := ⟨("_law_mixed", none), "_law_mixed", "_law_mixed", defArgs sMixed, defBody sMixed, defScope sMixed, [], []⟩
def d24 : He.DefD := ⟨("_law_same", none), "_law_same", "_law_same", defArgs sSame, defBody sSame, defScope sSame, [], []⟩
def d25 : He.DefD := ⟨("_law_spoilt", none), "_law_spoilt", "_law_spoilt", defArgs sSpoilt, defBody sSpoilt, defScope sSpoilt, [], []⟩
def d26 : He.DefD := ⟨("_law_is_word", none), "_law_is_word", "_law_is_word", defArgs sIsWord, defBody sIsWord, defScope sIsWord, [], []⟩
def d27 : He.DefD := ⟨("_law_number_in", none), "_law_number_in", "_law_number_in", defArgs sLawNum, defBody sLawNum, defScope sLawNum, [], []⟩
def d28 : He.DefD := ⟨("_law_bit_in", none), "_law_bit_in", "_law_bit_in", defArgs sBitIn, defBody sBitIn, defScope sBitIn, [], []⟩
def d29 : He.DefD := ⟨("_law_row_of", none), "_law_row_of", "_law_row_of", defArgs sRowOf, defBody sRowOf, defScope sRowOf, [], []⟩
def d30 : He.DefD := ⟨("_law_whole", none), "_law_whole", "_law_whole", defArgs sWhole, defBody sWhole, defScope sWhole, [], []⟩
def d31 : He.DefD := ⟨("_law_is_setup", none), "_law_is_setup", "_law_is_setup", defArgs sLawSetup, defBody sLawSetup, defScope sLawSetup, [], []⟩
def d32 : He.DefD := ⟨("_law_setups_in", none), "_law_setups_in", "_law_setups_in", defArgs sSetupsIn, defBody sSetupsIn, defScope sSetupsIn, [], []⟩
def d33 : He.DefD := ⟨("_law_read", none), "_law_read", "_law_read", defArgs sRead, defBody sRead, defScope sRead, [], []⟩
def d34 : He.DefD := ⟨("_law_box", none), "_law_box", "_law_box", defArgs sBox, defBody sBox, defScope sBox, [], []⟩
def d35 : He.DefD := ⟨("_law_right", none), "_law_right", "_law_right", defArgs sRight, defBody sRight, defScope sRight, [], []⟩
def d36 : He.DefD := ⟨("law", none), "law", "law", defArgs sLaw, defBody sLaw, defScope sLaw, [], []⟩
def hdefs : List He.DefD := ([d0, d1, d2, d3, d4, d5, d6, d7, d8, d9, d10, d11, d12, d13, d14, d15, d16, d17, d18, d19, d20, d21, d22, d23, d24, d25, d26, d27, d28, d29] : List He.DefD) ++ ([d30, d31, d32, d33, d34, d35, d36] : List He.DefD)
def hfacts : List He.Fa := ([.glo "is_number", .glo "is_letters", .glo "is_name", .glo "is_row", .glo "ascends", .glo "are_names", .glo "is_setup", .meth "Words" "next_word", .meth "Words" "rest", .meth "Words" "expect", .meth "Words" "next_number", .meth "Words" "number_in", .glo "setup_text", .glo "setup_in", .glo "_law_take", .glo "_law_of", .glo "_law_name", .glo "_law_names", .glo "_law_named_setup", .glo "_law_setup_words", .glo "_law_lists", .glo "_law_mixed", .glo "_law_same", .glo "_law_spoilt", .glo "_law_is_word", .glo "_law_number_in", .glo "_law_bit_in", .glo "_law_row_of", .glo "_law_whole", .glo "_law_is_setup"] : List He.Fa) ++ ([.glo "_law_setups_in", .glo "_law_read", .glo "_law_box", .glo "_law_right", .glo "law", .free "int", .free "len", .free "tuple", .free "list", .free "range", .free "isinstance", .free "all", .free "zip", .free "bool", .free "str", .free "abs", .free "min", .free "sorted", .free "set", .free "ValueError", .str "LETTERS" "abcdefghijklmnopqrstuvwxyz", .str "DIGITS" "0123456789", .int "MOST_DIGITS" 12, .str "NOTHING" "-", .mkr "Words", .cls "Words", .noat "Words" "number", .noat "Words" "row", .noat "Words" "at", .glo "Words"] : List He.Fa) ++ ([.glo "BadLine", .glo "BadEvent", .glo "NoTag", .glo "TooMany"] : List He.Fa)
def hex (K : PySem.W.Frag) : Bool := oexB K (He.ga K "BadLine") && (decide (PySem.W.findIn K (.ref (He.ga K "BadLine")) "__setattr__" = some (some (.builtin "object.__setattr__"))) && (decide (PySem.W.subIn K (.ref (He.ga K "BadLine")) (.type "BaseException") = some true) && (decide (PySem.W.typeIn K (.ref (He.ga K "BadLine")) = some (.type "type")) && (PySem.W.keepIn K (.ref (He.ga K "BadLine")) && (decide (PySem.W.findIn K (.ref (He.ga K "BadLine")) "__init__" = some (some (.ref (He.ma K (He.ga K "BadLine") "__init__")))) && (decide (PySem.W.typeIn K (.ref (He.ma K (He.ga K "BadLine") "__init__")) = some (.type "function")) && (decide (PySem.W.findIn K (.ref (He.ga K "BadLine")) "number" = some none) && (PySem.W.isClsIn K (He.ga K "BadLine") && (xfB K (He.ga K "BadLine") && (decide (PySem.W.findIn K (.ref (He.ga K "BadLine")) "__class__" = some (some (.builtin "object.__class__"))) && (decide (PySem.W.specialIn K (.builtin "object.__class__") "__get__" = some (some (.builtin "getset_descriptor.__get__"))) && (decide (PySem.W.takesIn K (.builtin "object.__class__") = some true) && (decide (PySem.W.mroIn K (He.ga K "BadLine") (.type "object") = some true) && (decide (PySem.W.exmAny K (.ref (He.ga K "BadLine")) [(.ref (He.ga K "BadLine")), (.ref (He.ga K "BadEvent")), (.ref (He.ga K "NoTag")), (.ref (He.ga K "TooMany"))] = some true) && (decide (PySem.W.kitOne K (.ref (He.ga K "BadLine")) (.type "ValueError") = some true) && (decide (PySem.W.kitAny K (.ref (He.ga K "BadLine")) [(.ref (He.ga K "NoTag")), (.ref (He.ga K "TooMany"))] = some false) && (decide (PySem.W.kitOne K (.ref (He.ga K "BadLine")) (.ref (He.ga K "BadLine")) = some true) && (decide (PySem.W.kitOne K (.ref (He.ga K "BadLine")) (.ref (He.ga K "BadEvent")) = some false)))))))))))))))))))
def hnames : List Str := (["_wall", "LETTERS", "is_number", "is_truth", "is_letters", "is_name", "is_text", "is_row", "ascends", "are_names", "WHERES", "word_of", "is_pipe", "is_slot", "is_where", "are_taken", "is_kind", "has_parts", "DEEDS", "where_of", "has_slot", "may_have", "are_flags", "is_linktimeout", "binds", "begins_chain", "stands_well", "RESULTS", "PARTS", "is_word_of"] : List Str) ++ (["is_word_told", "with_pipe_of", "is_result", "is_turn", "has_looked", "goes_on", "is_of_request", "is_notice", "is_completion", "key_of", "Ahead", "GIVEN", "is_told_of_give", "is_told_of_take", "is_told_of_reap", "is_unended", "is_told_of_quiet", "is_told", "EVENTS", "is_setup", "BadLine", "BadEvent", "NoTag", "TooMany", "pipes_of", "slots_of", "fault_of_request", "fault_of", "DIGITS", "MOST_DIGITS"] : List Str) ++ (["Words", "NOTHING", "ARROW", "FLAGS", "part_in", "name_or_none_in", "where_in", "taken_in", "names_in", "parts_in", "request_in", "event_in", "result_in", "sign_in", "completion_in", "unended_in", "given_in", "took_in", "put_word_in", "told_in", "pair_in", "setup_text", "setup_in", "lines_of", "script_in", "history_in", "pairs_in", "expect_history", "_law_take", "_law_of"] : List Str) ++ (["_law_name", "_law_names", "_law_named_setup", "_law_setup_words", "_law_lists", "_law_mixed", "_law_same", "_law_spoilt", "_law_is_word", "_law_number_in", "_law_bit_in", "_law_row_of", "_law_whole", "_law_is_setup", "_law_setups_in", "_law_read", "_law_box", "_law_right"] : List Str)
abbrev hR : PySem.W.OpenRow := PySem.W.OpenLaw.row PySem.Challenge.rw_endonce_k07_setups_as_texts
def has : List Addr := ([3, 28, 27, 40, 39, 47, 46, 61, 60, 66, 65, 71, 70, 404, 403, 418, 417, 524, 523, 538, 537, 545, 544, 552, 551, 594, 593, 606, 605, 728] : List Addr) ++ ([727, 733, 732, 771, 770, 778, 777, 783, 782, 788, 787, 793, 792, 798, 797, 803, 802, 808, 807, 813, 812, 820, 819, 825, 824, 830, 829, 835, 834, 842] : List Addr) ++ ([841, 849, 848, 854, 853, 859, 858, 866, 865, 873, 872, 878, 877, 883, 882, 609, 608, 421, 420, 441, 440, 461, 460, 481, 480] : List Addr)
abbrev hk : PySem.W.Hook := hookL has hfacts hdefs hex
def hob (s : PySem.W.SharedT) : AlL := obsL has hfacts hdefs hex (HandSHeadRun.getT s)
theorem hob_eq (s : PySem.W.SharedT) : hob s = hk.obs s.abs := obsL_eq (HandSHeadRun.getT_eq s)
theorem hall {l : PySem.W.OpenLaw} {w : World} {K : PySem.W.Frag} {h : Heap} {mg : Str → Option Value} {f : Addr} (X : K.In h) (G : h.Ns mainGlobals mg) (hfa : mg "law" = some (.ref f)) (c : SaysL hfacts hdefs hex K) :
    ∃ fd : FuncData, (∀ (s : Shared) (v : Value), BindsTo s fd ⟨[v], []⟩ [("_law_script", v)]) ∧ ∀ base : Heap, K.In base → base.Ns mainGlobals mg → FnG l.prog w K mg base 16 f fd ["_law_script"] (spLaw K) := by
  have cd := c.1
  have e0 : hex K = true := c.2
  obtain ⟨x0, e1⟩ := He.ba e0
  obtain ⟨x1, e2⟩ := He.ba e1
  obtain ⟨x2, e3⟩ := He.ba e2
  obtain ⟨x3, e4⟩ := He.ba e3
  obtain ⟨x4, e5⟩ := He.ba e4
  obtain ⟨x5, e6⟩ := He.ba e5
  obtain ⟨x6, e7⟩ := He.ba e6
  obtain ⟨x7, e8⟩ := He.ba e7
  obtain ⟨x8, e9⟩ := He.ba e8
  obtain ⟨x9, e10⟩ := He.ba e9
  obtain ⟨x10, e11⟩ := He.ba e10
  obtain ⟨x11, e12⟩ := He.ba e11
  obtain ⟨x12, e13⟩ := He.ba e12
  obtain ⟨x13, e14⟩ := He.ba e13
  obtain ⟨x14, e15⟩ := He.ba e14
  obtain ⟨x15, e16⟩ := He.ba e15
  obtain ⟨x16, e17⟩ := He.ba e16
  obtain ⟨x17, e18⟩ := He.ba e17
  have x18 := e18
  obtain ⟨fd0, D0⟩ := cd.def_ 0 (d := d0) rfl
  have F0 : L2.Fun K "is_number" "is_number" sNum (He.ga K "is_number") fd0 := fun_of (st := sNum) D0
  have b0 := F0.binds (ps := ["thing", "least"]) fun _ _ _ _ _ _ us hl => match us, hl with | [_, _], _ => rfl
  have m0 := He.glo_ok X G (cd.fact 0 (f := .glo "is_number") rfl)
  have k0 := F0.kp
  obtain ⟨fd1, D1⟩ := cd.def_ 1 (d := d1) rfl
  have F1 : L2.Fun K "is_letters" "is_letters" sLets (He.ga K "is_letters") fd1 := fun_of (st := sLets) D1
  have b1 := F1.binds (ps := ["thing", "least"]) fun _ _ _ _ _ _ us hl => match us, hl with | [_, _], _ => rfl
  have m1 := He.glo_ok X G (cd.fact 1 (f := .glo "is_letters") rfl)
  have k1 := F1.kp
  obtain ⟨fd2, D2⟩ := cd.def_ 2 (d := d2) rfl
  have F2 : L2.Fun K "is_name" "is_name" sIsName (He.ga K "is_name") fd2 := fun_of (st := sIsName) D2
  have b2 := F2.binds (ps := ["thing"]) fun _ _ _ _ _ _ us hl => match us, hl with | [_], _ => rfl
  have m2 := He.glo_ok X G (cd.fact 2 (f := .glo "is_name") rfl)
  have k2 := F2.kp
  obtain ⟨fd3, D3⟩ := cd.def_ 3 (d := d3) rfl
  have F3 : L2.Fun K "is_row" "is_row" sRow (He.ga K "is_row") fd3 := fun_of (st := sRow) D3
  have b3 := F3.binds (ps := ["thing", "many"]) fun _ _ _ _ _ _ us hl => match us, hl with | [_, _], _ => rfl
  have m3 := He.glo_ok X G (cd.fact 3 (f := .glo "is_row") rfl)
  have k3 := F3.kp
  obtain ⟨fd4, D4⟩ := cd.def_ 4 (d := d4) rfl
  have F4 : L2.Fun K "ascends" "ascends" sAsc (He.ga K "ascends") fd4 := fun_of (st := sAsc) D4
  have b4 := F4.binds (ps := ["names"]) fun _ _ _ _ _ _ us hl => match us, hl with | [_], _ => rfl
  have m4 := He.glo_ok X G (cd.fact 4 (f := .glo "ascends") rfl)
  have k4 := F4.kp
  obtain ⟨fd5, D5⟩ := cd.def_ 5 (d := d5) rfl
  have F5 : L2.Fun K "are_names" "are_names" sAreNames (He.ga K "are_names") fd5 := fun_of (st := sAreNames) D5
  have b5 := F5.binds (ps := ["thing"]) fun _ _ _ _ _ _ us hl => match us, hl with | [_], _ => rfl
  have m5 := He.glo_ok X G (cd.fact 5 (f := .glo "are_names") rfl)
  have k5 := F5.kp
  obtain ⟨fd6, D6⟩ := cd.def_ 6 (d := d6) rfl
  have F6 : L2.Fun K "is_setup" "is_setup" sIsSetup (He.ga K "is_setup") fd6 := fun_of (st := sIsSetup) D6
  have b6 := F6.binds (ps := ["thing"]) fun _ _ _ _ _ _ us hl => match us, hl with | [_], _ => rfl
  have m6 := He.glo_ok X G (cd.fact 6 (f := .glo "is_setup") rfl)
  have k6 := F6.kp
  obtain ⟨fd7, D7⟩ := cd.def_ 7 (d := d7) rfl
  have F7 : L2.Fun K "__init__" "BadLine.__init__" sBadInit (He.ma K (He.ga K "BadLine") "__init__") fd7 := fun_of (st := sBadInit) D7
  have b7 := F7.binds (ps := ["self", "number"]) fun _ _ _ _ _ _ us hl => match us, hl with | [_, _], _ => rfl
  have k7 := F7.kp
  obtain ⟨fd8, D8⟩ := cd.def_ 8 (d := d8) rfl
  have F8 : L2.Fun K "__init__" "Words.__init__" sWInit (He.ma K (He.ga K "Words") "__init__") fd8 := fun_of (st := sWInit) D8
  have b8 := F8.binds (ps := ["self", "number", "text"]) fun _ _ _ _ _ _ us hl => match us, hl with | [_, _, _], _ => rfl
  have k8 := F8.kp
  obtain ⟨fd9, D9⟩ := cd.def_ 9 (d := d9) rfl
  have F9 : L2.Fun K "next_word" "Words.next_word" sNext (He.ma K (He.ga K "Words") "next_word") fd9 := fun_of (st := sNext) D9
  have b9 := F9.binds (ps := ["self"]) fun _ _ _ _ _ _ us hl => match us, hl with | [_], _ => rfl
  have M9 := He.meth_ok (cd.fact 7 (f := .meth "Words" "next_word") rfl)
  have k9 := F9.kp
  obtain ⟨fd10, D10⟩ := cd.def_ 10 (d := d10) rfl
  have F10 : L2.Fun K "rest" "Words.rest" sRest (He.ma K (He.ga K "Words") "rest") fd10 := fun_of (st := sRest) D10
  have b10 := F10.binds (ps := ["self"]) fun _ _ _ _ _ _ us hl => match us, hl with | [_], _ => rfl
  have M10 := He.meth_ok (cd.fact 8 (f := .meth "Words" "rest") rfl)
  have k10 := F10.kp
  obtain ⟨fd11, D11⟩ := cd.def_ 11 (d := d11) rfl
  have F11 : L2.Fun K "expect" "Words.expect" sExpect (He.ma K (He.ga K "Words") "expect") fd11 := fun_of (st := sExpect) D11
  have b11 := F11.binds (ps := ["self", "fits"]) fun _ _ _ _ _ _ us hl => match us, hl with | [_, _], _ => rfl
  have M11 := He.meth_ok (cd.fact 9 (f := .meth "Words" "expect") rfl)
  have k11 := F11.kp
  obtain ⟨fd12, D12⟩ := cd.def_ 12 (d := d12) rfl
  have F12 : L2.Fun K "next_number" "Words.next_number" sNextNum (He.ma K (He.ga K "Words") "next_number") fd12 := fun_of (st := sNextNum) D12
  have b12 := F12.binds (ps := ["self", "least"]) fun _ _ _ _ _ _ us hl => match us, hl with | [_, _], _ => rfl
  have M12 := He.meth_ok (cd.fact 10 (f := .meth "Words" "next_number") rfl)
  have k12 := F12.kp
  obtain ⟨fd13, D13⟩ := cd.def_ 13 (d := d13) rfl
  have F13 : L2.Fun K "number_in" "Words.number_in" sNumIn (He.ma K (He.ga K "Words") "number_in") fd13 := fun_of (st := sNumIn) D13
  have b13 := F13.binds (ps := ["self", "digits", "least"]) fun _ _ _ _ _ _ us hl => match us, hl with | [_, _, _], _ => rfl
  have M13 := He.meth_ok (cd.fact 11 (f := .meth "Words" "number_in") rfl)
  have k13 := F13.kp
  obtain ⟨fd14, D14⟩ := cd.def_ 14 (d := d14) rfl
  have F14 : L2.Fun K "setup_text" "setup_text" sSetupText (He.ga K "setup_text") fd14 := fun_of (st := sSetupText) D14
  have b14 := F14.binds (ps := ["setup"]) fun _ _ _ _ _ _ us hl => match us, hl with | [_], _ => rfl
  have m14 := He.glo_ok X G (cd.fact 12 (f := .glo "setup_text") rfl)
  have k14 := F14.kp
  have kb14 := kb1 F14 (fun _ _ _ _ _ _ _ => ⟨rfl, rfl⟩)
  obtain ⟨fd15, D15⟩ := cd.def_ 15 (d := d15) rfl
  have F15 : L2.Fun K "setup_in" "setup_in" sSetupIn (He.ga K "setup_in") fd15 := fun_of (st := sSetupIn) D15
  have b15 := F15.binds (ps := ["text"]) fun _ _ _ _ _ _ us hl => match us, hl with | [_], _ => rfl
  have m15 := He.glo_ok X G (cd.fact 13 (f := .glo "setup_in") rfl)
  have k15 := F15.kp
  have kb15 := kb1 F15 (fun _ _ _ _ _ _ _ => ⟨rfl, rfl⟩)
  obtain ⟨fd16, D16⟩ := cd.def_ 16 (d := d16) rfl
  have F16 : L2.Fun K "_law_take" "_law_take" sTake (He.ga K "_law_take") fd16 := fun_of (st := sTake) D16
  have b16 := F16.binds (ps := ["_law_box_here", "_law_below"]) fun _ _ _ _ _ _ us hl => match us, hl with | [_, _], _ => rfl
  have m16 := He.glo_ok X G (cd.fact 14 (f := .glo "_law_take") rfl)
  have k16 := F16.kp
  obtain ⟨fd17, D17⟩ := cd.def_ 17 (d := d17) rfl
  have F17 : L2.Fun K "_law_of" "_law_of" sOf (He.ga K "_law_of") fd17 := fun_of (st := sOf) D17
  have b17 := F17.binds (ps := ["_law_box_here", "_law_some"]) fun _ _ _ _ _ _ us hl => match us, hl with | [_, _], _ => rfl
  have m17 := He.glo_ok X G (cd.fact 15 (f := .glo "_law_of") rfl)
  have k17 := F17.kp
  obtain ⟨fd18, D18⟩ := cd.def_ 18 (d := d18) rfl
  have F18 : L2.Fun K "_law_name" "_law_name" sName (He.ga K "_law_name") fd18 := fun_of (st := sName) D18
  have b18 := F18.binds (ps := ["_law_box_here"]) fun _ _ _ _ _ _ us hl => match us, hl with | [_], _ => rfl
  have m18 := He.glo_ok X G (cd.fact 16 (f := .glo "_law_name") rfl)
  have k18 := F18.kp
  obtain ⟨fd19, D19⟩ := cd.def_ 19 (d := d19) rfl
  have F19 : L2.Fun K "_law_names" "_law_names" sNames (He.ga K "_law_names") fd19 := fun_of (st := sNames) D19
  have b19 := F19.binds (ps := ["_law_box_here", "_law_many_so"]) fun _ _ _ _ _ _ us hl => match us, hl with | [_, _], _ => rfl
  have m19 := He.glo_ok X G (cd.fact 17 (f := .glo "_law_names") rfl)
  have k19 := F19.kp
  obtain ⟨fd20, D20⟩ := cd.def_ 20 (d := d20) rfl
  have F20 : L2.Fun K "_law_named_setup" "_law_named_setup" sNamed (He.ga K "_law_named_setup") fd20 := fun_of (st := sNamed) D20
  have b20 := F20.binds (ps := ["_law_box_here", "_law_least_so"]) fun _ _ _ _ _ _ us hl => match us, hl with | [_, _], _ => rfl
  have m20 := He.glo_ok X G (cd.fact 18 (f := .glo "_law_named_setup") rfl)
  have k20 := F20.kp
  obtain ⟨fd21, D21⟩ := cd.def_ 21 (d := d21) rfl
  have F21 : L2.Fun K "_law_setup_words" "_law_setup_words" sLawWords (He.ga K "_law_setup_words") fd21 := fun_of (st := sLawWords) D21
  have b21 := F21.binds (ps := ["_law_setup_so"]) fun _ _ _ _ _ _ us hl => match us, hl with | [_], _ => rfl
  have m21 := He.glo_ok X G (cd.fact 19 (f := .glo "_law_setup_words") rfl)
  have k21 := F21.kp
  obtain ⟨fd22, D22⟩ := cd.def_ 22 (d := d22) rfl
  have F22 : L2.Fun K "_law_lists" "_law_lists" sLists (He.ga K "_law_lists") fd22 := fun_of (st := sLists) D22
  have b22 := F22.binds (ps := ["_law_matter"]) fun _ _ _ _ _ _ us hl => match us, hl with | [_], _ => rfl
  have m22 := He.glo_ok X G (cd.fact 20 (f := .glo "_law_lists") rfl)
  have k22 := F22.kp
  obtain ⟨fd23, D23⟩ := cd.def_ 23 (d := d23) rfl
  have F23 : L2.Fun K "_law_mixed" "_law_mixed" sMixed (He.ga K "_law_mixed") fd23 := fun_of (st := sMixed) D23
  have b23 := F23.binds (ps := ["_law_box_here", "_law_matter"]) fun _ _ _ _ _ _ us hl => match us, hl with | [_, _], _ => rfl
  have m23 := He.glo_ok X G (cd.fact 21 (f := .glo "_law_mixed") rfl)
  have k23 := F23.kp
  obtain ⟨fd24, D24⟩ := cd.def_ 24 (d := d24) rfl
  have F24 : L2.Fun K "_law_same" "_law_same" sSame (He.ga K "_law_same") fd24 := fun_of (st := sSame) D24
  have b24 := F24.binds (ps := ["_law_found", "_law_due"]) fun _ _ _ _ _ _ us hl => match us, hl with | [_, _], _ => rfl
  have m24 := He.glo_ok X G (cd.fact 22 (f := .glo "_law_same") rfl)
  have k24 := F24.kp
  obtain ⟨fd25, D25⟩ := cd.def_ 25 (d := d25) rfl
  have F25 : L2.Fun K "_law_spoilt" "_law_spoilt" sSpoilt (He.ga K "_law_spoilt") fd25 := fun_of (st := sSpoilt) D25
  have b25 := F25.binds (ps := ["_law_box_here", "_law_line"]) fun _ _ _ _ _ _ us hl => match us, hl with | [_, _], _ => rfl
  have m25 := He.glo_ok X G (cd.fact 23 (f := .glo "_law_spoilt") rfl)
  have k25 := F25.kp
  obtain ⟨fd26, D26⟩ := cd.def_ 26 (d := d26) rfl
  have F26 : L2.Fun K "_law_is_word" "_law_is_word" sIsWord (He.ga K "_law_is_word") fd26 := fun_of (st := sIsWord) D26
  have b26 := F26.binds (ps := ["_law_matter", "_law_most_so"]) fun _ _ _ _ _ _ us hl => match us, hl with | [_, _], _ => rfl
  have m26 := He.glo_ok X G (cd.fact 24 (f := .glo "_law_is_word") rfl)
  have k26 := F26.kp
  obtain ⟨fd27, D27⟩ := cd.def_ 27 (d := d27) rfl
  have F27 : L2.Fun K "_law_number_in" "_law_number_in" sLawNum (He.ga K "_law_number_in") fd27 := fun_of (st := sLawNum) D27
  have b27 := F27.binds (ps := ["_law_word"]) fun _ _ _ _ _ _ us hl => match us, hl with | [_], _ => rfl
  have m27 := He.glo_ok X G (cd.fact 25 (f := .glo "_law_number_in") rfl)
  have k27 := F27.kp
  obtain ⟨fd28, D28⟩ := cd.def_ 28 (d := d28) rfl
  have F28 : L2.Fun K "_law_bit_in" "_law_bit_in" sBitIn (He.ga K "_law_bit_in") fd28 := fun_of (st := sBitIn) D28
  have b28 := F28.binds (ps := ["_law_kind_so", "_law_word"]) fun _ _ _ _ _ _ us hl => match us, hl with | [_, _], _ => rfl
  have m28 := He.glo_ok X G (cd.fact 26 (f := .glo "_law_bit_in") rfl)
  have k28 := F28.kp
  obtain ⟨fd29, D29⟩ := cd.def_ 29 (d := d29) rfl
  have F29 : L2.Fun K "_law_row_of" "_law_row_of" sRowOf (He.ga K "_law_row_of") fd29 := fun_of (st := sRowOf) D29
  have b29 := F29.binds (ps := ["_law_matter", "_law_size"]) fun _ _ _ _ _ _ us hl => match us, hl with | [_, _], _ => rfl
  have m29 := He.glo_ok X G (cd.fact 27 (f := .glo "_law_row_of") rfl)
  have k29 := F29.kp
  obtain ⟨fd30, D30⟩ := cd.def_ 30 (d := d30) rfl
  have F30 : L2.Fun K "_law_whole" "_law_whole" sWhole (He.ga K "_law_whole") fd30 := fun_of (st := sWhole) D30
  have b30 := F30.binds (ps := ["_law_matter", "_law_least_so"]) fun _ _ _ _ _ _ us hl => match us, hl with | [_, _], _ => rfl
  have m30 := He.glo_ok X G (cd.fact 28 (f := .glo "_law_whole") rfl)
  have k30 := F30.kp
  obtain ⟨fd31, D31⟩ := cd.def_ 31 (d := d31) rfl
  have F31 : L2.Fun K "_law_is_setup" "_law_is_setup" sLawSetup (He.ga K "_law_is_setup") fd31 := fun_of (st := sLawSetup) D31
  have b31 := F31.binds (ps := ["_law_matter"]) fun _ _ _ _ _ _ us hl => match us, hl with | [_], _ => rfl
  have m31 := He.glo_ok X G (cd.fact 29 (f := .glo "_law_is_setup") rfl)
  have k31 := F31.kp
  obtain ⟨fd32, D32⟩ := cd.def_ 32 (d := d32) rfl
  have F32 : L2.Fun K "_law_setups_in" "_law_setups_in" sSetupsIn (He.ga K "_law_setups_in") fd32 := fun_of (st := sSetupsIn) D32
  have b32 := F32.binds (ps := ["_law_line"]) fun _ _ _ _ _ _ us hl => match us, hl with | [_], _ => rfl
  have m32 := He.glo_ok X G (cd.fact 30 (f := .glo "_law_setups_in") rfl)
  have k32 := F32.kp
  obtain ⟨fd33, D33⟩ := cd.def_ 33 (d := d33) rfl
  have F33 : L2.Fun K "_law_read" "_law_read" sRead (He.ga K "_law_read") fd33 := fun_of (st := sRead) D33
  have b33 := F33.binds (ps := ["_law_door", "_law_setup_so", "_law_words"]) fun _ _ _ _ _ _ us hl => match us, hl with | [_, _, _], _ => rfl
  have m33 := He.glo_ok X G (cd.fact 31 (f := .glo "_law_read") rfl)
  have k33 := F33.kp
  obtain ⟨fd34, D34⟩ := cd.def_ 34 (d := d34) rfl
  have F34 : L2.Fun K "_law_box" "_law_box" sBox (He.ga K "_law_box") fd34 := fun_of (st := sBox) D34
  have b34 := F34.binds (ps := ["_law_script", "_law_k"]) fun _ _ _ _ _ _ us hl => match us, hl with | [_, _], _ => rfl
  have m34 := He.glo_ok X G (cd.fact 32 (f := .glo "_law_box") rfl)
  have k34 := F34.kp
  obtain ⟨fd35, D35⟩ := cd.def_ 35 (d := d35) rfl
  have F35 : L2.Fun K "_law_right" "_law_right" sRight (He.ga K "_law_right") fd35 := fun_of (st := sRight) D35
  have b35 := F35.binds (ps := ["_law_box_here"]) fun _ _ _ _ _ _ us hl => match us, hl with | [_], _ => rfl
  have m35 := He.glo_ok X G (cd.fact 33 (f := .glo "_law_right") rfl)
  have k35 := F35.kp
  obtain ⟨fd36, D36⟩ := cd.def_ 36 (d := d36) rfl
  have F36 : L2.Fun K "law" "law" sLaw (He.ga K "law") fd36 := fun_of (st := sLaw) D36
  have m36 := He.glo_ok X G (cd.fact 34 (f := .glo "law") rfl)
  have k36 := F36.kp
  have y0 := He.free_ok X G (cd.fact 35 (f := .free "int") rfl)
  have y1 := He.free_ok X G (cd.fact 36 (f := .free "len") rfl)
  have y2 := He.free_ok X G (cd.fact 37 (f := .free "tuple") rfl)
  have y3 := He.free_ok X G (cd.fact 38 (f := .free "list") rfl)
  have y4 := He.free_ok X G (cd.fact 39 (f := .free "range") rfl)
  have y5 := He.free_ok X G (cd.fact 40 (f := .free "isinstance") rfl)
  have y6 := He.free_ok X G (cd.fact 41 (f := .free "all") rfl)
  have y7 := He.free_ok X G (cd.fact 42 (f := .free "zip") rfl)
  have y8 := He.free_ok X G (cd.fact 43 (f := .free "bool") rfl)
  have y9 := He.free_ok X G (cd.fact 44 (f := .free "str") rfl)
  have y10 := He.free_ok X G (cd.fact 45 (f := .free "abs") rfl)
  have y11 := He.free_ok X G (cd.fact 46 (f := .free "min") rfl)
  have y12 := He.free_ok X G (cd.fact 47 (f := .free "sorted") rfl)
  have y13 := He.free_ok X G (cd.fact 48 (f := .free "set") rfl)
  have y14 := He.free_ok X G (cd.fact 49 (f := .free "ValueError") rfl)
  obtain ⟨tk1, mL⟩ := He.str_ok X G (cd.fact 50 (f := .str "LETTERS" "abcdefghijklmnopqrstuvwxyz") rfl)
  obtain ⟨tk2, mD⟩ := He.str_ok X G (cd.fact 51 (f := .str "DIGITS" "0123456789") rfl)
  have mM := He.int_ok X G (cd.fact 52 (f := .int "MOST_DIGITS" 12) rfl)
  obtain ⟨tk4, mO⟩ := He.str_ok X G (cd.fact 53 (f := .str "NOTHING" "-") rfl)
  have MK := He.mkr_ok (cd.fact 54 (f := .mkr "Words") rfl)
  have TW : TxtW K mg (He.ga K "Words") := ⟨He.cls_ok (cd.fact 55 (f := .cls "Words") rfl), He.noat_ok (cd.fact 56 (f := .noat "Words" "number") rfl), He.noat_ok (cd.fact 57 (f := .noat "Words" "row") rfl), He.noat_ok (cd.fact 58 (f := .noat "Words" "at") rfl), (He.glo_ok X G (cd.fact 59 (f := .glo "Words") rfl))⟩
  have TB : BadTxt K mg (He.ga K "BadLine") (He.ma K (He.ga K "BadLine") "__init__") fd7 := ⟨⟨oexB_ok x0, (of_decide_eq_true x1), (of_decide_eq_true x2), (of_decide_eq_true x3), x4⟩, (of_decide_eq_true x5), (of_decide_eq_true x6), (of_decide_eq_true x7), rfl, y14, (He.glo_ok X G (cd.fact 60 (f := .glo "BadLine") rfl)), F7, b7⟩
  have TR : ReadTxt K mg (He.ga K "BadLine") (He.ga K "BadEvent") (He.ga K "NoTag") (He.ga K "TooMany") := ⟨⟨x8, xfB_ok x9, (of_decide_eq_true x10), (of_decide_eq_true x11), (of_decide_eq_true x12), (of_decide_eq_true x13)⟩, (of_decide_eq_true x7), (He.glo_ok X G (cd.fact 60 (f := .glo "BadLine") rfl)), (He.glo_ok X G (cd.fact 61 (f := .glo "BadEvent") rfl)), (He.glo_ok X G (cd.fact 62 (f := .glo "NoTag") rfl)), (He.glo_ok X G (cd.fact 63 (f := .glo "TooMany") rfl)), (of_decide_eq_true x14), (of_decide_eq_true x15), (of_decide_eq_true x16), (of_decide_eq_true x17), (of_decide_eq_true x18), y14, y5⟩
  cases hfa.symm.trans m36
  refine ⟨fd36, fun s v => ?_, fun base _ _ => ?_⟩
  · exact (FunD.bindsA (ps := ["_law_script"]) D36 fun _ _ _ _ _ _ us hl => match us, hl with | [_], _ => rfl) s [v] rfl
  have g0 : FnOk l.prog w K mg base CX0 1 (He.ga K "is_number") _ ["thing", "least"] (spNum K) := ok_num (k := 0) F0 y5 y0 y8
  have g1 : FnOk l.prog w K mg base CX0 1 (He.ga K "is_letters") _ ["thing", "least"] (spLets K) := ok_lets (k := 0) F1 y5 y1 y9 y6 mL
  have g2 : FnOk l.prog w K mg base CX0 2 (He.ga K "is_name") _ ["thing"] (spIsName K) := ok_isName (k := 0) F2 F1 b1 m1 g1 y1
  have g3 : FnOk l.prog w K mg base CX0 1 (He.ga K "is_row") _ ["thing", "many"] (spRow K) := ok_row (k := 0) F3 y5 y1 y2
  have g4 : FnOk l.prog w K mg base CX0 1 (He.ga K "ascends") _ ["names"] (spAsc K) := ok_asc (k := 0) F4 y6 y7
  have g5 : FnOk l.prog w K mg base CX0 3 (He.ga K "are_names") _ ["thing"] (spAre K) := ok_are (k := 0) F5 F2 b2 m2 g2 F4 b4 m4 (g4.mono (by decide)) y5 y2 y6
  have g6 : FnOk l.prog w K mg base CX0 4 (He.ga K "is_setup") _ ["thing"] (spIsSetup K) := ok_isSetup (k := 0) F6 F3 b3 m3 (g3.mono (by decide)) F0 b0 m0 (g0.mono (by decide)) F5 b5 m5 g5 y5 y2 y6
  have g7 : FnOk l.prog w K mg base CX0 1 (He.ma K (He.ga K "Words") "__init__") _ ["self", "number", "text"] (spWInit (He.ga K "Words")) := ok_wInit F8 TW
  have g8 : FnOk l.prog w K mg base (L2.CX l.prog w) 3 (He.ma K (He.ga K "Words") "next_word") _ ["self"] (spNext (He.ga K "Words") (He.ga K "BadLine")) := ok_next F9 TW TB y1
  have g9 : FnOk l.prog w K mg base (L2.CX l.prog w) 3 (He.ma K (He.ga K "Words") "expect") _ ["self", "fits"] (spExpect (He.ga K "Words") (He.ga K "BadLine")) := ok_expect F11 TW TB
  have g10 : FnOk l.prog w K mg base CX0 1 (He.ma K (He.ga K "Words") "rest") _ ["self"] (spRest (He.ga K "Words")) := ok_rest F10 TW y1
  have g11 : FnOk l.prog w K mg base (L2.CX l.prog w) 4 (He.ma K (He.ga K "Words") "number_in") _ ["self", "digits", "least"] (spNumIn (He.ga K "Words") (He.ga K "BadLine")) := ok_numIn F13 TW TB F11 b11 M11 y1 y6 y0 mD mM
  have g12 : FnOk l.prog w K mg base (L2.CX l.prog w) 5 (He.ma K (He.ga K "Words") "next_number") _ ["self", "least"] (spNextNum (He.ga K "Words") (He.ga K "BadLine")) := ok_nextNum (fB := (He.ma K (He.ga K "BadLine") "__init__")) (fdB := fd7) F12 TW g8 b9 M9 g11 b13 M13
  have g13 : FnOk l.prog w K mg base (L2.CX l.prog w) 6 (He.ga K "setup_in") _ ["text"] (spSetupIn K (He.ga K "BadLine")) := ok_setupIn F15 TW TB MK g7 b8 g8 b9 M9 g9 b11 M11 g10 b10 M10 g12 b12 M12 (g6.mono (by decide)) b6 m6 k6 y1 y4 y2 mO
  have g14 : FnOk l.prog w K mg base CX0 1 (He.ga K "setup_text") _ ["setup"] (spSetupText K) := ok_setupText F14 y9 mO
  have g15 : FnOk l.prog w K mg base CX0 1 (He.ga K "_law_take") _ ["_law_box_here", "_law_below"] spTake := ok_take (k := 0) F16 y0
  have g16 : FnOk l.prog w K mg base CX0 2 (He.ga K "_law_of") _ ["_law_box_here", "_law_some"] (spOf K) := ok_of (k := 0) F17 F16 b16 m16 y0 y1
  have g17 : FnOk l.prog w K mg base CX0 3 (He.ga K "_law_name") _ ["_law_box_here"] (spName K) := ok_name (k := 0) F18 F16 b16 m16 F17 b17 m17 y0 y1 y4
  have g18 : FnOk l.prog w K mg base CX0 4 (He.ga K "_law_names") _ ["_law_box_here", "_law_many_so"] (spNames K) := ok_names (k := 0) F19 F18 b18 m18 g17 y4
  have g19 : FnOk l.prog w K mg base CX0 5 (He.ga K "_law_named_setup") _ ["_law_box_here", "_law_least_so"] (spNamed K) := ok_named (k := 0) F20 F16 b16 m16 (g15.mono (by decide)) F17 b17 m17 (g16.mono (by decide)) F19 b19 m19 g18 y4 y2 y12
  have g20 : FnOk l.prog w K mg base CX0 1 (He.ga K "_law_setup_words") _ ["_law_setup_so"] (spLawWords K) := ok_lawWords F21 y9 y3
  have gSame : FnOk l.prog w K mg base CX0 8 (He.ga K "_law_same") _ ["_law_found", "_law_due"] (spSame K 8) := ok_same F24 b24 m24 y5 y3 y2 y1 y6 y7 y8 y9 y0 8
  have gLists : FnOk l.prog w K mg base CX0 8 (He.ga K "_law_lists") _ ["_law_matter"] (spLists K 7) := ok_lists F22 b22 m22 y5 y3 y2 7
  have gMixed : FnOk l.prog w K mg base CX0 9 (He.ga K "_law_mixed") _ ["_law_box_here", "_law_matter"] (spMixed K 7) := ok_mixed F23 b23 m23 F16 b16 m16 y0 y5 y3 y2 7
  have g21 : FnOk l.prog w K mg base CX0 3 (He.ga K "_law_spoilt") _ ["_law_box_here", "_law_line"] spSpoilt := ok_spoilt F25 (g15.mono (by decide)) b16 m16 k16 g16 b17 m17 k17 y1 y0
  have g22 : FnOk l.prog w K mg base CX0 1 (He.ga K "_law_is_word") _ ["_law_matter", "_law_most_so"] (spIsWord K) := ok_isWord (k := 0) F26 y5 y1 y9
  have g23 : FnOk l.prog w K mg base CX0 1 (He.ga K "_law_number_in") _ ["_law_word"] spLawNum := ok_lawNum F27 y1 y0
  have g24 : FnOk l.prog w K mg base CX0 2 (He.ga K "_law_bit_in") _ ["_law_kind_so", "_law_word"] spBitIn := ok_bitIn F28 g23 b27 m27 k27
  have g25 : FnOk l.prog w K mg base CX0 1 (He.ga K "_law_row_of") _ ["_law_matter", "_law_size"] (spRow K) := ok_rowOf (k := 0) F29 y5 y1 y2
  have g26 : FnOk l.prog w K mg base CX0 1 (He.ga K "_law_whole") _ ["_law_matter", "_law_least_so"] (spNum K) := ok_whole (k := 0) F30 y5 y0 y8
  have g27 : FnOk l.prog w K mg base CX0 4 (He.ga K "_law_is_setup") _ ["_law_matter"] (spIsSetup K) := ok_lawSetup (k := 0) F31 F29 b29 m29 (g25.mono (by decide)) F30 b30 m30 (g26.mono (by decide)) F26 b26 m26 (g22.mono (by decide)) y5 y2 y6 y3 y13 y12 y9
  have g28 : FnOk l.prog w K mg base CX0 6 (He.ga K "_law_setups_in") _ ["_law_line"] (spSetupsIn K) := ok_setupsIn F32 g24 b28 m28 k28 (g27.mono (by decide)) b31 m31 k31 y1 y4 y2 y0
  have g29 : FnOk l.prog w K mg base CX0 7 (He.ga K "_law_read") _ ["_law_door", "_law_setup_so", "_law_words"] (spRead K) := ok_read F33 TR g13 b15 m15 k15
  have g30 : FnOk l.prog w K mg base CX0 15 (He.ga K "_law_right") _ ["_law_box_here"] spRight := ok_right F35 F20 b20 m20 (g19.mono (by decide)) F21 b21 m21 (g20.mono (by decide)) F14 b14 kb14 m14 (g14.mono (by decide)) F22 b22 m22 (gLists.mono (by decide)) F23 b23 m23 (gMixed.mono (by decide)) F24 b24 m24 (gSame.mono (by decide)) F15 b15 kb15 m15 (g13.mono (by decide)) F25 b25 m25 (g21.mono (by decide)) F32 b32 m32 (g28.mono (by decide)) F33 b33 m33 (g29.mono (by decide)) y0 y4 y1 y13 y3
  exact ok_law F36 F35 b35 m35 (FnG.of g30) F34 b34 m34 y0 y1 y10 y11 y4 y6
end KV

namespace KV
open PySem PySem.Spec PyProof.Rows L2 RZ
set_option maxHeartbeats 0 in
theorem hrun_false (w : World) : HandSHeadRun.RunEq hR (PySem.W.view hR.prog [121]) hk hob 7000 hnames (w.withFollow "special-get-raises" false) := by
  intro os
  kernel_rfl
set_option maxHeartbeats 0 in
theorem hrun_true (w : World) : HandSHeadRun.RunEq hR (PySem.W.view hR.prog [121]) hk hob 7000 hnames (w.withFollow "special-get-raises" true) := by
  intro os
  kernel_rfl
theorem hrun (w : World) : HandSHeadRun.RunEq hR (PySem.W.view hR.prog [121]) hk hob 7000 hnames w := PySem.W.byRow2 "special-get-raises" (P := fun w => HandSHeadRun.RunEq hR (PySem.W.view hR.prog [121]) hk hob 7000 hnames w) hrun_false hrun_true w
end KV

open PySem PySem.W PySem.Calls PyProof.Rows
set_option maxRecDepth 100000 in
set_option maxHeartbeats 0 in
theorem PySem.Challenge.cw_endonce_k07_setups_as_texts_holds : PySem.Challenge.rw_endonce_k07_setups_as_texts.Holds := by
  w_on; o_law
  refine HandSHeadRun.head_any (r := OpenLaw.row PySem.Challenge.rw_endonce_k07_setups_as_texts) (q := view (OpenLaw.row PySem.Challenge.rw_endonce_k07_setups_as_texts).prog [121]) (H := KV.hk) (ob := KV.hob) (M := 7000) (loose := KV.hnames) (d := HandSHeadRun.topDef (OpenLaw.row PySem.Challenge.rw_endonce_k07_setups_as_texts).prog 121) (kwd := []) KV.hob_eq
    (by kernel_rfl) (fun s => by kernel_rfl) KV.hrun (by kernel_rfl) (by kernel_rfl) (by kernel_rfl) (by rfl) (by first | assumption | decide +kernel) (by decide +kernel) ⟨rfl, rfl, rfl, rfl, rfl, by decide +kernel⟩ ?hw ?hc
  case hw => w_witness2
  case hc =>
    refine KV.walkGE (l := PySem.Challenge.rw_endonce_k07_setups_as_texts) (n := 63) (k := 16) (x := "_law_script") rfl (by decide) (by kernel_rfl) ⟨rfl, by decide, by decide⟩ ?F
    intro w mg fa h Y G hmg0
    obtain ⟨K, KX, c⟩ := Y
    have hmg : mg ("law" : PySem.Str) = some (.ref fa) := by
      have e : (HandSHeadRun.topDef (OpenLaw.row PySem.Challenge.rw_endonce_k07_setups_as_texts).prog 121).name = ("law" : PySem.Str) := by kernel_rfl
      rw [← e]
      exact hmg0
    obtain ⟨fd, hb, hF⟩ := KV.hall (l := PySem.Challenge.rw_endonce_k07_setups_as_texts) (w := w) KX G hmg c
    exact ⟨K, fd, KV.spLaw K, KX, hb, fun H a ns hl _ hS => ⟨a, ns, rfl, hS, hl, fun _ => rfl⟩, hF⟩
