import PyProof.Rows.All
import Wide.All
import OpenK.AllK
import Wide.FinOn
import PyProof.ReprRoads
import HandS.ForMost
import HandS.IsInst
import HandS.NoneIn
import HandS.TupAny
import HandS.Style
import HandS.Defaults
import HandS.Zip
import HandS.Walk
import HandS.Deep
import OpenK.KMore
import KE.GoesEnum
import KE.GoesMore
import PySem.Challenge.RW_endonce_k06_closed_histories
set_option Elab.async false
set_option linter.all false
set_option maxRecDepth 100000
set_option maxHeartbeats 4000000
namespace KV
open PySem PySem.Spec PyProof.Rows L2
/-! ### heaps -/
theorem same_upd {H : Hp} {p : Addr} {o : HO} (h : H p = none) : Same H (upd H p o) := fun b x e => by
  rw [upd_ne (ne_of_none e h)]
  exact e
theorem same_seqT {K : PySem.W.Frag} {H H' : Hp} {a : Addr} {xs : List V} (e : Same H H') (h : SqT K H a xs) : SqT K H' a xs := by
  rcases h with (h | ⟨o, h⟩) | h
  · exact .inl (.inl (e _ _ h))
  · exact .inl (.inr ⟨o, e _ _ h⟩)
  · exact .inr h
mutual
theorem dp_same {K : PySem.W.Frag} {H H' : Hp} (e : Same H H') : ∀ {v : V} {d : PyData}, Dp K H v d → Dp K H' v d
  | _, _, .non => .non
  | _, _, .bl b => .bl b
  | _, _, .int i => .int i
  | _, _, .str x => .str x
  | _, _, .lst h1 h2 => .lst (e.seq h1) (dps_same e h2)
  | _, _, .tup h1 h2 => .tup (same_seqT e h1) (dps_same e h2)
theorem dps_same {K : PySem.W.Frag} {H H' : Hp} (e : Same H H') : ∀ {vs : List V} {ds : List PyData}, DpAll K H vs ds → DpAll K H' vs ds
  | _, _, .nil => .nil
  | _, _, .cons h1 h2 => .cons (dp_same e h1) (dps_same e h2)
end
theorem dps_len {K : PySem.W.Frag} {H : Hp} : ∀ {vs : List V} {ds : List PyData}, DpAll K H vs ds → vs.length = ds.length
  | _, _, .nil => rfl
  | _, _, .cons _ h => congrArg (· + 1) (dps_len h)
theorem dps_get {K : PySem.W.Frag} {H : Hp} : ∀ {vs : List V} {ds : List PyData} {i : Nat} {v : V}, DpAll K H vs ds → vs[i]? = some v → ∃ d, ds[i]? = some d ∧ Dp K H v d
  | _, _, 0, _, .cons h1 _, e => ⟨_, rfl, by cases e; exact h1⟩
  | _, _, i + 1, _, .cons _ h2, e => dps_get (i := i) h2 e
theorem dps_get' {K : PySem.W.Frag} {H : Hp} : ∀ {vs : List V} {ds : List PyData} {i : Nat} {d : PyData}, DpAll K H vs ds → ds[i]? = some d → ∃ v, vs[i]? = some v ∧ Dp K H v d
  | _, _, 0, _, .cons h1 _, e => ⟨_, rfl, by cases e; exact h1⟩
  | _, _, i + 1, _, .cons _ h2, e => dps_get' (i := i) h2 e
theorem dps_app {K : PySem.W.Frag} {H : Hp} : ∀ {vs ws : List V} {ds es : List PyData}, DpAll K H vs ds → DpAll K H ws es → DpAll K H (vs ++ ws) (ds ++ es)
  | _, _, _, _, .nil, h => h
  | _, _, _, _, .cons h1 h2, h => .cons h1 (dps_app h2 h)
theorem dps_drop {K : PySem.W.Frag} {H : Hp} : ∀ {vs : List V} {ds : List PyData} (n : Nat), DpAll K H vs ds → DpAll K H (vs.drop n) (ds.drop n)
  | _, _, 0, h => h
  | _, _, n + 1, .nil => .nil
  | _, _, n + 1, .cons _ h => dps_drop n h
theorem dps_take {K : PySem.W.Frag} {H : Hp} : ∀ {vs : List V} {ds : List PyData} (n : Nat), DpAll K H vs ds → DpAll K H (vs.take n) (ds.take n)
  | _, _, 0, _ => .nil
  | _, _, n + 1, .nil => .nil
  | _, _, n + 1, .cons h1 h => .cons h1 (dps_take n h)
/-- the heap without some objects -/
def hide (B : List Addr) (H : Hp) : Hp := fun c => if c ∈ B then none else H c
theorem hide_out {B : List Addr} {H : Hp} {c : Addr} (h : c ∉ B) : hide B H c = H c := if_neg h
theorem hide_in {B : List Addr} {H : Hp} {c : Addr} (h : c ∈ B) : hide B H c = none := if_pos h
theorem hide_some {B : List Addr} {H : Hp} {c : Addr} {o : HO} (h : hide B H c = some o) : c ∉ B ∧ H c = some o := by
  by_cases e : c ∈ B
  · rw [hide_in e] at h; cases h
  · rw [hide_out e] at h; exact ⟨e, h⟩
theorem hide_same (B : List Addr) (H : Hp) : Same (hide B H) H := fun c o h => (hide_some h).2
theorem hide_nil (H : Hp) : hide [] H = H := funext fun c => hide_out List.not_mem_nil
/-- all but these is as it was -/
def SameX (B : List Addr) (H H' : Hp) : Prop := ∀ c o, c ∉ B → H c = some o → H' c = some o
theorem SameX.refl (B : List Addr) (H : Hp) : SameX B H H := fun _ _ _ h => h
theorem SameX.trans {B : List Addr} {H H1 H2 : Hp} (h1 : SameX B H H1) (h2 : SameX B H1 H2) : SameX B H H2 := fun c o n h => h2 c o n (h1 c o n h)
theorem SameX.of {B : List Addr} {H H' : Hp} (h : Same H H') : SameX B H H' := fun c o _ e => h c o e
theorem SameX.sub {B C : List Addr} {H H' : Hp} (h : SameX B H H') (s : ∀ b ∈ B, b ∈ C) : SameX C H H' := fun c o n e => h c o (fun z => n (s c z)) e
theorem SameX.same {H H' : Hp} (h : SameX [] H H') : Same H H' := fun c o e => h c o List.not_mem_nil e
theorem SameX.hide {B C : List Addr} {H H' : Hp} (h : SameX C H H') (s : ∀ b ∈ C, b ∈ B) : Same (hide B H) (hide B H') := fun c o e => by
  obtain ⟨n, e⟩ := hide_some e
  rw [hide_out n]
  exact h c o (fun z => n (s c z)) e
theorem sameX_upd {B : List Addr} {b : Addr} {H : Hp} {o : HO} (h : b ∈ B) : SameX B H (upd H b o) := fun c z n e => by
  have k : c ≠ b := fun q => n (by rw [q]; exact h)
  rw [upd_ne k]
  exact e
/-- a new object among the hidden ones -/
theorem SameX.enter {B C : List Addr} {H H' : Hp} {D : Addr} (h : SameX (D :: C) H H') (s : ∀ b ∈ C, b ∈ B) (n : H D = none) : Same (KV.hide B H) (KV.hide (D :: B) H') := fun c o e => by
  obtain ⟨k, e⟩ := hide_some e
  have cD : c ≠ D := ne_of_none e n
  have kD : c ∉ D :: B := fun z => (List.mem_cons.mp z).elim cD k
  rw [hide_out kD]
  exact h c o (fun z => (List.mem_cons.mp z).elim cD fun z => k (s c z)) e
/-- the new object goes: what was told without it stands with it -/
theorem hide_leave {B : List Addr} {H : Hp} {D : Addr} : Same (hide (D :: B) H) (hide B H) := fun c o e => by
  obtain ⟨k, e⟩ := hide_some e
  rw [hide_out (fun z => k (List.mem_cons_of_mem _ z))]
  exact e
theorem hide_upd {B : List Addr} {p : Addr} {H : Hp} {o : HO} (n : p ∉ B) : hide B (upd H p o) = upd (hide B H) p o := by
  funext c
  by_cases e : c ∈ B
  · have k : c ≠ p := fun z => n (by rw [← z]; exact e)
    rw [hide_in e, upd_ne k, hide_in e]
  · rw [hide_out e]
    by_cases q : c = p
    · subst q
      rw [upd_same, upd_same]
    · rw [upd_ne q, upd_ne q, hide_out e]
theorem hide_upd_in {B : List Addr} {p : Addr} {H : Hp} {o : HO} (n : p ∈ B) : hide B (upd H p o) = hide B H := by
  funext c
  by_cases e : c ∈ B
  · rw [hide_in e, hide_in e]
  · have k : c ≠ p := fun z => e (by rw [z]; exact n)
    rw [hide_out e, hide_out e, upd_ne k]
/-- these stand -/
def Live (B : List Addr) (H : Hp) : Prop := ∀ b ∈ B, H b ≠ none
theorem Live.nil (H : Hp) : Live [] H := fun _ h => absurd h List.not_mem_nil
theorem Live.new {B : List Addr} {H : Hp} {p : Addr} (h : Live B H) (e : H p = none) : p ∉ B := fun z => h p z e
theorem Live.same {B : List Addr} {H H' : Hp} (h : Live B H) (s : Same H H') : Live B H' := fun b hb e => by
  cases q : H b with
  | none => exact h b hb q
  | some o => rw [s b o q] at e; cases e
theorem Live.cons {B : List Addr} {H : Hp} {D : Addr} {o : HO} (h : Live B H) (e : H D = some o) : Live (D :: B) H := fun b hb => by
  rcases List.mem_cons.mp hb with rfl | hb
  · rw [e]; exact fun z => nomatch z
  · exact h b hb
theorem Live.tail {B : List Addr} {H : Hp} {D : Addr} (h : Live (D :: B) H) : Live B H := fun b hb => h b (List.mem_cons_of_mem _ hb)
theorem Live.upd {B : List Addr} {H : Hp} {p : Addr} {o : HO} (h : Live B H) : Live B (upd H p o) := fun b hb => by
  by_cases e : b = p
  · rw [e, upd_same]; exact fun z => nomatch z
  · rw [upd_ne e]; exact h b hb
/-- the box of draws: below n draws by its third number -/
def BoxAt (H : Hp) (b : Addr) (n : Nat) : Prop := ∃ x y c : Int, H b = some (.lst [.int x, .int y, .int c]) ∧ 0 ≤ y ∧ y < 2 ^ 62 ∧ 0 ≤ c ∧ c ≤ n
theorem BoxAt.le {H : Hp} {b : Addr} {n m : Nat} (h : BoxAt H b n) (k : n ≤ m) : BoxAt H b m := by
  obtain ⟨x, y, c, h1, h2, h3, h4, h5⟩ := h
  exact ⟨x, y, c, h1, h2, h3, h4, by omega⟩
theorem BoxAt.same {H H' : Hp} {b : Addr} {n : Nat} (h : BoxAt H b n) (e : Same H H') : BoxAt H' b n := by
  obtain ⟨x, y, c, h1, h2⟩ := h
  exact ⟨x, y, c, e _ _ h1, h2⟩
theorem BoxAt.new {H : Hp} {b p : Addr} {n : Nat} (h : BoxAt H b n) (e : H p = none) : p ≠ b := by
  obtain ⟨x, y, c, h1, _⟩ := h
  exact fun z => by rw [z, h1] at e; cases e
/-! ### data -/
mutual
def tupD : PyData → PyData
  | .list xs => .tuple (tupDs xs)
  | .tuple xs => .tuple (tupDs xs)
  | .none => .none
  | .bool b => .bool b
  | .int i => .int i
  | .str s => .str s
  | .dict k => .dict k
def tupDs : List PyData → List PyData
  | [] => []
  | d :: ds => tupD d :: tupDs ds
end
mutual
def lstD : PyData → PyData
  | .list xs => .list (lstDs xs)
  | .tuple xs => .list (lstDs xs)
  | .none => .none
  | .bool b => .bool b
  | .int i => .int i
  | .str s => .str s
  | .dict k => .dict k
def lstDs : List PyData → List PyData
  | [] => []
  | d :: ds => lstD d :: lstDs ds
end
mutual
/-- no dict, at most so deep, no sequence longer than 1000 -/
def okD : PyData → Nat → Bool
  | .list xs, n => decide (0 < n) && decide (xs.length ≤ 1000) && okDs xs (n - 1)
  | .tuple xs, n => decide (0 < n) && decide (xs.length ≤ 1000) && okDs xs (n - 1)
  | .none, _ => true
  | .bool _, _ => true
  | .int _, _ => true
  | .str _, _ => true
  | .dict _, _ => false
def okDs : List PyData → Nat → Bool
  | [], _ => true
  | d :: ds, n => okD d n && okDs ds n
end
theorem tupDs_map : ∀ ds, tupDs ds = ds.map tupD
  | [] => by simp [tupDs]
  | d :: ds => by simp [tupDs, tupDs_map ds]
theorem lstDs_map : ∀ ds, lstDs ds = ds.map lstD
  | [] => by simp [lstDs]
  | d :: ds => by simp [lstDs, lstDs_map ds]
theorem tupDs_len (ds : List PyData) : (tupDs ds).length = ds.length := by rw [tupDs_map, List.length_map]
theorem lstDs_len (ds : List PyData) : (lstDs ds).length = ds.length := by rw [lstDs_map, List.length_map]
theorem okDs_all : ∀ ds n, okDs ds n = ds.all fun d => okD d n
  | [], _ => by simp [okDs]
  | d :: ds, n => by simp [okDs, okDs_all ds n]
theorem okDs_get {ds : List PyData} {n i : Nat} {d : PyData} (h : okDs ds n = true) (e : ds[i]? = some d) : okD d n = true := by
  rw [okDs_all, List.all_eq_true] at h
  exact h d (List.mem_of_getElem? e)
mutual
theorem tup_lst : ∀ d, tupD (lstD d) = tupD d
  | .list xs => by simp only [lstD, tupD, tup_lsts xs]
  | .tuple xs => by simp only [lstD, tupD, tup_lsts xs]
  | .none => by simp only [lstD]
  | .bool b => by simp only [lstD]
  | .int i => by simp only [lstD]
  | .str s => by simp only [lstD]
  | .dict k => by simp only [lstD]
theorem tup_lsts : ∀ ds, tupDs (lstDs ds) = tupDs ds
  | [] => by simp only [lstDs]
  | d :: ds => by simp only [lstDs, tupDs, tup_lst d, tup_lsts ds]
end
mutual
theorem ok_lst : ∀ d n, okD (lstD d) n = okD d n
  | .list xs, n => by simp only [lstD, okD, ok_lsts xs, lstDs_len]
  | .tuple xs, n => by simp only [lstD, okD, ok_lsts xs, lstDs_len]
  | .none, n => by simp only [lstD]
  | .bool b, n => by simp only [lstD]
  | .int i, n => by simp only [lstD]
  | .str s, n => by simp only [lstD]
  | .dict k, n => by simp only [lstD]
theorem ok_lsts : ∀ ds n, okDs (lstDs ds) n = okDs ds n
  | [], n => by simp only [lstDs]
  | d :: ds, n => by simp only [lstDs, okDs, ok_lst d, ok_lsts ds]
end
mutual
theorem ok_tup : ∀ d n, okD (tupD d) n = okD d n
  | .list xs, n => by simp only [tupD, okD, ok_tups xs, tupDs_len]
  | .tuple xs, n => by simp only [tupD, okD, ok_tups xs, tupDs_len]
  | .none, n => by simp only [tupD]
  | .bool b, n => by simp only [tupD]
  | .int i, n => by simp only [tupD]
  | .str s, n => by simp only [tupD]
  | .dict k, n => by simp only [tupD]
theorem ok_tups : ∀ ds n, okDs (tupDs ds) n = okDs ds n
  | [], n => by simp only [tupDs]
  | d :: ds, n => by simp only [tupDs, okDs, ok_tup d, ok_tups ds]
end
mutual
/-- how many sequences -/
def nodesD : PyData → Nat
  | .list xs => nodesDs xs + 1
  | .tuple xs => nodesDs xs + 1
  | .none => 0
  | .bool _ => 0
  | .int _ => 0
  | .str _ => 0
  | .dict _ => 0
def nodesDs : List PyData → Nat
  | [] => 0
  | d :: ds => nodesD d + nodesDs ds
end
theorem ok_seq {xs : List PyData} {n : Nat} {d : PyData} (hd : d = .list xs ∨ d = .tuple xs) (h : okD d n = true) : ∃ m, n = m + 1 ∧ xs.length ≤ 1000 ∧ okDs xs m = true := by
  have h' : (decide (0 < n) && decide (xs.length ≤ 1000) && okDs xs (n - 1)) = true := by
    rcases hd with rfl | rfl <;> simpa only [okD] using h
  simp only [Bool.and_eq_true, decide_eq_true_eq] at h'
  obtain ⟨⟨h1, h2⟩, h3⟩ := h'
  exact ⟨n - 1, by omega, h2, h3⟩
/-- an atom -/
def isAtom : PyData → Bool
  | .none => true
  | .bool _ => true
  | .int _ => true
  | .str _ => true
  | _ => false
def isSeq : PyData → Bool
  | .list _ => true
  | .tuple _ => true
  | _ => false
/-! ### the class of a value -/
def tyD : PyData → String
  | .none => "NoneType"
  | .bool _ => "bool"
  | .int _ => "int"
  | .str _ => "str"
  | .list _ => "list"
  | .tuple _ => "tuple"
  | .dict _ => "dict"
theorem dp_ty {K : PySem.W.Frag} {H : Hp} {v : V} {d : PyData} (h : Dp K H v d) : TyX K H v (.type (tyD d)) := by
  cases h with
  | non => exact .base .non
  | bl b => exact .base (.bl b)
  | int i => exact .base (.int i)
  | str x => exact .base (.str x)
  | lst h1 _ =>
    rcases h1 with (h | ⟨o, h⟩) | ⟨o, its, n, h, hc, _⟩
    · exact .base (.lst h)
    · exact .base (.frz h)
    · exact .kList h hc
  | tup h1 _ =>
    rcases h1 with (h | ⟨o, h⟩) | ⟨o, its, n, h, hc, _⟩
    · exact .base (.tup h)
    · exact .fTuple h
    · exact .kTuple h hc
theorem kit_lt {K : PySem.W.Frag} {a : String} {r1 r2 : Bool} (h1 : kitB a "list" = some r1) (h2 : kitB a "tuple" = some r2) : PySem.W.kitAny K (.type a) [.type "list", .type "tuple"] = some (r1 || r2) := by
  cases r1 with
  | true => exact kitAny_cons (kit_ty h1) (fun z => nomatch z) fun _ => rfl
  | false =>
    cases r2 with
    | true => exact kitAny_cons (kit_ty h1) (fun _ => kitAny_cons (kit_ty h2) (fun z => nomatch z) fun _ => rfl) fun z => nomatch z
    | false => exact kitAny_cons (kit_ty h1) (fun _ => kitAny_cons (kit_ty h2) (fun _ => kitAny_nil) fun z => nomatch z) fun z => nomatch z
theorem kit_seq {K : PySem.W.Frag} : ∀ (d : PyData), PySem.W.kitAny K (.type (tyD d)) [.type "list", .type "tuple"] = some (isSeq d)
  | .none => kit_lt (a := "NoneType") (r1 := false) (r2 := false) (by decide +kernel) (by decide +kernel)
  | .bool _ => kit_lt (a := "bool") (r1 := false) (r2 := false) (by decide +kernel) (by decide +kernel)
  | .int _ => kit_lt (a := "int") (r1 := false) (r2 := false) (by decide +kernel) (by decide +kernel)
  | .str _ => kit_lt (a := "str") (r1 := false) (r2 := false) (by decide +kernel) (by decide +kernel)
  | .list _ => kit_lt (a := "list") (r1 := true) (r2 := false) (by decide +kernel) (by decide +kernel)
  | .tuple _ => kit_lt (a := "tuple") (r1 := false) (r2 := true) (by decide +kernel) (by decide +kernel)
  | .dict _ => kit_lt (a := "dict") (r1 := false) (r2 := false) (by decide +kernel) (by decide +kernel)
theorem cls_lt : Paired ClsV [.ty "list", .ty "tuple"] [.type "list", .type "tuple"] := .cons (.ty _) (.cons (.ty _) .nil)
theorem tup_atom : ∀ {d : PyData}, isSeq d = false → tupD d = d
  | .none, _ => by simp only [tupD]
  | .bool _, _ => by simp only [tupD]
  | .int _, _ => by simp only [tupD]
  | .str _, _ => by simp only [tupD]
  | .dict _, _ => by simp only [tupD]
theorem lst_atom : ∀ {d : PyData}, isSeq d = false → lstD d = d
  | .none, _ => by simp only [lstD]
  | .bool _, _ => by simp only [lstD]
  | .int _, _ => by simp only [lstD]
  | .str _, _ => by simp only [lstD]
  | .dict _, _ => by simp only [lstD]
/-- a sequence, of either kind -/
theorem dp_seq {K : PySem.W.Frag} {H : Hp} {v : V} {d : PyData} (h : Dp K H v d) (hs : isSeq d = true) : ∃ a xs ds, v = .ref a ∧ (SqL K H a xs ∧ d = .list ds ∨ SqT K H a xs ∧ d = .tuple ds) ∧ DpAll K H xs ds := by
  cases h with
  | lst h1 h2 => exact ⟨_, _, _, rfl, .inl ⟨h1, rfl⟩, h2⟩
  | tup h1 h2 => exact ⟨_, _, _, rfl, .inr ⟨h1, rfl⟩, h2⟩
  | non => exact nomatch hs
  | bl _ => exact nomatch hs
  | int _ => exact nomatch hs
  | str _ => exact nomatch hs
theorem dps_snoc {K : PySem.W.Frag} {H : Hp} {vs : List V} {ds : List PyData} {v : V} {d : PyData} (h : DpAll K H vs ds) (h1 : Dp K H v d) : DpAll K H (vs ++ [v]) (ds ++ [d]) := dps_app h (.cons h1 .nil)
theorem take_snoc {α : Type} {l : List α} {i : Nat} {x : α} (h : l[i]? = some x) : l.take (i + 1) = l.take i ++ [x] := by
  rw [List.take_add_one, h]
  rfl
/-! ### rules -/
section
variable {X : Cx} {pos : Pos}
/-- unpacking a list or a tuple -/
def gSeq (K : PySem.W.Frag) (n : Nat) (t : TGs) : TG := fun v σ H Q => ∃ a xs, v = .ref a ∧ (SqT K H a xs ∨ SqL K H a xs) ∧ xs.length = n ∧ t xs σ H Q
theorem pg_seq {es : List Expr} {k : Nat} {t : TGs} {n : Nat} (hc : X.calm = true) (h : PGs X es t)
    (hn : (assignEach es X.env).length = n := by rfl) (hst : (assignEach es X.env).findIdx? (·.1) = none := by rfl) : PG X (.Tuple es k pos) (gSeq X.K n t) := by
  refine ⟨fun pins s σ H v u Q I r hw => ?_⟩
  obtain ⟨a, xs, e1, hq | hq, hl, hw⟩ := hw
  · exact (pg_tup hc h hn hst).run pins s σ H v u Q I r ⟨a, xs, e1, hq, hl, hw⟩
  · exact (pg_unl hc h hn hst).run pins s σ H v u Q I r ⟨a, xs, e1, hq, hl, hw⟩
/-- walking a list or a tuple -/
def iSeq (K : PySem.W.Frag) (tl : TE) : TI := fun σ H R => iList K tl σ H R ∨ iTup K tl σ H R
theorem pi_seq {tg l : Expr} {tl : TE} (hl : PE X l tl) : PI X tg l (iSeq X.K tl) := by
  refine ⟨fun pins s σ H R I h => ?_⟩
  rcases h with h | h
  · exact (pi_list hl).run pins s σ H R I h
  · exact (pi_tup hl).run pins s σ H R I h
/-- isinstance(x, (list, tuple)) of data -/
def rIsSeq (K : PySem.W.Frag) : List V → Hp → VK → Prop := fun vs H Q => ∃ v tp d, vs = [v, .ref tp] ∧ H tp = some (.tup [.ty "list", .ty "tuple"]) ∧ Dp K H v d ∧ Q (.bl (isSeq d)) H
theorem cr_isSeq : CallR X (.builtin "isinstance") (rIsSeq X.K) := by
  intro pins s σ H vs us Q I r h
  obtain ⟨v, tp, d, rfl, ht, hd, q⟩ := h
  exact call_isiT pins s σ H _ us Q I r ⟨v, tp, _, _, _, _, rfl, ht, cls_lt, dp_ty hd, kit_seq d, q⟩
/-- repr of data -/
def rRepr (K : PySem.W.Frag) : List V → Hp → VK → Prop := fun vs H Q => ∃ v d, vs = [v] ∧ (∃ a, v = .ref a) ∧ Dp K H v d ∧ d.showable = true ∧ d.hasDict = false ∧ d.depth ≤ 60 ∧ d.shown.length ≤ sizeLine ∧ Q (.str d.shown) H
theorem cr_repr (hg : X.A.guards = some []) (hu : X.A.units + 64 < cLine) : CallR X (.builtin "repr") (rRepr X.K) := by
  intro pins s σ H vs us Q I r h
  obtain ⟨v, d, rfl, ⟨a, rfl⟩, hd, hs, hn, hdp, hz, q⟩ := h
  obtain ⟨u, rfl, ru⟩ := vals1 r
  cases (show u = Value.ref a from ru)
  obtain ⟨as, rd⟩ := Dp.reads I d (.ref a) (.ref a) hd rfl
  exact repr_of_reads' rd hs (fun z => by rw [hn] at z; cases z) hg (by omega) (fun _ _ e => e) (fun h' u tk hk => ⟨.str d.shown, H, I.kept hk, ⟨_, rfl⟩, q⟩) hz
end
end KV

namespace KV
open PySem PySem.Spec PyProof.Rows L2
/-! ### promises kept where no repr is under way -/
structure FnG (P : Program) (w : World) (K : PySem.W.Frag) (mg : Str → Option Value) (base : Heap) (k : Nat) (f : Addr) (fd : FuncData) (ps : List Str) (sp : Sp) : Prop where
  size : ∀ vs H Q E, sp vs H Q E → vs.length = ps.length
  goes : ∀ (A : Around) (outer : List Env) (s : Shared) (H : Hp) (args : Args) (us : List Value) (vs : List V) (Q : VK) (E : XK), A.guards = some [] → Room k A →
    Env0 P w K mg base A outer s H → BindsTo s fd args (ps.zip us) → Vals vs us → sp vs H Q E →
    codeAny (model P w) A (.call (.ref f) args) (CR CX0 outer P w H s Q E) s
theorem FnG.of {P : Program} {w : World} {K : PySem.W.Frag} {mg : Str → Option Value} {base : Heap} {k : Nat} {f : Addr} {fd : FuncData} {ps : List Str} {sp : Sp}
    (F : FnOk P w K mg base CX0 k f fd ps sp) : FnG P w K mg base k f fd ps sp :=
  ⟨F.len, fun A o s H args us vs Q E _ hr e0 hb r h => F.run A o s H args us vs Q E hr e0 hb r h⟩
/-- a def by its body, where no repr is under way -/
theorem okG {P : Program} {w : World} {K : PySem.W.Frag} {mg : Str → Option Value} {base : Heap} {x qual : Str} {st : Stmt} {f : Addr} {fd : FuncData} {N ps : List Str} {k : Nat} {sp : Sp}
    (F : Fun K x qual st f fd) (S : FnScope N ps (defScope st)) (size : ∀ vs H Q E, sp vs H Q E → vs.length = ps.length)
    (body : ∀ (cd : Value) (A : Around) (outer : List Env) (s : Shared) (H : Hp) (vs : List V) (Q : VK) (E : XK), A.guards = some [] →
      Room k (A.deeper (envOfC qual (defScope st) s.heap.objs.size f cd)) → sp vs H Q E →
      ∃ t, PSs (cxOf CX0 P w K mg base N qual (defScope st) f cd A outer s H E).nox (defBody st) t ∧ t { nx := fun _ H' => Q .non H', rt := Q } (start N vs) H) :
    FnG P w K mg base (k + 1) f fd ps sp := by
  obtain ⟨oc, od, kV, doc, pm, an, cd, ct, osl, rfl, lk, hcd⟩ := F.ex
  refine ⟨size, fun A outer s H args us vs Q E hgd room e0 binds rv hp => ?_⟩
  have inK : K.In s.heap := e0.mod.kin.keeps fun b o z => (e0.bs b o z).1
  have noLim : s.heap.NoLimit := e0.mod.nolimit.keeps fun b o z => (e0.bs b o z).1
  refine codeAny_call_function room.depth (inK _ _ lk) rfl S.co S.gen rfl (PySem.W.codeRec_of inK hcd) (binds _ _ _ _ ?_)
  refine wpAny_newFunctionEnv_cells S.kind (fun z hz => ?_) fun env he s1 x1 => ?_
  · obtain ⟨zn, zv⟩ := z
    exact (S.par zn (List.of_mem_zip hz).1).imp id fun q => ⟨q, PySem.W.cellsFrom_some _ _ _ (.inl q)⟩
  · subst he
    refine ⟨noLim.keeps x1.toInCall.keep, codeAny_func ?_⟩
    obtain ⟨t, ht, hq⟩ := body cd A outer s H vs Q E hgd (room.deeper _) hp
    have I := inv_start (CX := CX0) (P := P) (w := w) (K := K) (mg := mg) (base := base) (E := E) S room.hd e0 (size _ _ _ _ hp) rv x1
    refine wpAny_mono (ht.nox.run [] s1 (start N vs) H _ I hq) (fun fl s' hs => ?_) fun e s' hs => hs
    cases fl with
    | ret u =>
      obtain ⟨v, σ', H', J, q1, q2⟩ := hs
      exact ⟨v, H', J.os, J.bare, J.base, J.hok, q1, q2⟩
    | next =>
      obtain ⟨σ', H', J, q2⟩ := hs
      exact ⟨V.non, H', J.os, J.bare, J.base, J.hok, rfl, q2⟩
    | brk => obtain ⟨_, _, _, z⟩ := hs; exact z.elim
    | cont => obtain ⟨_, _, _, z⟩ := hs; exact z.elim
section
variable {X : Cx} {k : Nat} {f : Addr} {fd : FuncData} {ps ks : List Str} {sp : Sp} {E : XK} {x : Str} {p pos : Pos} {e : Expr} {es : List Expr} {t tk : TA} {kws : List Keyword}
/-- f(e, ..) of such a def -/
theorem pe_callG (F : FnG X.prog X.w X.K X.mg X.base k f fd ps sp) (hgd : X.A.guards = some []) (hr : Room k X.A) (hg : Gl X x) (hm : X.mg x = some (.ref f)) (hk : PySem.W.keepIn X.K (.ref f) = true) (hb : Binds X.K fd ps [])
    (ha : PA X (e :: es) t) (hdb : (x == ("__debug__" : Str)) = false := by decide) (he : starEach (e :: es) X.env = (false, eval e X.env) :: starEach es X.env := by rfl)
    (hpl : (backTo pos (starEach es X.env)).any (·.1) = false := by rfl) : PE X (.Call (.Name x p) (e :: es) [] pos) (tCall sp [] E0 t) := by
  refine ⟨fun pins s σ H Q I h => wpAny_Call_Name_kw (ld_glob I hg hm ?_ hdb)⟩
  refine PySem.W.callWith_K (h₀ := X.base) I.ok.mod.kin hk (thn (ha.run pos pins s σ H _ I h) fun us s1 hv => ?_) he hpl
  obtain ⟨vs, H1, I1, rv, q⟩ := hv
  have q0 : sp vs H1 Q E0 := by
    have q1 : sp (vs ++ []) H1 Q E0 := q
    rw [List.append_nil] at q1
    exact q1
  refine ⟨I1.kIn, wpAny_call (codeAny_mono (F.goes X.A X.stack s1 H1 ⟨us, []⟩ us vs Q E0 hgd hr I1.env0 ?_ rv q0) fun r s' hq => ?_)⟩
  · have hb1 := hb s1 us I1.kIn (by rw [List.append_nil, ← rv.length]; exact F.size _ _ _ _ q0)
    rw [List.append_nil] at hb1
    exact hb1
  · cases r with
    | error z => exact (show False from hq).elim
    | ok fl =>
      cases fl with
      | ret u => exact I1.after hq
      | next => exact (show False from hq).elim
      | brk => exact (show False from hq).elim
      | cont => exact (show False from hq).elim
variable {g : List Value → List Value → List Value} {gV : List V → List V → List V}
/-- f(k = v, ..) without positional values -/
theorem pe_callK0 (F : FnOk X.prog X.w X.K X.mg X.base CX0 k f fd ps sp) (hr : Room k X.A) (hg : Gl X x) (hm : X.mg x = some (.ref f)) (hk : PySem.W.keepIn X.K (.ref f) = true) (hb : KBinds X.K fd ps ks g gV)
    (hkw : PK X kws tk) (hall : (backToKw pos (keywordEach kws X.env)).all (·.1.isSome) = true := by rfl) (hks : (backToKw pos (keywordEach kws X.env)).filterMap (·.1) = ks := by rfl)
    (hdb : (x == ("__debug__" : Str)) = false := by decide)
    (hpl : ((backTo pos (starEach [] X.env)).any (·.1) || (backToKw pos (keywordEach kws X.env)).any (·.1.isNone)) = false := by rfl) :
    PE X (.Call (.Name x p) [] kws pos) (tCallK sp gV E0 tNil tk) := by
  refine ⟨fun pins s σ H Q I h => wpAny_Call_Name_kw (ld_glob I hg hm ?_ hdb)⟩
  refine PySem.W.callWith_KW0 (h₀ := X.base) I.ok.mod.kin hk hall (thn (hkw.run pos pins s σ H _ I h) fun ws s2 hv => ?_) hpl
  obtain ⟨zs, H2, I2, rz, q2⟩ := hv
  refine ⟨I2.kIn, ?_⟩
  rw [hks]
  exact run_fnk (us := []) (vs := []) F hr hb pass0 I2 .nil rz q2
end
/-- one parameter, given by its name -/
theorem kb1 {K : PySem.W.Frag} {x qual : Str} {st : Stmt} {f : Addr} {fd : FuncData} {a : Str} (F : Fun K x qual st f fd)
    (h : ∀ (kV doc pm : Value) (an : Option Addr) (cdv ct u : Value), bindArgs (PySem.W.fnOf x qual (defArgs st) (defBody st) (defScope st) .none kV doc pm an cdv ct) ⟨[], [(a, u)]⟩ = pure [(a, u)] ∧
      bindArgs (PySem.W.fnOf x qual (defArgs st) (defBody st) (defScope st) .none kV doc pm an cdv ct) ⟨[u], []⟩ = pure [(a, u)]) :
    KBinds K fd [a] [a] (fun us ws => us ++ ws) (fun vs zs => vs ++ zs) := by
  obtain ⟨oc, od, kV, doc, pm, an, cdv, ct, osl, rfl, lk, hcd⟩ := F.ex
  refine ⟨fun s us ws _ hl => ?_, fun r1 r2 => r1.append r2⟩
  match us, ws, hl with
  | [], [u], _ => exact .of_eq (h kV doc pm an cdv ct u).1
  | [u], [], _ => exact .of_eq (h kV doc pm an cdv ct u).2
/-! ### the head: the law's promise at the heap behind the top -/
theorem law_goes {P : Program} {w : World} {K : PySem.W.Frag} {mg mb : Str → Option Value} {k : Nat} {fa a : Addr} {fd : FuncData} {x : Str} {sp : Sp} {s₁ : Shared} {vs : List Value} {ns : List Int}
    (inK : K.In s₁.heap) (ng : s₁.heap.Ns mainGlobals mg) (nb : s₁.heap.Ns builtinsNs mb) (nbb : ∀ y : Str, y ≠ "__name__" → mb y = bootBuiltins y) (noLim : s₁.heap.NoLimit) (noGen : s₁.gens = #[])
    (cell : s₁.heap.get? a = some { cls := .type "list", data := .seq vs.toArray }) (nums : IntsAre vs ns) (short : ns.length ≤ sizeLine) (room : Room k callerA)
    (F : ∀ base : Heap, K.In base → base.Ns mainGlobals mg → FnG P w K mg base k fa fd [x] sp) (binds : ∀ (s : Shared) (u : Value), BindsTo s fd ⟨[u], []⟩ [(x, u)])
    (asks : ∀ H : Hp, Only H → SqL K H a (ns.map V.int) → sp [.ref a] H (fun v _ => v = .bl true) fun _ _ _ => False) :
    codeAny (model P w) callerA (.call (.ref fa) ⟨[.ref a], []⟩) (fun r s' => r = .ok (.ret (.bool true)) ∧ PySem.OldK s₁.heap s'.heap ∧ s'.os = s₁.os ∧ AllBare s'.gens) s₁ := by
  have rv := vals_ints nums
  have nLen := nums.length
  -- whatever is tracked is the script alone
  have main : ∀ H : Hp, Only H → SqL K H a (ns.map V.int) → HOk P w H s₁.heap → (∀ b, H b ≠ none → b = a ∧ K.lookup a = none) →
      codeAny (model P w) callerA (.call (.ref fa) ⟨[.ref a], []⟩) (fun r s' => r = .ok (.ret (.bool true)) ∧ PySem.OldK s₁.heap s'.heap ∧ s'.os = s₁.os ∧ AllBare s'.gens) s₁ := by
    intro H only seq ok alone
    have clear : ∀ {b : Addr} {o : Obj}, s₁.heap.get? b = some o → (∀ es ep, o.data = .dict es ep → True) → (∃ es ep, o.data = Data.dict es ep) → H b = none := fun {b o} eo _ hx => by
      obtain ⟨es, ep, hd⟩ := hx
      refine Classical.byContradiction fun z => ?_
      obtain ⟨rfl, _⟩ := alone b z
      rw [cell] at eo
      cases eo
      exact nomatch (show Data.seq vs.toArray _ = Data.dict es ep from hd)
    have nsB : ∀ {b : Addr} {m : Str → Option Value}, s₁.heap.Ns b m → (hidT s₁.heap H).Ns b m := fun {b m} ⟨o, es, ep, e, d, r⟩ => ⟨o, es, ep, hidT_get e (clear e (fun _ _ _ => trivial) ⟨es, ep, d⟩), d, r⟩
    have inB : K.In (hidT s₁.heap H) := fun b o e => hidT_get (inK b o e) (Classical.byContradiction fun z => by
      obtain ⟨rfl, hn⟩ := alone b z
      rw [hn] at e
      cases e)
    have md : Mod K mg (hidT s₁.heap H) := ⟨inB, nsB ng, ⟨mb, nsB nb, nbb⟩, let ⟨mc, h1, h2⟩ := noLim; ⟨mc, nsB h1, h2⟩⟩
    have e0 : Env0 P w K mg (hidT s₁.heap H) callerA [] s₁ H := ⟨rfl, md, fun b o e => of_hidT e, Nat.le_of_eq (hidT_size _ _), trivial, fun b hb => absurd hb List.not_mem_nil, ok, .of_eq noGen⟩
    refine codeAny_mono ((F _ inB (nsB ng)).goes callerA [] s₁ H ⟨[.ref a], []⟩ [.ref a] [.ref a] _ _ rfl room e0 (binds s₁ (.ref a)) (.cons rfl .nil) (asks H only seq)) fun r s' h => ?_
    cases r with
    | error e => exact (show False from h).elim
    | ok fl =>
      cases fl with
      | next => exact (show False from h).elim
      | brk => exact (show False from h).elim
      | cont => exact (show False from h).elim
      | ret u =>
        obtain ⟨v, H', os, bare, un, ok', rr, qv⟩ := h
        cases (show v = .bl true from qv)
        cases (show u = Value.bool true from rr)
        refine ⟨rfl, PySem.OldK.of_keep fun b o e => ?_, os, bare⟩
        cases hb : H b with
        | none => exact un.keep b o e hb (by intro z; exact absurd z List.not_mem_nil) (by simp)
        | some u =>
          rcases only b with z | ⟨ob, xs, z⟩
          · rw [hb] at z
            cases z
          · have e1 := (ok b _ z).1
            have e2 := (ok' b _ (un.frzs b ob _ z)).1
            rw [e] at e1
            cases e1
            exact e2
  cases hk : K.lookup a with
  | some o =>
    have e := inK a o hk
    rw [cell] at e
    cases e
    refine main (fun _ => none) (fun _ => .inl rfl) (.inr ⟨_, vs.toArray, _, hk, rfl, rfl, rfl, ?_, by simpa using rv⟩) (fun b u z => by cases z) (fun b z => absurd rfl z)
    rw [List.size_toArray, nLen]
    exact short
  | none =>
    have at_a : ∀ {b : Addr} {z : HO}, (if b = a then some (HO.frz { cls := .type "list", data := .seq vs.toArray } (.lst (ns.map V.int))) else none) = some z → b = a ∧ z = HO.frz { cls := .type "list", data := .seq vs.toArray } (.lst (ns.map V.int)) := fun {b z} e => by
      by_cases c : b = a
      · rw [if_pos c] at e
        exact ⟨c, (Option.some.inj e).symm⟩
      · rw [if_neg c] at e
        cases e
    refine main (fun b => if b = a then some (.frz { cls := .type "list", data := .seq vs.toArray } (.lst (ns.map V.int))) else none) (fun b => ?_) (.inl (.inr ⟨_, if_pos rfl⟩)) (fun b u z => ?_) (fun b z => ⟨?_, hk⟩)
    · by_cases c : b = a
      · exact .inr ⟨_, _, if_pos c⟩
      · exact .inl (if_neg c)
    · obtain ⟨rfl, rfl⟩ := at_a z
      exact ⟨cell, by rw [List.length_map]; exact short, vs, _, rv, cell⟩
    · by_cases c : b = a
      · exact c
      · exact absurd (if_neg c) z
theorem walkG {l : PySem.W.OpenLaw} {n k : Nat} {q : Program} {loose : List Str} {XP : (Str → Option Value) → Heap → Prop} {YP : World → Heap → Prop} {d : DefRec} {K : Params → PySem.W.Frag} {sp : World → Sp} {x : Str}
    (hn : l.most = some n) (hn2 : n ≤ sizeLine) (hdf : d.params.defaults = []) (room : Room k callerA)
    (hY : ∀ (w : World) (h : Heap), YP w h → (K w.params).In h)
    (F : ∀ (w : World) (mg : Str → Option Value) (fa : Addr) (h : Heap), (K w.params).In h → h.Ns mainGlobals mg → mg d.name = some (.ref fa) →
      ∃ fd : FuncData, (∀ (s : Shared) (u : Value), BindsTo s fd ⟨[u], []⟩ [(x, u)]) ∧
        ∀ base : Heap, (K w.params).In base → base.Ns mainGlobals mg → FnG l.prog w (K w.params) mg base k fa fd [x] (sp w))
    (asks : ∀ (w : World) (H : Hp) (a : Addr) (ns : List Int), ns.length ≤ n → Only H → SqL (K w.params) H a (ns.map V.int) → sp w [.ref a] H (fun v _ => v = .bl true) fun _ _ _ => False) :
    PySem.W.WalkO q loose XP YP l.row.toRowW d [] (fun f vs => PySem.call f vs) := by
  refine Att.attach_call hn hdf fun w _ s₁ mg mb fa _ _ _ _ a vs ns G Y _ _ _ hmg hobj hints hlen hgen => ?_
  have inK := hY w _ Y
  obtain ⟨fd, hb, hF⟩ := F w mg fa _ inK G.T.g hmg
  exact law_goes inK G.T.g G.T.b G.T.builtins G.T.nolimit hgen hobj hints (Nat.le_trans hlen hn2) room hF hb fun H h1 h2 => asks w H a ns hlen h1 h2
end KV

namespace KV
open PySem PySem.Spec PyProof.Rows L2
/-! ### the text -/
def topS (i : Nat) : Stmt := PySem.Challenge.pw_endonce_k06_closed_histories.main.body.getD i (.Pass ⟨0, 0, 0, 0⟩)
abbrev sTake : Stmt := topS 7
section
variable {P : Program} {w : World} {K : PySem.W.Frag} {mg : Str → Option Value} {base : Heap}
/-! ### _law_take -/
def spTake : Sp := fun vs H Q _ => ∃ (b : Addr) (n : Nat) (m : Int), vs = [.ref b, .int m] ∧ 0 < m ∧ m < 2 ^ 20 ∧ BoxAt H b n ∧ n ≤ 2 ^ 40 ∧
  ∀ (r : Int) (H' : Hp), 0 ≤ r → r < m → SameX [b] H H' → BoxAt H' b (n + 1) → Q (.int r) H'
theorem sameB_upd {b : Addr} {H : Hp} {o : HO} : SameX [b] H (upd H b o) := sameX_upd (List.mem_singleton.mpr rfl)
theorem scTake : FnScope ["_law_box_here", "_law_below", "_law_found", "_law_once", "_law_odd", "_law_twice"] ["_law_box_here", "_law_below"] (defScope sTake) :=
  ⟨rfl, rfl, rfl, by decide +kernel, rfl, by decide +kernel, by decide +kernel⟩
theorem ok_take {f : Addr} {fd : FuncData} {k : Nat} (F : Fun K "_law_take" "_law_take" sTake f fd) (mi : mg "int" = none) : FnOk P w K mg base CX0 (k + 1) f fd ["_law_box_here", "_law_below"] spTake := by
  refine F.ok scTake (fun vs H Q E h => ?_) (fun cdv A outer s H vs Q E hr h => ?_)
  · obtain ⟨b, n, m, rfl, _⟩ := h
    rfl
  · obtain ⟨b, n, m, rfl, hm0, hm1, hB, hn, q⟩ := h
    obtain ⟨x, y, c, hb, hy0, hy1, hc0, hc1⟩ := hB
    refine ⟨_, pss_cons (ps_if (pt_cmpR op_gt (pe_ix ix_seq (pv 0) pe_int (fun _ _ => rfl)) pe_int (nomark _))
        (pss_cons (ps_set (i := 2) scTake.nd rfl (.inl rfl) (pe_op op_mod (pe_callTy call_int1 (by rfl) mi PyProof.Rows.boot_int (pa_cons (pe_ix ix_seq (pv 0) pe_int (fun _ _ => rfl)) pa_nil)) (pv 1)))
        (pss_cons (ps_asg (pe_op op_fdiv (pe_ix ix_seq (pv 0) pe_int (fun _ _ => rfl)) (pv 1)) (pg_sub (pv 0) pe_int set_list))
        (pss_one (ps_ret (pv 2))))) pss_nil)
      (pss_cons (ps_asg (pe_op op_add (pe_ix ix_seq (pv 0) pe_int (fun _ _ => rfl)) pe_int) (pg_sub (pv 0) pe_int set_list))
      (pss_cons (ps_set (i := 3) scTake.nd rfl (.inl rfl) (pe_op op_mod (pe_callTy call_int1 (by rfl) mi PyProof.Rows.boot_int (pa_cons (pe_op op_mul
          (pe_op op_add (pe_ix ix_seq (pv 0) pe_int (fun _ _ => rfl)) (pe_op op_mul pe_int (pe_ix ix_seq (pv 0) pe_int (fun _ _ => rfl))))
          (pe_op op_add pe_int (pe_ix ix_seq (pv 0) pe_int (fun _ _ => rfl)))) pa_nil)) pe_int))
      (pss_cons (ps_set (i := 4) scTake.nd rfl (.inl rfl) (pe_op op_add (pe_op op_mod (pe_callTy call_int1 (by rfl) mi PyProof.Rows.boot_int (pa_cons (pv 3) pa_nil)) pe_int) pe_int))
      (pss_cons (ps_set (i := 5) scTake.nd rfl (.inl rfl) (pe_op op_mod (pe_callTy call_int1 (by rfl) mi PyProof.Rows.boot_int (pa_cons (pe_op op_mul
          (pe_op op_add (pe_op op_add (pv 3) (pe_ix ix_seq (pv 0) pe_int (fun _ _ => rfl))) (pe_op op_fdiv (pe_ix ix_seq (pv 0) pe_int (fun _ _ => rfl)) pe_int)) (pv 4)) pa_nil)) pe_int))
      (pss_one (ps_ret (pe_op op_mod (pe_callTy call_int1 (by rfl) mi PyProof.Rows.boot_int (pa_cons (pe_op op_fdiv (pe_op op_mod
          (pe_callTy call_int1 (by rfl) mi PyProof.Rows.boot_int (pa_cons (pe_op op_add (pe_op op_mul (pv 5) pe_int) (pv 3)) pa_nil)) pe_int) pe_int) pa_nil)) (pv 1)))))))), ?_⟩
    refine ⟨_, rfl, .inl ⟨_, _, _, _, rfl, rfl, SqL.of hb, atI_nat (j := 0) rfl, ?_⟩⟩
    refine ⟨_, _, rfl, rfl, _, rfl, ite2 (fun e => ?_) (fun e => ?_)⟩
    · refine ⟨_, rfl, .inl ⟨_, _, _, _, rfl, rfl, SqL.of hb, atI_nat (j := 0) rfl, ?_⟩⟩
      refine .inl ⟨_, rfl, _, rfl, _, _, rfl, rfl, hm0, ?_⟩
      refine ⟨_, rfl, .inl ⟨_, _, _, _, rfl, rfl, SqL.of hb, atI_nat (j := 0) rfl, _, rfl, _, _, rfl, rfl, ⟨hm0, by omega⟩, ?_⟩⟩
      refine ⟨_, rfl, _, _, _, 0, rfl, rfl, hb, rfl, ?_⟩
      refine ⟨_, rfl, ?_⟩
      exact q _ _ (Int.emod_nonneg _ (by omega)) (Int.emod_lt_of_pos _ hm0) sameB_upd ⟨_, y, c, upd_same, hy0, hy1, hc0, by omega⟩
    · -- box[2] = box[2] + 1
      refine ⟨_, rfl, .inl ⟨_, _, _, _, rfl, rfl, SqL.of hb, atI_nat (j := 2) rfl, _, _, rfl, rfl, ?_⟩⟩
      refine ⟨_, rfl, _, _, _, 2, rfl, rfl, hb, rfl, ?_⟩
      have h1 : ∀ (u v z : Int), (upd H b (.lst [.int u, .int v, .int z])) b = some (.lst [.int u, .int v, .int z]) := fun u v z => upd_same
      show tSeq _ _ _ _ (upd H b (.lst [.int x, .int y, .int (c + 1)]))
      -- once
      refine ⟨_, rfl, .inl ⟨_, _, _, _, rfl, rfl, SqL.of (h1 _ _ _), atI_nat (j := 1) rfl, _, rfl, .inl ⟨_, _, _, _, rfl, rfl, SqL.of (h1 _ _ _), atI_nat (j := 2) rfl, _, _, rfl, rfl, .inl ⟨by decide, by decide⟩, _, _, rfl, rfl,
        _, rfl, .inl ⟨_, _, _, _, rfl, rfl, SqL.of (h1 _ _ _), atI_nat (j := 2) rfl, _, _, rfl, rfl, _, _, rfl, rfl, .inr ⟨by omega, by omega⟩, .inl ⟨_, rfl, _, _, rfl, rfl, (by show (0 : Int) < _; decide), ?_⟩⟩⟩⟩⟩
      have o0 : 0 ≤ (y + 48271 * (c + 1)) * (39373 + (c + 1)) % 2147483647 := Int.emod_nonneg _ (by decide)
      have o1 : (y + 48271 * (c + 1)) * (39373 + (c + 1)) % 2147483647 < 2147483647 := Int.emod_lt_of_pos _ (by decide)
      generalize (y + 48271 * (c + 1)) * (39373 + (c + 1)) % 2147483647 = once at o0 o1
      -- odd
      refine ⟨_, rfl, .inl ⟨_, rfl, _, _, rfl, rfl, (by show (0 : Int) < _; decide), _, _, rfl, rfl, ?_⟩⟩
      have d0 : 0 ≤ once % 40009 := Int.emod_nonneg _ (by decide)
      have d1 : once % 40009 < 40009 := Int.emod_lt_of_pos _ (by decide)
      generalize once % 40009 = odd at d0 d1
      -- twice
      refine ⟨_, rfl, _, rfl, .inl ⟨_, _, _, _, rfl, rfl, SqL.of (h1 _ _ _), atI_nat (j := 2) rfl, _, _, rfl, rfl, _, rfl, .inl ⟨_, _, _, _, rfl, rfl, SqL.of (h1 _ _ _), atI_nat (j := 1) rfl, _, _, rfl, rfl, ⟨by decide, by decide⟩, _, _, rfl, rfl,
        _, rfl, _, _, rfl, rfl, .inr ⟨by omega, by omega⟩, .inl ⟨_, rfl, _, _, rfl, rfl, (by show (0 : Int) < _; decide), ?_⟩⟩⟩⟩
      have t0 : 0 ≤ (once + (c + 1) + y / 1000003) * (odd + 7) % 2147483629 := Int.emod_nonneg _ (by decide)
      have t1 : (once + (c + 1) + y / 1000003) * (odd + 7) % 2147483629 < 2147483629 := Int.emod_lt_of_pos _ (by decide)
      generalize (once + (c + 1) + y / 1000003) * (odd + 7) % 2147483629 = twice at t0 t1
      -- the draw
      refine ⟨_, rfl, _, _, rfl, rfl, .inr ⟨by decide, by decide⟩, _, rfl, _, _, rfl, rfl, .inl ⟨_, rfl, _, _, rfl, rfl, (by show (0 : Int) < _; decide), _, _, rfl, rfl, ⟨by decide, by decide⟩, .inl ⟨_, rfl, _, rfl, _, _, rfl, rfl, hm0, ?_⟩⟩⟩
      exact q _ _ (Int.emod_nonneg _ (by omega)) (Int.emod_lt_of_pos _ hm0) sameB_upd ⟨x, y, c + 1, upd_same, hy0, hy1, by omega, by omega⟩
end
end KV

namespace KV
open PySem PySem.Spec PyProof.Rows L2
/-- pairs of two lists of one length -/
inductive All2 {α β : Type} (R : α → β → Prop) : List α → List β → Prop
  | nil : All2 R [] []
  | cons {a : α} {b : β} {as : List α} {bs : List β} : R a b → All2 R as bs → All2 R (a :: as) (b :: bs)
theorem All2.snoc {α β : Type} {R : α → β → Prop} {as : List α} {bs : List β} {a : α} {b : β} (h : All2 R as bs) (k : R a b) : All2 R (as ++ [a]) (bs ++ [b]) := by
  induction h with
  | nil => exact .cons k .nil
  | cons h1 _ ih => exact .cons h1 ih
theorem All2.fn {α β : Type} {f : α → β} : ∀ {as : List α} {bs : List β}, All2 (fun a b => b = f a) as bs → bs = as.map f
  | _, _, .nil => rfl
  | _, _, .cons h1 h2 => by rw [h1, h2.fn]; rfl
theorem SameX.live {B C : List Addr} {H H' : Hp} (h : SameX C H H') (l : Live B H) (k : ∀ b ∈ C, H' b ≠ none) : Live B H' := fun b hb e => by
  by_cases c : b ∈ C
  · exact k b c e
  · cases q : H b with
    | none => exact l b hb q
    | some o => rw [h b o c q] at e; cases e
theorem tYes_ok {σ : L2.St} {H : Hp} {R1 R2 : Hp → Prop} (h : R1 H) : tYes σ H fun b H3 => if b = true then R1 H3 else R2 H3 := by
  show (if true = true then R1 H else R2 H)
  rw [if_pos rfl]
  exact h
/-- walking data -/
def iDat (K : PySem.W.Frag) (B : List Addr) (tl : TE) : TI := fun σ H R => tl σ H fun x H1 => ∃ a xs, x = .ref a ∧ (SqL K (hide B H1) a xs ∨ SqT K (hide B H1) a xs) ∧ ∀ J G, Walk J xs.length G (YAt xs) → (∀ H2, Same (hide B H1) H2 → G H2) → R J H1
theorem pi_dat {X : Cx} {tg l : Expr} {tl : TE} (B : List Addr) (hl : PE X l tl) : PI X tg l (iDat X.K B tl) := by
  refine ⟨fun pins s σ H R I h => ?_⟩
  refine thn (hl.run pins s σ H _ I h) fun v s1 hv => ?_
  obtain ⟨x, H1, I1, r1, a, xs, rfl, hk, q⟩ := hv
  cases r1
  rcases hk with hk | hk
  · have hk1 := (hide_same B H1).seq hk
    obtain ⟨its, rv, p, hz⟩ := I1.list hk1
    refine wpAny_pyIter_list p.isList ?_
    refine ⟨s1.heap.objs.size, [s1.heap.objs.size], _, _, H1, rfl, I1.kept (t' := s1.toks) fun b o e => Heap.get?_push_of_some _ e, turn_list a _, ⟨_, Heap.get?_push_size _ rfl, rfl, rfl⟩, fun b hb => ?_, q _ _ (walk_list (xs := xs)) fun H2 h2 => h2.seq hk⟩
    cases List.mem_singleton.mp hb
    exact I1.fpOk (Nat.le_refl _) (I1.hok.fresh (Nat.le_refl _))
  · have hk1 := same_seqT (hide_same B H1) hk
    obtain ⟨its, rv, p, hz⟩ := I1.tuple hk1
    refine wpAny_pyIter_tuple (show s1.heap.IsTuple a its.toArray from p) ?_
    refine ⟨s1.heap.objs.size, [s1.heap.objs.size], _, _, H1, rfl, I1.kept (t' := s1.toks) fun b o e => Heap.get?_push_of_some _ e, turn_tuple a _, ⟨_, Heap.get?_push_size _ rfl, rfl, rfl⟩, fun b hb => ?_, q _ _ (walk_tup (xs := xs)) fun H2 h2 => same_seqT h2 hk⟩
    cases List.mem_singleton.mp hb
    exact I1.fpOk (Nat.le_refl _) (I1.hok.fresh (Nat.le_refl _))
/-- a comprehension that makes of each part of a sequence a value -/
theorem lc_dp {K : PySem.W.Frag} {J : It} {G : Hp → Prop} {xs : List V} (w : Walk J xs.length G (YAt xs)) {ds : List PyData} {B C : List Addr} {σ : L2.St} {i : Nat} {te : TE} {H1 : Hp} {D : Addr} {Qd : Hp → Prop}
    (hx : DpAll K (hide B H1) xs ds) (hB : Live B H1) (hC : ∀ b ∈ C, b ∈ B) (nD : H1 D = none) (hz : xs.length ≤ 1000) (hG : ∀ H, Same (hide B H1) H → G H)
    (Pb : Nat → Hp → Prop) (s0 : Pb 0 H1) (hSt : ∀ j H o, H D = none ∨ (∃ l, H D = some (.lst l)) → Pb j H → Pb j (upd H D o)) (hLv : ∀ j H, Pb j H → ∀ b ∈ C, H b ≠ none) (R : PyData → PyData → Prop)
    (step : ∀ (j : Nat) (x : V) (d : PyData) (H : Hp) (Q : VK), xs[j]? = some x → ds[j]? = some d → Live (D :: B) H → Pb j H → Dp K (hide (D :: B) H) x d →
      (∀ y H' d', SameX C H H' → R d d' → Dp K (hide (D :: B) H') y d' → Pb (j + 1) H' → Q y H') → te ((wipe σ [i]).set i (some x)) H Q)
    (hd : ∀ H acc ds', SameX (D :: C) H1 H → Live (D :: B) H → Pb xs.length H → H D = some (.lst acc) → DpAll K (hide (D :: B) H) acc ds' → All2 R ds ds' → Qd H) :
    ∃ W : Nat → Nat → Hp → Prop, (∃ m, W 0 m (upd H1 D (.lst []))) ∧ ∀ i' m H, W i' m H →
      (J.stop i' H ∧ Qd H) ∨ (J.go i' H ∧ ∃ Nx : Hp → Prop, (∀ H', Nx H' → ∃ m', m' < m ∧ W (i' + 1) m' H') ∧ ∀ x H', J.yld i' H x H' → gName i x (wipe σ [i]) H' fun σ2 H2 => wipe σ2 [i] = wipe σ [i] ∧ tYes σ2 H2 fun b H3 =>
        if b = true then te σ2 H3 fun y H4 => ∃ acc, H4 D = some (.lst acc) ∧ acc.length < sizeLine ∧ Nx (upd H4 D (.lst (acc ++ [y]))) else Nx H3) := by
  have nB : D ∉ B := hB.new nD
  have nC : D ∉ C := fun z => nB (hC D z)
  have hl := dps_len hx
  refine lc_it w (fun j H => SameX (D :: C) H1 H ∧ Live (D :: B) H ∧ Pb j H ∧ ∃ acc ds', H D = some (.lst acc) ∧ acc.length = j ∧ DpAll K (hide (D :: B) H) acc ds' ∧ All2 R (ds.take j) ds') ?_ (fun j H _ h => hG H ((h.1.enter hC nD).trans (hide_same _ _))) ?_ ?_
  · refine ⟨fun c o n e => ?_, Live.cons hB.upd upd_same, hSt 0 H1 _ (.inl nD) s0, [], [], upd_same, rfl, .nil, .nil⟩
    rw [upd_ne (ne_of_none e nD)]
    exact e
  · rintro j x H H' hj ⟨hs, lv, st, acc, ds', hD, hacc, ha, h2⟩ ⟨rfl, hx1⟩
    obtain ⟨d, hd1, hdp⟩ := dps_get hx hx1
    refine ⟨?_, ?_⟩
    · show wipe ((wipe σ [i]).set i (some x)) [i] = wipe σ [i]
      show ((((σ.set i none)).set i (some x)).set i none) = σ.set i none
      rw [List.set_set, List.set_set]
    · refine tYes_ok ?_
      refine step j x d _ _ hx1 hd1 lv st (dp_same (hs.enter hC nD) hdp) fun y H4 d' s4 r4 dp4 st4 => ?_
      have hD4 : H4 D = some (.lst acc) := s4 D _ nC hD
      refine ⟨acc, hD4, by rw [hacc]; exact small1000 (by omega), ?_, ?_, hSt _ _ _ (.inr ⟨_, hD4⟩) st4, acc ++ [y], ds' ++ [d'], upd_same, by rw [List.length_append, hacc]; rfl, ?_, ?_⟩
      · exact hs.trans ((s4.sub fun b hb => List.mem_cons_of_mem _ hb).trans (sameX_upd List.mem_cons_self))
      · exact Live.upd (s4.live lv (hLv _ _ st4))
      · rw [hide_upd_in List.mem_cons_self]
        exact dps_snoc (dps_same (s4.hide fun b hb => List.mem_cons_of_mem _ (hC b hb)) ha) dp4
      · rw [take_snoc hd1]
        exact h2.snoc r4
  · rintro H ⟨hs, lv, st, acc, ds', hD, hacc, ha, h2⟩
    refine hd H acc ds' hs lv st hD ha ?_
    rw [hl, List.take_length] at h2
    exact h2
/-- the same, any target -/
theorem lc_dg {K : PySem.W.Frag} {J : It} {G : Hp → Prop} {xs : List V} (w : Walk J xs.length G (YAt xs)) {ds : List PyData} {B C : List Addr} {σ : L2.St} {vs : List Nat} {g : TG} {te : TE} {H1 : Hp} {D : Addr} {Qd : Hp → Prop}
    (hx : DpAll K (hide B H1) xs ds) (hB : Live B H1) (hC : ∀ b ∈ C, b ∈ B) (nD : H1 D = none) (hz : xs.length ≤ 1000) (hG : ∀ H, Same (hide B H1) H → G H)
    (Pb : Nat → Hp → Prop) (s0 : Pb 0 H1) (hSt : ∀ j H o, H D = none ∨ (∃ l, H D = some (.lst l)) → Pb j H → Pb j (upd H D o)) (hLv : ∀ j H, Pb j H → ∀ b ∈ C, H b ≠ none) (R : PyData → PyData → Prop)
    (step : ∀ (j : Nat) (x : V) (d : PyData) (H : Hp) (Q : VK), xs[j]? = some x → ds[j]? = some d → Live (D :: B) H → Pb j H → Dp K (hide (D :: B) H) x d →
      (∀ y H' d', SameX C H H' → R d d' → Dp K (hide (D :: B) H') y d' → Pb (j + 1) H' → Q y H') → g x (wipe σ vs) H fun σ2 H2 => wipe σ2 vs = wipe σ vs ∧ te σ2 H2 Q)
    (hd : ∀ H acc ds', SameX (D :: C) H1 H → Live (D :: B) H → Pb xs.length H → H D = some (.lst acc) → DpAll K (hide (D :: B) H) acc ds' → All2 R ds ds' → Qd H) :
    ∃ W : Nat → Nat → Hp → Prop, (∃ m, W 0 m (upd H1 D (.lst []))) ∧ ∀ i' m H, W i' m H →
      (J.stop i' H ∧ Qd H) ∨ (J.go i' H ∧ ∃ Nx : Hp → Prop, (∀ H', Nx H' → ∃ m', m' < m ∧ W (i' + 1) m' H') ∧ ∀ x H', J.yld i' H x H' → g x (wipe σ vs) H' fun σ2 H2 => wipe σ2 vs = wipe σ vs ∧ tYes σ2 H2 fun b H3 =>
        if b = true then te σ2 H3 fun y H4 => ∃ acc, H4 D = some (.lst acc) ∧ acc.length < sizeLine ∧ Nx (upd H4 D (.lst (acc ++ [y]))) else Nx H3) := by
  have nB : D ∉ B := hB.new nD
  have nC : D ∉ C := fun z => nB (hC D z)
  have hl := dps_len hx
  refine lc_it w (fun j H => SameX (D :: C) H1 H ∧ Live (D :: B) H ∧ Pb j H ∧ ∃ acc ds', H D = some (.lst acc) ∧ acc.length = j ∧ DpAll K (hide (D :: B) H) acc ds' ∧ All2 R (ds.take j) ds') ?_ (fun j H _ h => hG H ((h.1.enter hC nD).trans (hide_same _ _))) ?_ ?_
  · refine ⟨fun c o n e => ?_, Live.cons hB.upd upd_same, hSt 0 H1 _ (.inl nD) s0, [], [], upd_same, rfl, .nil, .nil⟩
    rw [upd_ne (ne_of_none e nD)]
    exact e
  · rintro j x H H' hj ⟨hs, lv, st, acc, ds', hD, hacc, ha, h2⟩ ⟨rfl, hx1⟩
    obtain ⟨d, hd1, hdp⟩ := dps_get hx hx1
    have key : ∀ {A : Prop} {R1 R2 : Hp → Prop} {s2 : L2.St} {H2 : Hp}, (A ∧ tYes s2 H2 fun b H3 => if b = true then R1 H3 else R2 H3) = (A ∧ R1 H2) := fun {A R1 R2 s2 H2} => by
      show (A ∧ if true = true then R1 H2 else R2 H2) = (A ∧ R1 H2)
      rw [if_pos rfl]
    simp only [key]
    · refine step j x d _ _ hx1 hd1 lv st (dp_same (hs.enter hC nD) hdp) fun y H4 d' s4 r4 dp4 st4 => ?_
      have hD4 : H4 D = some (.lst acc) := s4 D _ nC hD
      refine ⟨acc, hD4, by rw [hacc]; exact small1000 (by omega), ?_, ?_, hSt _ _ _ (.inr ⟨_, hD4⟩) st4, acc ++ [y], ds' ++ [d'], upd_same, by rw [List.length_append, hacc]; rfl, ?_, ?_⟩
      · exact hs.trans ((s4.sub fun b hb => List.mem_cons_of_mem _ hb).trans (sameX_upd List.mem_cons_self))
      · exact Live.upd (s4.live lv (hLv _ _ st4))
      · rw [hide_upd_in List.mem_cons_self]
        exact dps_snoc (dps_same (s4.hide fun b hb => List.mem_cons_of_mem _ (hC b hb)) ha) dp4
      · rw [take_snoc hd1]
        exact h2.snoc r4
  · rintro H ⟨hs, lv, st, acc, ds', hD, hacc, ha, h2⟩
    refine hd H acc ds' hs lv st hD ha ?_
    rw [hl, List.take_length] at h2
    exact h2
abbrev sIn : Stmt := topS 1
section
variable {P : Program} {w : World} {K : PySem.W.Frag} {mg : Str → Option Value} {base : Heap}
/-! ### in_tuples -/
def spIn (K : PySem.W.Frag) (n : Nat) : Sp := fun vs H Q _ => ∃ (B : List Addr) (v : V) (d : PyData), vs = [v] ∧ Live B H ∧ Dp K (hide B H) v d ∧ okD d n = true ∧
  ∀ (v' : V) (H' : Hp), Same H H' → Dp K (hide B H') v' (tupD d) → Q v' H'
theorem scIn : FnScope ["thing", "part"] ["thing"] (defScope sIn) :=
  ⟨rfl, rfl, rfl, by decide +kernel, rfl, by decide +kernel, by decide +kernel⟩
theorem ok_in {f : Addr} {fd : FuncData} (F : Fun K "in_tuples" "in_tuples" sIn f fd) (bF : Binds K fd ["thing"] []) (mF : mg "in_tuples" = some (.ref f)) (mi : mg "isinstance" = none) (ml : mg "list" = none) (mt : mg "tuple" = none) :
    ∀ n : Nat, FnOk P w K mg base CX0 (n + 1) f fd ["thing"] (spIn K n) := by
  intro n
  induction n with
  | zero =>
    refine F.ok scIn (fun vs H Q E h => ?_) (fun cdv A outer s H vs Q E hr h => ?_)
    · obtain ⟨B, v, d, rfl, _⟩ := h
      rfl
    · obtain ⟨B, v, d, rfl, lv, hd, hok, q⟩ := h
      have ha : isSeq d = false := by
        cases d with
        | list xs => exact nomatch (show (decide (0 < 0) && decide (xs.length ≤ 1000) && okDs xs (0 - 1)) = true by simpa only [okD] using hok)
        | tuple xs => exact nomatch (show (decide (0 < 0) && decide (xs.length ≤ 1000) && okDs xs (0 - 1)) = true by simpa only [okD] using hok)
        | _ => rfl
      refine ⟨_, pss_cons (ps_if (pt_val (pe_callB cr_isSeq (by rfl) mi boot_isinstance (pa_cons (pv 0) (pa_cons (pe_tup (pa_cons (pe_bltn (v := .ty "list") (by rfl) ml (by decide +kernel) rfl) (pa_cons (pe_bltn (v := .ty "tuple") (by rfl) mt (by decide +kernel) rfl) pa_nil))) pa_nil))))
        pss_never pss_nil) (pss_one (ps_ret (pv 0))), ?_⟩
      refine ⟨_, rfl, by show 2 ≤ sizeLine; decide, fun t nt => ⟨_, _, d, rfl, upd_same, dp_same (same_upd nt) (dp_same (hide_same B H) hd), _, rfl, ?_⟩⟩
      rw [ha]
      refine iteF ?_
      refine ⟨_, rfl, q _ _ (same_upd nt) ?_⟩
      rw [tup_atom ha]
      exact dp_same ((SameX.of (same_upd nt)).hide (C := []) fun b hb => absurd hb List.not_mem_nil) hd
  | succ n ih =>
    refine F.ok scIn (fun vs H Q E h => ?_) (fun cdv A outer s H vs Q E hr h => ?_)
    · obtain ⟨B, v, d, rfl, _⟩ := h
      rfl
    · obtain ⟨B, v, d, rfl, lv, hd, hok, q⟩ := h
      refine ⟨_, pss_cons (ps_if (pt_val (pe_callB cr_isSeq (by rfl) mi boot_isinstance (pa_cons (pv 0) (pa_cons (pe_tup (pa_cons (pe_bltn (v := .ty "list") (by rfl) ml (by decide +kernel) rfl) (pa_cons (pe_bltn (v := .ty "tuple") (by rfl) mt (by decide +kernel) rfl) pa_nil))) pa_nil))))
        (pss_one (ps_ret (pe_callTy call_tuple_of (by rfl) mt PyProof.Rows.boot_tuple (pa_cons
          (pe_lc (own := [("part", 1)]) (g := gName 1) (tt := tYes) rfl scIn.nd (pi_dat B (pv 0)) (blkOk_by (N := ["thing", "part"]) (sc := defScope sIn) (by decide +kernel)) (fun _ _ _ _ _ => pg_name (i := 1) scIn.nd rfl (Or.inl rfl)) (fun _ _ _ _ _ => pts_nil)
            (fun _ _ _ _ _ => pe_call ih hr (by rfl) mF F.kp bF .nil pass0 (pa_cons (pv 1) pa_nil))) pa_nil))))
        pss_nil) (pss_one (ps_ret (pv 0))), ?_⟩
      refine ⟨_, rfl, by show 2 ≤ sizeLine; decide, fun t nt => ⟨_, _, d, rfl, upd_same, dp_same (same_upd nt) (dp_same (hide_same B H) hd), _, rfl, ?_⟩⟩
      have s1 : Same H (upd H t (.tup [.ty "list", .ty "tuple"])) := same_upd nt
      have hd1 : Dp K (hide B (upd H t (.tup [.ty "list", .ty "tuple"]))) v d := dp_same ((SameX.of s1).hide (C := []) fun b hb => absurd hb List.not_mem_nil) hd
      have lv1 := lv.same s1
      generalize upd H t (.tup [.ty "list", .ty "tuple"]) = H1 at s1 hd1 lv1
      cases ha : isSeq d with
      | false =>
        refine iteF ⟨_, rfl, q _ _ s1 ?_⟩
        rw [tup_atom ha]
        exact hd1
      | true =>
        refine iteT ?_
        obtain ⟨a, xs, ds, rfl, hk, hall⟩ := dp_seq hd1 ha
        have hkk : d = .list ds ∨ d = .tuple ds := hk.imp And.right And.right
        obtain ⟨m, hm, hlen, hok2⟩ := ok_seq hkk hok
        have em : m = n := by omega
        subst em
        have etup : tupD d = .tuple (ds.map tupD) := by
          rcases hkk with rfl | rfl <;> simp only [tupD, tupDs_map]
        have hl := dps_len hall
        have hkB : SqL K (hide B H1) a xs ∨ SqT K (hide B H1) a xs := hk.imp And.left And.left
        refine ⟨_, rfl, a, xs, rfl, hkB, fun J G wk hG D nD => lc_dp (K := K) wk (ds := ds) (B := B) (C := []) (i := 1) hall lv1 (fun b hb => absurd hb List.not_mem_nil) nD (by omega) hG
            (fun _ _ => True) trivial (fun _ _ _ _ _ => trivial) (fun _ _ _ b hb => absurd hb List.not_mem_nil) (fun e e' => e' = tupD e)
            (fun j x e H2 Q2 _ he lv2 _ hdp2 k2 => ⟨_, rfl, D :: B, x, e, rfl, lv2, hdp2, okDs_get hok2 he, fun y H3 s3 hd3 => k2 y H3 _ (SameX.of s3) rfl hd3 trivial⟩)
            (fun H2 acc ds' s2 lv2 _ hD2 hacc h2 => ⟨_, _, rfl, .inl ⟨SqL.of hD2, fun l nl => q _ _ (fun c o e => ?_) ?_⟩⟩)⟩
        · have e1 := s1 c o e
          have cD : c ≠ D := ne_of_none e1 nD
          have e2 := s2 c o (fun z => (List.mem_cons.mp z).elim cD (fun z => absurd z List.not_mem_nil)) e1
          exact same_upd nl c o e2
        · rw [etup, ← h2.fn, hide_upd (lv2.tail.new nl)]
          exact .tup (SqT.of upd_same) (dps_same (hide_leave.trans (same_upd (by rw [hide_out (lv2.tail.new nl)]; exact nl))) hacc)
end
end KV

namespace KV
open PySem PySem.Spec PyProof.Rows L2
def tNone : TE := fun _ _ _ => False
theorem pe_never {X : Cx} {e : Expr} : PE X e tNone := ⟨fun _ _ _ _ _ _ h => h.elim⟩
theorem nodesDs_app : ∀ (as bs : List PyData), nodesDs (as ++ bs) = nodesDs as + nodesDs bs
  | [], bs => by simp only [List.nil_append, nodesDs, Nat.zero_add]
  | a :: as, bs => by simp only [List.cons_append, nodesDs, nodesDs_app as bs, Nat.add_assoc]
theorem nodes_take {ds : List PyData} {j : Nat} {e : PyData} (h : ds[j]? = some e) : nodesDs (ds.take (j + 1)) = nodesDs (ds.take j) + nodesD e := by
  rw [take_snoc h, nodesDs_app]
  simp only [nodesDs, Nat.add_zero]
theorem nodes_le : ∀ (ds : List PyData) (j : Nat), nodesDs (ds.take j) ≤ nodesDs ds
  | [], j => by rw [List.take_nil]; exact Nat.le_refl _
  | d :: ds, 0 => by simp only [List.take_zero, nodesDs]; exact Nat.zero_le _
  | d :: ds, j + 1 => by
    have h := nodes_le ds j
    simp only [List.take_succ_cons, nodesDs]
    omega
theorem all2_len {α β : Type} {R : α → β → Prop} {as : List α} {bs : List β} (h : All2 R as bs) : as.length = bs.length := by
  induction h with
  | nil => rfl
  | cons _ _ ih => rw [List.length_cons, List.length_cons, ih]
theorem all2_tup {m : Nat} {as bs : List PyData} (h : All2 (fun e e' => tupD e' = tupD e ∧ okD e' m = true) as bs) : bs.map tupD = as.map tupD ∧ okDs bs m = true := by
  induction h with
  | nil => exact ⟨rfl, by simp only [okDs]⟩
  | cons h1 _ ih => exact ⟨by rw [List.map_cons, List.map_cons, h1.1, ih.1], by simp only [okDs, h1.2, ih.2, Bool.and_self]⟩
theorem ok_mk {ds : List PyData} {m : Nat} (h1 : ds.length ≤ 1000) (h2 : okDs ds m = true) : okD (.list ds) (m + 1) = true ∧ okD (.tuple ds) (m + 1) = true := by
  have h : (decide (0 < m + 1) && decide (ds.length ≤ 1000) && okDs ds (m + 1 - 1)) = true := by
    rw [decide_eq_true (Nat.succ_pos m), decide_eq_true h1, Nat.add_sub_cancel, h2]
    rfl
  exact ⟨by simpa only [okD] using h, by simpa only [okD] using h⟩
theorem ok_atom {d : PyData} (h : okD d 0 = true) : isSeq d = false := by
  cases d with
  | list xs => exact nomatch (show (decide (0 < 0) && decide (xs.length ≤ 1000) && okDs xs (0 - 1)) = true by simpa only [okD] using h)
  | tuple xs => exact nomatch (show (decide (0 < 0) && decide (xs.length ≤ 1000) && okDs xs (0 - 1)) = true by simpa only [okD] using h)
  | _ => rfl
theorem hide_of_same {B : List Addr} {H H' : Hp} (h : Same H H') : Same (hide B H) (hide B H') := (SameX.of h).hide (C := []) fun b hb => absurd hb List.not_mem_nil
/-- a new object, told without the hidden ones -/
theorem hide_new {B : List Addr} {H : Hp} {p : Addr} {o : HO} (lv : Live B H) (n : H p = none) : hide B (upd H p o) p = some o := by
  rw [hide_out (lv.new n), upd_same]
theorem hide_grow {B : List Addr} {H : Hp} {p : Addr} {o : HO} (lv : Live B H) (n : H p = none) : Same (hide B H) (hide B (upd H p o)) := hide_of_same (same_upd n)
abbrev sMixed : Stmt := topS 8
abbrev sLists : Stmt := topS 9
section
variable {P : Program} {w : World} {K : PySem.W.Frag} {mg : Str → Option Value} {base : Heap}
/-! ### _law_lists -/
def spLists (K : PySem.W.Frag) (n : Nat) : Sp := fun vs H Q _ => ∃ (B : List Addr) (v : V) (d : PyData), vs = [v] ∧ Live B H ∧ Dp K (hide B H) v d ∧ okD d n = true ∧
  ∀ (v' : V) (H' : Hp), Same H H' → Dp K (hide B H') v' (lstD d) → Q v' H'
theorem scLists : FnScope ["_law_matter", "_law_bit"] ["_law_matter"] (defScope sLists) :=
  ⟨rfl, rfl, rfl, by decide +kernel, rfl, by decide +kernel, by decide +kernel⟩
theorem ok_lists {f : Addr} {fd : FuncData} (F : Fun K "_law_lists" "_law_lists" sLists f fd) (bF : Binds K fd ["_law_matter"] []) (mF : mg "_law_lists" = some (.ref f)) (mi : mg "isinstance" = none) (ml : mg "list" = none) (mt : mg "tuple" = none) :
    ∀ n : Nat, FnOk P w K mg base CX0 (n + 1) f fd ["_law_matter"] (spLists K n) := by
  intro n
  induction n with
  | zero =>
    refine F.ok scLists (fun vs H Q E h => ?_) (fun cdv A outer s H vs Q E hr h => ?_)
    · obtain ⟨B, v, d, rfl, _⟩ := h
      rfl
    · obtain ⟨B, v, d, rfl, lv, hd, hok, q⟩ := h
      have ha := ok_atom hok
      refine ⟨_, pss_one (ps_ret (pe_ifExp (pt_val (pe_callB cr_isSeq (by rfl) mi boot_isinstance (pa_cons (pv 0) (pa_cons (pe_tup (pa_cons (pe_bltn (v := .ty "list") (by rfl) ml (by decide +kernel) rfl) (pa_cons (pe_bltn (v := .ty "tuple") (by rfl) mt (by decide +kernel) rfl) pa_nil))) pa_nil))))
        pe_never (pv 0))), ?_⟩
      refine ⟨_, rfl, by show 2 ≤ sizeLine; decide, fun t nt => ⟨_, _, d, rfl, upd_same, dp_same (same_upd nt) (dp_same (hide_same B H) hd), _, rfl, ?_⟩⟩
      rw [ha]
      refine iteF ⟨_, rfl, q _ _ (same_upd nt) ?_⟩
      rw [lst_atom ha]
      exact dp_same (hide_of_same (same_upd nt)) hd
  | succ n ih =>
    refine F.ok scLists (fun vs H Q E h => ?_) (fun cdv A outer s H vs Q E hr h => ?_)
    · obtain ⟨B, v, d, rfl, _⟩ := h
      rfl
    · obtain ⟨B, v, d, rfl, lv, hd, hok, q⟩ := h
      refine ⟨_, pss_one (ps_ret (pe_ifExp (pt_val (pe_callB cr_isSeq (by rfl) mi boot_isinstance (pa_cons (pv 0) (pa_cons (pe_tup (pa_cons (pe_bltn (v := .ty "list") (by rfl) ml (by decide +kernel) rfl) (pa_cons (pe_bltn (v := .ty "tuple") (by rfl) mt (by decide +kernel) rfl) pa_nil))) pa_nil))))
        (pe_lc (own := [("_law_bit", 1)]) (g := gName 1) (tt := tYes) rfl scLists.nd (pi_dat B (pv 0)) (blkOk_by (N := ["_law_matter", "_law_bit"]) (sc := defScope sLists) (by decide +kernel)) (fun _ _ _ _ _ => pg_name (i := 1) scLists.nd rfl (Or.inl rfl)) (fun _ _ _ _ _ => pts_nil)
            (fun _ _ _ _ _ => pe_call ih hr (by rfl) mF F.kp bF .nil pass0 (pa_cons (pv 1) pa_nil))) (pv 0))), ?_⟩
      refine ⟨_, rfl, by show 2 ≤ sizeLine; decide, fun t nt => ⟨_, _, d, rfl, upd_same, dp_same (same_upd nt) (dp_same (hide_same B H) hd), _, rfl, ?_⟩⟩
      have s1 : Same H (upd H t (.tup [.ty "list", .ty "tuple"])) := same_upd nt
      have hd1 : Dp K (hide B (upd H t (.tup [.ty "list", .ty "tuple"]))) v d := dp_same (hide_of_same s1) hd
      have lv1 := lv.same s1
      generalize upd H t (.tup [.ty "list", .ty "tuple"]) = H1 at s1 hd1 lv1
      cases ha : isSeq d with
      | false =>
        refine iteF ⟨_, rfl, q _ _ s1 ?_⟩
        rw [lst_atom ha]
        exact hd1
      | true =>
        refine iteT ?_
        obtain ⟨a, xs, ds, rfl, hk, hall⟩ := dp_seq hd1 ha
        have hkk : d = .list ds ∨ d = .tuple ds := hk.imp And.right And.right
        obtain ⟨m, hm, hlen, hok2⟩ := ok_seq hkk hok
        have em : m = n := by omega
        subst em
        have elst : lstD d = .list (ds.map lstD) := by
          rcases hkk with rfl | rfl <;> simp only [lstD, lstDs_map]
        have hl := dps_len hall
        have hkB : SqL K (hide B H1) a xs ∨ SqT K (hide B H1) a xs := hk.imp And.left And.left
        refine ⟨_, rfl, a, xs, rfl, hkB, fun J G wk hG D nD => lc_dp (K := K) wk (ds := ds) (B := B) (C := []) (i := 1) hall lv1 (fun b hb => absurd hb List.not_mem_nil) nD (by omega) hG
            (fun _ _ => True) trivial (fun _ _ _ _ _ => trivial) (fun _ _ _ b hb => absurd hb List.not_mem_nil) (fun e e' => e' = lstD e)
            (fun j x e H2 Q2 _ he lv2 _ hdp2 k2 => ⟨_, rfl, D :: B, x, e, rfl, lv2, hdp2, okDs_get hok2 he, fun y H3 s3 hd3 => k2 y H3 _ (SameX.of s3) rfl hd3 trivial⟩)
            (fun H2 acc ds' s2 lv2 _ hD2 hacc h2 => q _ _ (fun c o e => ?_) ?_)⟩
        · have e1 := s1 c o e
          have cD : c ≠ D := ne_of_none e1 nD
          exact s2 c o (fun z => (List.mem_cons.mp z).elim cD (fun z => absurd z List.not_mem_nil)) e1
        · rw [elst, ← h2.fn]
          exact .lst (SqL.of (by rw [hide_out (lv1.new nD)]; exact hD2)) (dps_same hide_leave hacc)
/-! ### _law_mixed -/
def spMixed (K : PySem.W.Frag) (m : Nat) : Sp := fun vs H Q _ => ∃ (B : List Addr) (b : Addr) (n : Nat) (v : V) (d : PyData), vs = [.ref b, v] ∧ b ∈ B ∧ Live B H ∧ BoxAt H b n ∧ n + nodesD d ≤ 2 ^ 40 ∧ Dp K (hide B H) v d ∧ okD d m = true ∧
  ∀ (v' : V) (d' : PyData) (H' : Hp), tupD d' = tupD d → okD d' m = true → SameX [b] H H' → BoxAt H' b (n + nodesD d) → Dp K (hide B H') v' d' → Q v' H'
theorem scMixed : FnScope ["_law_box_here", "_law_matter", "_law_some", "_law_bit"] ["_law_box_here", "_law_matter"] (defScope sMixed) :=
  ⟨rfl, rfl, rfl, by decide +kernel, rfl, by decide +kernel, by decide +kernel⟩
theorem ok_mixed {f fT : Addr} {fd fdT : FuncData} (F : Fun K "_law_mixed" "_law_mixed" sMixed f fd) (bF : Binds K fd ["_law_box_here", "_law_matter"] []) (mF : mg "_law_mixed" = some (.ref f))
    (FT : Fun K "_law_take" "_law_take" sTake fT fdT) (bT : Binds K fdT ["_law_box_here", "_law_below"] []) (mT : mg "_law_take" = some (.ref fT))
    (mn : mg "int" = none) (mi : mg "isinstance" = none) (ml : mg "list" = none) (mt : mg "tuple" = none) :
    ∀ m : Nat, FnOk P w K mg base CX0 (m + 2) f fd ["_law_box_here", "_law_matter"] (spMixed K m) := by
  have GT : FnOk P w K mg base CX0 1 fT fdT ["_law_box_here", "_law_below"] spTake := ok_take FT mn
  intro m
  induction m with
  | zero =>
    refine F.ok scMixed (fun vs H Q E h => ?_) (fun cdv A outer s H vs Q E hr h => ?_)
    · obtain ⟨B, b, n, v, d, rfl, _⟩ := h
      rfl
    · obtain ⟨B, b, n, v, d, rfl, hb, lv, hB, hn, hd, hok, q⟩ := h
      have ha := ok_atom hok
      refine ⟨_, pss_cons (ps_if (pt_not (pt_val (pe_callB cr_isSeq (by rfl) mi boot_isinstance (pa_cons (pv 1) (pa_cons (pe_tup (pa_cons (pe_bltn (v := .ty "list") (by rfl) ml (by decide +kernel) rfl) (pa_cons (pe_bltn (v := .ty "tuple") (by rfl) mt (by decide +kernel) rfl) pa_nil))) pa_nil)))))
        (pss_one (ps_ret (pv 1))) pss_nil) pss_never, ?_⟩
      refine ⟨_, rfl, by show 2 ≤ sizeLine; decide, fun t nt => ⟨_, _, d, rfl, upd_same, dp_same (same_upd nt) (dp_same (hide_same B H) hd), _, rfl, ?_⟩⟩
      rw [ha]
      refine iteT ⟨_, rfl, q _ d _ rfl hok (SameX.of (same_upd nt)) ((hB.same (same_upd nt)).le (Nat.le_add_right _ _)) ?_⟩
      exact dp_same (hide_of_same (same_upd nt)) hd
  | succ m ih =>
    refine F.ok scMixed (fun vs H Q E h => ?_) (fun cdv A outer s H vs Q E hr h => ?_)
    · obtain ⟨B, b, n, v, d, rfl, _⟩ := h
      rfl
    · obtain ⟨B, b, n, v, d, rfl, hb, lv, hB, hn, hd, hok, q⟩ := h
      refine ⟨_, pss_cons (ps_if (pt_not (pt_val (pe_callB cr_isSeq (by rfl) mi boot_isinstance (pa_cons (pv 1) (pa_cons (pe_tup (pa_cons (pe_bltn (v := .ty "list") (by rfl) ml (by decide +kernel) rfl) (pa_cons (pe_bltn (v := .ty "tuple") (by rfl) mt (by decide +kernel) rfl) pa_nil))) pa_nil)))))
        (pss_one (ps_ret (pv 1))) pss_nil)
        (pss_cons (ps_setLc (i := 2) (own := [("_law_bit", 3)]) (g := gName 3) (tt := tYes) rfl scMixed.nd rfl rfl (sw_true rfl rfl rfl (by decide +kernel)) (pi_dat B (pv 1)) (blkOk_by (N := ["_law_box_here", "_law_matter", "_law_some", "_law_bit"]) (sc := defScope sMixed) (by decide +kernel))
          (fun _ _ _ _ _ => pg_name (i := 3) scMixed.nd rfl (Or.inl rfl)) (fun _ _ _ _ _ => pts_nil) (fun _ _ _ _ _ => pe_call ih hr (by rfl) mF F.kp bF .nil pass0 (pa_cons (pv 0) (pa_cons (pv 3) pa_nil))))
        (pss_one (ps_ret (pe_ifExp (pt_cmpR op_eq (pe_call GT (hr.mono (by omega)) (by rfl) mT FT.kp bT .nil pass0 (pa_cons (pv 0) (pa_cons pe_int pa_nil))) pe_int (nomark _)) (pv 2)
          (pe_callTy call_tuple_of (by rfl) mt PyProof.Rows.boot_tuple (pa_cons (pv 2) pa_nil)))))), ?_⟩
      refine ⟨_, rfl, by show 2 ≤ sizeLine; decide, fun t nt => ⟨_, _, d, rfl, upd_same, dp_same (same_upd nt) (dp_same (hide_same B H) hd), _, rfl, ?_⟩⟩
      have s1 : Same H (upd H t (.tup [.ty "list", .ty "tuple"])) := same_upd nt
      have hd1 : Dp K (hide B (upd H t (.tup [.ty "list", .ty "tuple"]))) v d := dp_same (hide_of_same s1) hd
      have lv1 := lv.same s1
      have hB1 := hB.same s1
      generalize upd H t (.tup [.ty "list", .ty "tuple"]) = H1 at s1 hd1 lv1 hB1
      cases ha : isSeq d with
      | false => exact iteT ⟨_, rfl, q _ d _ rfl hok (SameX.of s1) (hB1.le (Nat.le_add_right _ _)) hd1⟩
      | true =>
        refine iteF ?_
        obtain ⟨a, xs, ds, rfl, hk, hall⟩ := dp_seq hd1 ha
        have hkk : d = .list ds ∨ d = .tuple ds := hk.imp And.right And.right
        obtain ⟨m', hm, hlen, hok2⟩ := ok_seq hkk hok
        have em : m' = m := by omega
        subst em
        have enod : nodesD d = nodesDs ds + 1 := by
          rcases hkk with rfl | rfl <;> simp only [nodesD]
        have etup : tupD d = .tuple (ds.map tupD) := by
          rcases hkk with rfl | rfl <;> simp only [tupD, tupDs_map]
        have hl := dps_len hall
        have hkB : SqL K (hide B H1) a xs ∨ SqT K (hide B H1) a xs := hk.imp And.left And.left
        have bne : ∀ {H2 : Hp} {k : Nat}, BoxAt H2 b k → H2 b ≠ none := fun {H2 k} z e => by
          obtain ⟨_, _, _, z1, _⟩ := z
          rw [z1] at e
          cases e
        refine ⟨_, rfl, a, xs, rfl, hkB, fun J G wk hG D nD => lc_dp (K := K) wk (ds := ds) (B := B) (C := [b]) (i := 3) hall lv1 (fun c hc => by rw [List.mem_singleton.mp hc]; exact hb) nD (by omega) hG
            (fun j H2 => BoxAt H2 b (n + nodesDs (ds.take j))) (by simpa only [List.take_zero, nodesDs, Nat.add_zero] using hB1) (fun j H2 o _ z => ?_) (fun j H2 z c hc => by rw [List.mem_singleton.mp hc]; exact bne z) (fun e e' => tupD e' = tupD e ∧ okD e' m' = true)
            (fun j x e H2 Q2 _ he lv2 z hdp2 k2 => ⟨_, rfl, _, rfl, D :: B, b, _, x, e, rfl, List.mem_cons_of_mem _ hb, lv2, z, ?_, hdp2, okDs_get hok2 he, fun y e' H3 et eo s3 hB3 hd3 => k2 y H3 e' s3 ⟨et, eo⟩ hd3 ?_⟩)
            (fun H2 acc ds' s2 lv2 z hD2 hacc h2 => ?_)⟩
        · obtain ⟨x1, y1, c1, z1, z2⟩ := z
          have nbD : b ≠ D := fun e => lv1.new nD (e ▸ hb)
          exact ⟨x1, y1, c1, by rw [upd_ne nbD]; exact z1, z2⟩
        · have h1 := nodes_le ds (j + 1)
          rw [nodes_take he] at h1
          omega
        · rw [nodes_take he, ← Nat.add_assoc]
          exact hB3
        · -- the draw
          have nDB : D ∉ B := lv1.new nD
          have nbD : D ≠ b := fun e => nDB (e ▸ hb)
          rw [hl, List.take_length] at z
          obtain ⟨ht2, hok3⟩ := all2_tup h2
          have hl3 := all2_len h2
          refine ⟨_, rfl, b, _, 2, rfl, by decide, by decide, z, by omega, fun r H3 r0 r1 s3 hB3 => ?_⟩
          have hD3 : H3 D = some (.lst acc) := s3 D _ (fun e => nbD (List.mem_singleton.mp e)) hD2
          have s23 : SameX [b] H H3 := fun c o e1 e2 => by
            have e3 := s1 c o e2
            have cD : c ≠ D := ne_of_none e3 nD
            exact s3 c o e1 (s2 c o (fun z => (List.mem_cons.mp z).elim cD e1) e3)
          have acc3 : DpAll K (hide B H3) acc ds' := dps_same (hide_leave.trans (s3.hide fun c hc => by rw [List.mem_singleton.mp hc]; exact hb)) hacc
          have hB4 : BoxAt H3 b (n + nodesD d) := hB3.le (by omega)
          have lv3 : Live B H3 := s3.live lv2.tail fun c hc => by rw [List.mem_singleton.mp hc]; exact bne hB3
          refine ⟨rfl, _, rfl, ite2 (fun e => ?_) (fun e => ?_)⟩
          · refine ⟨_, rfl, q _ (.list ds') _ ?_ (ok_mk (by omega) hok3).1 s23 hB4 (.lst (SqL.of (by rw [hide_out nDB]; exact hD3)) acc3)⟩
            rw [etup, ← ht2]
            simp only [tupD, tupDs_map]
          · refine ⟨_, rfl, _, _, rfl, .inl ⟨SqL.of hD3, fun l nl => q _ (.tuple ds') _ ?_ (ok_mk (by omega) hok3).2 ?_ (hB4.same (same_upd nl)) (.tup (SqT.of (hide_new lv3 nl)) (dps_same (hide_grow lv3 nl) acc3))⟩⟩
            · rw [etup, ← ht2]
              simp only [tupD, tupDs_map]
            · exact s23.trans (SameX.of (same_upd nl))
end
end KV

namespace KV
open PySem PySem.Spec PyProof.Rows L2 RZ
/-- isinstance(x, T), one built-in class, of data -/
def rIsOne (K : PySem.W.Frag) (n : String) : List V → Hp → VK → Prop := fun vs H Q => ∃ v d, vs = [v, .ty n] ∧ Dp K H v d ∧ ∃ b, kitB (tyD d) n = some b ∧ Q (.bl b) H
theorem cr_isOne {X : Cx} (n : String) : CallR X (.builtin "isinstance") (rIsOne X.K n) := by
  intro pins s σ H vs us Q I r h
  obtain ⟨v, d, rfl, hd, b, hb, q⟩ := h
  exact call_isi pins s σ H _ us Q I r ⟨v, .ty n, _, _, b, rfl, .ty n, dp_ty hd, kit_ty hb, q⟩
theorem kit_bs {K : PySem.W.Frag} {a : String} {r1 r2 : Bool} (h1 : kitB a "bool" = some r1) (h2 : kitB a "str" = some r2) : PySem.W.kitAny K (.type a) [.type "bool", .type "str"] = some (r1 || r2) := by
  cases r1 with
  | true => exact kitAny_cons (kit_ty h1) (fun z => nomatch z) fun _ => rfl
  | false =>
    cases r2 with
    | true => exact kitAny_cons (kit_ty h1) (fun _ => kitAny_cons (kit_ty h2) (fun z => nomatch z) fun _ => rfl) fun z => nomatch z
    | false => exact kitAny_cons (kit_ty h1) (fun _ => kitAny_cons (kit_ty h2) (fun _ => kitAny_nil) fun z => nomatch z) fun z => nomatch z
def isBS : PyData → Bool
  | .bool _ => true
  | .str _ => true
  | _ => false
theorem kit_isBS {K : PySem.W.Frag} : ∀ (d : PyData), PySem.W.kitAny K (.type (tyD d)) [.type "bool", .type "str"] = some (isBS d)
  | .none => kit_bs (a := "NoneType") (r1 := false) (r2 := false) (by decide +kernel) (by decide +kernel)
  | .bool _ => kit_bs (a := "bool") (r1 := true) (r2 := false) (by decide +kernel) (by decide +kernel)
  | .int _ => kit_bs (a := "int") (r1 := false) (r2 := false) (by decide +kernel) (by decide +kernel)
  | .str _ => kit_bs (a := "str") (r1 := false) (r2 := true) (by decide +kernel) (by decide +kernel)
  | .list _ => kit_bs (a := "list") (r1 := false) (r2 := false) (by decide +kernel) (by decide +kernel)
  | .tuple _ => kit_bs (a := "tuple") (r1 := false) (r2 := false) (by decide +kernel) (by decide +kernel)
  | .dict _ => kit_bs (a := "dict") (r1 := false) (r2 := false) (by decide +kernel) (by decide +kernel)
/-- isinstance(x, (bool, str)) of data -/
def rIsBS (K : PySem.W.Frag) : List V → Hp → VK → Prop := fun vs H Q => ∃ v tp d, vs = [v, .ref tp] ∧ H tp = some (.tup [.ty "bool", .ty "str"]) ∧ Dp K H v d ∧ Q (.bl (isBS d)) H
theorem cr_isBS {X : Cx} : CallR X (.builtin "isinstance") (rIsBS X.K) := by
  intro pins s σ H vs us Q I r h
  obtain ⟨v, tp, d, rfl, ht, hd, q⟩ := h
  exact call_isiT pins s σ H _ us Q I r ⟨v, tp, _, _, _, _, rfl, ht, .cons (.ty _) (.cons (.ty _) .nil), dp_ty hd, kit_isBS d, q⟩
theorem walk_zipT {K : PySem.W.Frag} {a b : Addr} {xs ys : List V} {n : Nat} (hn : n = min xs.length ys.length) : Walk (ItzT K a b) n (fun H => SqT K H a xs ∧ SqT K H b ys) (YPair (fun i => xs[i]?) (fun i => ys[i]?)) := by
  subst hn
  refine ⟨fun i _ hi q => ?_, fun _ q => ⟨xs, ys, q.1, q.2, by omega⟩, fun i H v H' _ q y => ?_⟩
  · have h1 : i < xs.length := by omega
    have h2 : i < ys.length := by omega
    exact ⟨xs, ys, xs[i], ys[i], q.1, q.2, by simp [h1], by simp [h2]⟩
  · obtain ⟨T, x, z, h1, h2, h3, h4, h5⟩ := y
    exact ⟨T, x, z, h1, h2, h3, h4 xs q.1, h5 ys q.2⟩
theorem rep_bls (n : Nat) : (List.replicate n true).map V.bl = List.replicate n (.bl true) := by rw [List.map_replicate]
theorem rep_all (n : Nat) : (List.replicate n true).all id = true := by
  rw [List.all_eq_true]
  intro x hx
  exact (List.mem_replicate.mp hx).2
theorem seq_len {K : PySem.W.Frag} {H : Hp} {a : Addr} {xs : List V} (h : SqL K H a xs ∨ SqT K H a xs) : True := trivial
theorem iteD {p A B : Prop} [Decidable p] (h : p) (a : A) : if decide p = true then A else B := by
  rw [decide_eq_true h]
  exact iteT a
theorem iteDN {p A B : Prop} [Decidable p] (h : ¬ p) (b : B) : if decide p = true then A else B := by
  rw [decide_eq_false h]
  exact iteF b
theorem q_true {p : Prop} [Decidable p] {Q : VK} {H : Hp} (h : p) (q : Q (.bl true) H) : Q (.bl (decide p)) H := by
  rw [decide_eq_true h]
  exact q
/-- a comprehension over two sequences of the same data, each pair found the same -/
theorem lc_same {K : PySem.W.Frag} {J : It} {G : Hp → Prop} {xs ys : List V} {n : Nat} (w : Walk J n G (YPair (fun i => xs[i]?) (fun i => ys[i]?))) {ds : List PyData} {σ : L2.St} {vs : List Nat} {te : TE} {H1 : Hp} {D : Addr} {Qd : Hp → Prop}
    (hx : DpAll K H1 xs ds) (hy : DpAll K H1 ys ds) (hn : n = xs.length) (nD : H1 D = none) (hz : n ≤ 1000) (hG : ∀ H, Same H1 H → G H) (hw : ∀ x y : V, wipe (((wipe σ vs).set 3 (some x)).set 4 (some y)) vs = wipe σ vs)
    (step : ∀ (j : Nat) (x y : V) (d : PyData) (H : Hp) (Q : VK), ds[j]? = some d → Dp K H x d → Dp K H y d → (∀ H', Same H H' → Q (.bl true) H') → te (((wipe σ vs).set 3 (some x)).set 4 (some y)) H Q)
    (hd : ∀ H, SameX [D] H1 H → H D = some (.lst ((List.replicate n true).map V.bl)) → Qd H) :
    ∃ W : Nat → Nat → Hp → Prop, (∃ m, W 0 m (upd H1 D (.lst []))) ∧ ∀ i' m H, W i' m H →
      (J.stop i' H ∧ Qd H) ∨ (J.go i' H ∧ ∃ Nx : Hp → Prop, (∀ H', Nx H' → ∃ m', m' < m ∧ W (i' + 1) m' H') ∧ ∀ x H', J.yld i' H x H' → gTup K 2 (gCons (gName 3) (gCons (gName 4) gNil)) x (wipe σ vs) H' fun σ2 H2 => wipe σ2 vs = wipe σ vs ∧ tYes σ2 H2 fun b H3 =>
        if b = true then te σ2 H3 fun y H4 => ∃ acc, H4 D = some (.lst acc) ∧ acc.length < sizeLine ∧ Nx (upd H4 D (.lst (acc ++ [y]))) else Nx H3) := by
  have base : ∀ {H : Hp}, SameX [D] H1 H → Same H1 H := fun {H} h c o e => h c o (fun z => ne_of_none e nD (List.mem_singleton.mp z)) e
  refine lc_it w (fun j H => SameX [D] H1 H ∧ H D = some (.lst ((List.replicate j true).map V.bl))) ⟨fun c o n e => ?_, upd_same⟩ (fun j H _ h => hG H (base h.1)) ?_ (fun H h => hd H h.1 h.2)
  · rw [upd_ne (ne_of_none e nD)]
    exact e
  · rintro j v H H' hj ⟨hs, hD⟩ ⟨T, x, y, rfl, nT, rfl, ex, ey⟩
    have ex : xs[j]? = some x := ex
    have ey : ys[j]? = some y := ey
    obtain ⟨d, ed, dx⟩ := dps_get hx ex
    obtain ⟨d2, ed2, dy⟩ := dps_get hy ey
    have e12 : d2 = d := Option.some.inj (ed2.symm.trans ed)
    subst e12
    have sT := same_upd (o := HO.tup [x, y]) nT
    have s2 := (base hs).trans sT
    refine ⟨T, [x, y], rfl, SqT.of upd_same, rfl, x, [y], rfl, y, [], rfl, rfl, hw x y, tYes_ok (step j x y d2 _ _ ed (dp_same s2 dx) (dp_same s2 dy) fun H4 s4 => ?_)⟩
    have hD4 : H4 D = some (.lst ((List.replicate j true).map V.bl)) := s4 _ _ (sT _ _ hD)
    refine ⟨_, hD4, by rw [List.length_map, List.length_replicate]; exact small1000 (by omega), fun c o nc e => ?_, ?_⟩
    · rw [upd_ne (fun z => nc (List.mem_singleton.mpr z))]
      exact s4 _ _ (sT _ _ (hs c o nc e))
    · rw [upd_same, List.replicate_succ', List.map_append]
      rfl
abbrev sSame : Stmt := topS 10
abbrev sBox : Stmt := topS 11
section
variable {P : Program} {w : World} {K : PySem.W.Frag} {mg : Str → Option Value} {base : Heap}
theorem none_ok {f : Addr} {fd : FuncData} {ps : List Str} {sp : Sp} (no : ∀ vs H Q E, ¬ sp vs H Q E) : FnOk P w K mg base CX0 0 f fd ps sp :=
  ⟨fun vs H Q E h => absurd h (no vs H Q E), fun A outer s H args us vs Q E _ _ _ _ h => absurd h (no vs H Q E)⟩
/-! ### _law_same, of what is the same -/
def spSame (K : PySem.W.Frag) (N : Nat) : Sp := fun vs H Q _ => ∃ (n : Nat) (v u : V) (d : PyData), N = n + 1 ∧ vs = [v, u] ∧ Dp K H v d ∧ Dp K H u d ∧ okD d n = true ∧ ∀ (H' : Hp), Same H H' → Q (.bl true) H'
theorem scSame : FnScope ["_law_found", "_law_due", "_law_alike", "_law_mine", "_law_its"] ["_law_found", "_law_due"] (defScope sSame) :=
  ⟨rfl, rfl, rfl, by decide +kernel, rfl, by decide +kernel, by decide +kernel⟩
theorem ok_same {f : Addr} {fd : FuncData} (F : Fun K "_law_same" "_law_same" sSame f fd) (bF : Binds K fd ["_law_found", "_law_due"] []) (mF : mg "_law_same" = some (.ref f)) (mi : mg "isinstance" = none) (ml : mg "list" = none) (mt : mg "tuple" = none)
    (me : mg "len" = none) (ma : mg "all" = none) (mz : mg "zip" = none) (mb : mg "bool" = none) (ms : mg "str" = none) (mn : mg "int" = none) :
    ∀ N : Nat, FnOk P w K mg base CX0 N f fd ["_law_found", "_law_due"] (spSame K N) := by
  intro N
  induction N with
  | zero =>
    refine none_ok fun vs H Q E h => ?_
    obtain ⟨n, _, _, _, h, _⟩ := h
    omega
  | succ N ih =>
    refine F.ok scSame (fun vs H Q E h => ?_) (fun cdv A outer s H vs Q E hr h => ?_)
    · obtain ⟨n, v, u, d, _, rfl, _⟩ := h
      rfl
    · obtain ⟨n, v, u, d, hN, rfl, hv, hu, hok, q⟩ := h
      have eN : N = n := by omega
      subst eN
      refine ⟨_, pss_cons (ps_if (pt_val (pe_callB cr_isSeq (by rfl) mi boot_isinstance (pa_cons (pv 1) (pa_cons (pe_tup (pa_cons (pe_bltn (v := .ty "list") (by rfl) ml (by decide +kernel) rfl) (pa_cons (pe_bltn (v := .ty "tuple") (by rfl) mt (by decide +kernel) rfl) pa_nil))) pa_nil))))
          (pss_cons (ps_if (PW.pt (pw_or (pt_cmpR op_ne (pe_callB (cr_isOne "list") (by rfl) mi boot_isinstance (pa_cons (pv 0) (pa_cons (pe_bltn (v := .ty "list") (by rfl) ml (by decide +kernel) rfl) pa_nil))) (pe_callB (cr_isOne "list") (by rfl) mi boot_isinstance (pa_cons (pv 1) (pa_cons (pe_bltn (v := .ty "list") (by rfl) ml (by decide +kernel) rfl) pa_nil))) (nomark _))
              (pw_or1 (pt_cmpR op_ne (pe_callB (cr_isOne "tuple") (by rfl) mi boot_isinstance (pa_cons (pv 0) (pa_cons (pe_bltn (v := .ty "tuple") (by rfl) mt (by decide +kernel) rfl) pa_nil))) (pe_callB (cr_isOne "tuple") (by rfl) mi boot_isinstance (pa_cons (pv 1) (pa_cons (pe_bltn (v := .ty "tuple") (by rfl) mt (by decide +kernel) rfl) pa_nil))) (nomark _)))))
            (pss_one (ps_ret pe_bl)) pss_nil)
          (pss_one (ps_ret (pe_and (pe_cmpR op_eq (pe_callB call_len_seq (by rfl) me PySem.boot_len (pa_cons (pv 0) pa_nil)) (pe_callB call_len_seq (by rfl) me PySem.boot_len (pa_cons (pv 1) pa_nil)) (nomark _))
            (pe_one (pe_callB (cr_all rfl) (by rfl) ma boot_all (pa_cons
              (pe_lc (own := [("_law_mine", 3), ("_law_its", 4)]) (g := gTup K 2 (gCons (gName 3) (gCons (gName 4) gNil))) (tt := tYes) rfl scSame.nd (pi_zipA (by rfl) mz (pa_cons (pv 0) (pa_cons (pv 1) pa_nil)))
                (blkOk_by (N := ["_law_found", "_law_due", "_law_alike", "_law_mine", "_law_its"]) (sc := defScope sSame) (by decide +kernel))
                (fun _ _ _ _ _ => pg_tup rfl (pgs_cons (pg_name (i := 3) scSame.nd rfl (.inl rfl)) (pgs_cons (pg_name (i := 4) scSame.nd rfl (.inl rfl)) pgs_nil))) (fun _ _ _ _ _ => pts_nil)
                (fun _ _ _ _ _ => pe_call ih hr (by rfl) mF F.kp bF .nil pass0 (pa_cons (pv 3) (pa_cons (pv 4) pa_nil)))) pa_nil))))))) pss_nil)
        (pss_cons (ps_if (PW.pt (pw_or (pt_cmpR op_isN (pv 1) pe_non (nomark _)) (pw_or1 (pt_val (pe_callB cr_isBS (by rfl) mi boot_isinstance (pa_cons (pv 1) (pa_cons (pe_tup (pa_cons (pe_bltn (v := .ty "bool") (by rfl) mb (by decide +kernel) rfl) (pa_cons (pe_bltn (v := .ty "str") (by rfl) ms (by decide +kernel) rfl) pa_nil))) pa_nil)))))))
          (pss_cons (ps_set (i := 2) scSame.nd rfl (.inl rfl) (pe_and
              (pe_cmpR op_eq (pe_callB (cr_isOne "bool") (by rfl) mi boot_isinstance (pa_cons (pv 0) (pa_cons (pe_bltn (v := .ty "bool") (by rfl) mb (by decide +kernel) rfl) pa_nil))) (pe_callB (cr_isOne "bool") (by rfl) mi boot_isinstance (pa_cons (pv 1) (pa_cons (pe_bltn (v := .ty "bool") (by rfl) mb (by decide +kernel) rfl) pa_nil))) (nomark _))
              (pe_one (pe_cmpR op_eq (pe_cmpR op_isN (pv 0) pe_non (nomark _)) (pe_cmpR op_isN (pv 1) pe_non (nomark _)) (nomark _)))))
            (pss_one (ps_ret (pe_and (pe_cmpR op_eq (pv 0) (pv 1) (nomark _)) (pe_one (pv 2))))))
          pss_nil)
        (pss_one (ps_ret (pe_and (pe_callB (cr_isOne "int") (by rfl) mi boot_isinstance (pa_cons (pv 0) (pa_cons (pe_bltn (v := .ty "int") (by rfl) mn (by decide +kernel) rfl) pa_nil)))
          (pe_and (pe_not (pe_callB (cr_isOne "bool") (by rfl) mi boot_isinstance (pa_cons (pv 0) (pa_cons (pe_bltn (v := .ty "bool") (by rfl) mb (by decide +kernel) rfl) pa_nil))))
          (pe_one (pe_cmpR op_eq (pv 0) (pv 1) (nomark _)))))))), ?_⟩
      refine ⟨_, rfl, by show 2 ≤ sizeLine; decide, fun t nt => ⟨_, _, d, rfl, upd_same, dp_same (same_upd nt) hu, _, rfl, ?_⟩⟩
      have s1 : Same H (upd H t (.tup [.ty "list", .ty "tuple"])) := same_upd nt
      replace hv := dp_same s1 hv
      replace hu := dp_same s1 hu
      generalize upd H t (.tup [.ty "list", .ty "tuple"]) = H1 at s1 hv hu
      cases hv with
      | non =>
        cases hu
        have hv : ∀ {H2 : Hp}, Dp K H2 .non .none := .non
        refine iteF ⟨_, rfl, rfl, _, rfl, iteD rfl (iteT ?_)⟩
        refine ⟨_, rfl, ⟨_, _, rfl, hv, false, (show kitB "NoneType" "bool" = some false by decide +kernel), _, rfl, ⟨_, _, rfl, hv, false, (show kitB "NoneType" "bool" = some false by decide +kernel), rfl, _, rfl, iteD rfl ?_⟩⟩⟩
        refine ⟨_, rfl, rfl, _, rfl, rfl, rfl, ?_⟩
        exact ⟨_, rfl, _, rfl, rfl, _, rfl, iteD rfl ⟨_, rfl, q_true rfl (q _ s1)⟩⟩
      | bl c =>
        cases hu
        have hv : ∀ {H2 : Hp}, Dp K H2 (.bl c) (.bool c) := .bl c
        refine iteF ⟨_, rfl, rfl, _, rfl, iteDN (fun z => nomatch z) ?_⟩
        refine ⟨_, rfl, by show 2 ≤ sizeLine; decide, fun t2 nt2 => ⟨_, _, _, rfl, upd_same, hv, _, rfl, iteT ?_⟩⟩
        refine ⟨_, rfl, ⟨_, _, rfl, hv, true, (show kitB "bool" "bool" = some true by decide +kernel), _, rfl, ⟨_, _, rfl, hv, true, (show kitB "bool" "bool" = some true by decide +kernel), rfl, _, rfl, iteD rfl ?_⟩⟩⟩
        refine ⟨_, rfl, rfl, _, rfl, rfl, rfl, ?_⟩
        exact ⟨_, rfl, _, rfl, rfl, _, rfl, iteD rfl ⟨_, rfl, q_true rfl (q _ (s1.trans (same_upd nt2)))⟩⟩
      | int c =>
        cases hu
        have hv : ∀ {H2 : Hp}, Dp K H2 (.int c) (.int c) := .int c
        refine iteF ⟨_, rfl, rfl, _, rfl, iteDN (fun z => nomatch z) ?_⟩
        refine ⟨_, rfl, by show 2 ≤ sizeLine; decide, fun t2 nt2 => ⟨_, _, _, rfl, upd_same, hv, _, rfl, iteF ?_⟩⟩
        refine ⟨_, rfl, ⟨_, _, rfl, hv, true, (show kitB "int" "int" = some true by decide +kernel), _, rfl, iteT ⟨_, rfl, ⟨_, _, rfl, hv, false, (show kitB "int" "bool" = some false by decide +kernel), _, rfl, _, rfl, iteT ⟨_, rfl, _, rfl, rfl, q_true rfl (q _ (s1.trans (same_upd nt2)))⟩⟩⟩⟩⟩
      | str c =>
        cases hu
        have hv : ∀ {H2 : Hp}, Dp K H2 (.str c) (.str c) := .str c
        refine iteF ⟨_, rfl, rfl, _, rfl, iteDN (fun z => nomatch z) ?_⟩
        refine ⟨_, rfl, by show 2 ≤ sizeLine; decide, fun t2 nt2 => ⟨_, _, _, rfl, upd_same, hv, _, rfl, iteT ?_⟩⟩
        refine ⟨_, rfl, ⟨_, _, rfl, hv, false, (show kitB "str" "bool" = some false by decide +kernel), _, rfl, ⟨_, _, rfl, hv, false, (show kitB "str" "bool" = some false by decide +kernel), rfl, _, rfl, iteD rfl ?_⟩⟩⟩
        refine ⟨_, rfl, rfl, _, rfl, rfl, rfl, ?_⟩
        exact ⟨_, rfl, _, rfl, rfl, _, rfl, iteD rfl ⟨_, rfl, q_true rfl (q _ (s1.trans (same_upd nt2)))⟩⟩
      | lst h1 h2 =>
        rename_i a xs ds
        cases hu with
        | lst g1 g2 =>
        rename_i a' ys
        obtain ⟨m, hm, hlen, hok2⟩ := ok_seq (xs := ds) (.inl rfl) hok
        have l1 := dps_len h2
        have l2 := dps_len g2
        have hv : Dp K H1 (.ref a) _ := .lst h1 h2
        have hu : Dp K H1 (.ref a') _ := .lst g1 g2
        refine iteT ⟨_, rfl, ⟨_, _, rfl, hv, true, (show kitB "list" "list" = some true by decide +kernel), _, rfl, ⟨_, _, rfl, hu, true, (show kitB "list" "list" = some true by decide +kernel), rfl, _, rfl, iteNS rfl ?_⟩⟩⟩
        refine ⟨_, rfl, ⟨_, _, rfl, hv, false, (show kitB "list" "tuple" = some false by decide +kernel), _, rfl, ⟨_, _, rfl, hu, false, (show kitB "list" "tuple" = some false by decide +kernel), rfl, _, rfl, iteNS rfl ?_⟩⟩⟩
        refine ⟨_, rfl, _, xs, rfl, .inl h1, _, rfl, _, ys, rfl, .inl g1, rfl, _, rfl, iteD (by rw [l1, l2]) ?_⟩
        refine ⟨_, rfl, _, rfl, a, a', xs, ys, rfl, .inl ⟨h1, g1, fun D nD => lc_same (walk_zip (n := xs.length) (by omega)) h2 g2 rfl nD (by omega) (fun H2 s2 => ⟨Same.seq s2 h1, Same.seq s2 g1⟩) (fun _ _ => rfl)
          (fun j x y e H2 Q2 he dx dy k2 => ⟨_, rfl, _, rfl, m, x, y, e, by omega, rfl, dx, dy, okDs_get hok2 he, k2⟩) fun H2 s2 hD2 => ⟨D, List.replicate xs.length true, rfl, SqL.of hD2, ?_⟩⟩⟩
        rw [rep_all]
        exact q _ (s1.trans fun c o e => s2 c o (fun z => ne_of_none e nD (List.mem_singleton.mp z)) e)
      | tup h1 h2 =>
        rename_i a xs ds
        cases hu with
        | tup g1 g2 =>
        rename_i a' ys
        obtain ⟨m, hm, hlen, hok2⟩ := ok_seq (xs := ds) (.inr rfl) hok
        have l1 := dps_len h2
        have l2 := dps_len g2
        have hv : Dp K H1 (.ref a) _ := .tup h1 h2
        have hu : Dp K H1 (.ref a') _ := .tup g1 g2
        refine iteT ⟨_, rfl, ⟨_, _, rfl, hv, false, (show kitB "tuple" "list" = some false by decide +kernel), _, rfl, ⟨_, _, rfl, hu, false, (show kitB "tuple" "list" = some false by decide +kernel), rfl, _, rfl, iteNS rfl ?_⟩⟩⟩
        refine ⟨_, rfl, ⟨_, _, rfl, hv, true, (show kitB "tuple" "tuple" = some true by decide +kernel), _, rfl, ⟨_, _, rfl, hu, true, (show kitB "tuple" "tuple" = some true by decide +kernel), rfl, _, rfl, iteNS rfl ?_⟩⟩⟩
        refine ⟨_, rfl, _, xs, rfl, .inr h1, _, rfl, _, ys, rfl, .inr g1, rfl, _, rfl, iteD (by rw [l1, l2]) ?_⟩
        refine ⟨_, rfl, _, rfl, a, a', xs, ys, rfl, .inr ⟨h1, g1, fun D nD => lc_same (walk_zipT (n := xs.length) (by omega)) h2 g2 rfl nD (by omega) (fun H2 s2 => ⟨same_seqT s2 h1, same_seqT s2 g1⟩) (fun _ _ => rfl)
          (fun j x y e H2 Q2 he dx dy k2 => ⟨_, rfl, _, rfl, m, x, y, e, by omega, rfl, dx, dy, okDs_get hok2 he, k2⟩) fun H2 s2 hD2 => ⟨D, List.replicate xs.length true, rfl, SqL.of hD2, ?_⟩⟩⟩
        rw [rep_all]
        exact q _ (s1.trans fun c o e => s2 c o (fun z => ne_of_none e nD (List.mem_singleton.mp z)) e)
end
end KV

namespace KV
open PySem PySem.Spec PyProof.Rows L2 RZ
abbrev sEmpty : Stmt := topS 5
abbrev sClosed : Stmt := topS 4
abbrev sScript : Stmt := topS 3
section
variable {P : Program} {w : World} {K : PySem.W.Frag} {mg : Str → Option Value} {base : Heap}
/-! ### _law_box -/
def spBox (K : PySem.W.Frag) : Sp := fun vs H Q _ => ∃ (a : Addr) (ns : List Int) (k : Nat), vs = [.ref a, .int k] ∧ SqL K H a (ns.map V.int) ∧ k < 10 ∧ ns.length ≤ 63 ∧
  ∀ (p : Addr) (H' : Hp), Same H H' → H p = none → BoxAt H' p 0 → Q (.ref p) H'
theorem scBox : FnScope ["_law_script", "_law_k", "_law_cell"] ["_law_script", "_law_k"] (defScope sBox) :=
  ⟨rfl, rfl, rfl, by decide +kernel, rfl, by decide +kernel, by decide +kernel⟩
theorem ok_box {f : Addr} {fd : FuncData} {k : Nat} (F : Fun K "_law_box" "_law_box" sBox f fd) (mi : mg "int" = none) (me : mg "len" = none) (mb : mg "abs" = none) : FnOk P w K mg base CX0 (k + 1) f fd ["_law_script", "_law_k"] (spBox K) := by
  refine F.ok scBox (fun vs H Q E h => ?_) (fun cdv A outer s H vs Q E hr h => ?_)
  · obtain ⟨a, ns, k, rfl, _⟩ := h
    rfl
  · obtain ⟨a, ns, k, rfl, hS, hk, hl, q⟩ := h
    refine ⟨_, pss_cons (ps_set (i := 2) scBox.nd rfl (.inl rfl) (pe_ifExp (pt_cmpR op_lt (pv 1) (pe_callB call_len_seq (by rfl) me PySem.boot_len (pa_cons (pv 0) pa_nil)) (nomark _)) (pe_ix ix_seq (pv 0) (pv 1) (fun _ _ => rfl)) pe_int))
      (pss_one (ps_ret (pe_lst (pa_cons (pe_op op_mul (pe_callB call_abs (by rfl) mb boot_abs (pa_cons (pv 2) pa_nil)) (pe_callTy call_int1 (by rfl) mi PyProof.Rows.boot_int (pa_cons (pe_cmpR op_ge (pe_callB call_abs (by rfl) mb boot_abs (pa_cons (pv 2) pa_nil)) (pe_op op_pow pe_int pe_int) (nomark _)) pa_nil)))
        (pa_cons (pe_op op_add (pe_op op_add (pe_op op_mod (pe_callTy call_int1 (by rfl) mi PyProof.Rows.boot_int (pa_cons (pv 2) pa_nil)) pe_int) (pe_op op_mul pe_int (pv 1))) pe_int) (pa_cons pe_int pa_nil)))))), ?_⟩
    -- the cell
    refine ⟨_, rfl, _, rfl, a, _, rfl, .inl hS, _, _, rfl, rfl, _, rfl, ite2 (fun e => ?_) (fun e => ?_)⟩
    · have e1 : k < ns.length := by
        have e2 := of_decide_eq_true e
        rw [List.length_map] at e2
        omega
      refine ⟨_, rfl, _, rfl, .inl ⟨a, _, k, .int ns[k], rfl, rfl, hS, atI_nat (by rw [List.getElem?_map, List.getElem?_eq_getElem e1]; rfl), ?_⟩⟩
      generalize ns[k] = c
      refine ⟨_, rfl, _, rfl, _, rfl, _, rfl, _, _, rfl, rfl, ⟨by decide, by decide, by decide⟩, _, _, rfl, rfl, .inr ⟨_, rfl, _, _, rfl, rfl, .inr ?_, _, rfl, .inl ⟨_, rfl, _, _, rfl, rfl, (by show (0 : Int) < _; decide), _, rfl, _, _, rfl, rfl, .inl ⟨by decide, by decide⟩, _, _, rfl, rfl, _, _, rfl, rfl, by show 3 ≤ sizeLine; decide, fun p np => q p _ (same_upd np) np ⟨_, _, _, upd_same, ?_, ?_, by decide, by decide⟩⟩⟩⟩
      · cases decide ((10 : Int) ^ (18 : Int).toNat ≤ if c < 0 then -c else c) <;> exact ⟨by decide, by decide⟩
      · have h1 : 0 ≤ c % 2305843009213693951 := Int.emod_nonneg _ (by decide)
        omega
      · have h2 : c % 2305843009213693951 < 2305843009213693951 := Int.emod_lt_of_pos _ (by decide)
        omega
    · refine ?_
      have c : Int := 0
      refine ⟨_, rfl, _, rfl, _, rfl, _, rfl, _, _, rfl, rfl, ⟨by decide, by decide, by decide⟩, _, _, rfl, rfl, .inr ⟨_, rfl, _, _, rfl, rfl, .inr ?_, _, rfl, .inl ⟨_, rfl, _, _, rfl, rfl, (by show (0 : Int) < _; decide), _, rfl, _, _, rfl, rfl, .inl ⟨by decide, by decide⟩, _, _, rfl, rfl, _, _, rfl, rfl, by show 3 ≤ sizeLine; decide, fun p np => q p _ (same_upd np) np ⟨_, _, _, upd_same, ?_, ?_, by decide, by decide⟩⟩⟩⟩
      · cases decide ((10 : Int) ^ (18 : Int).toNat ≤ if c < 0 then -c else c) <;> exact ⟨by decide, by decide⟩
      · have h1 : 0 ≤ c % 2305843009213693951 := Int.emod_nonneg _ (by decide)
        omega
      · have h2 : c % 2305843009213693951 < 2305843009213693951 := Int.emod_lt_of_pos _ (by decide)
        omega
end
end KV

namespace KV
open PySem PySem.Spec PyProof.Rows L2 RZ
/-! ### what reads so, lists for tuples -/
/-- v reads as e, but for lists in the place of tuples -/
def VT (K : PySem.W.Frag) (H : Hp) (v : V) (e : PyData) : Prop := ∃ d, Dp K H v d ∧ tupD d = e
theorem VT.same {K : PySem.W.Frag} {H H' : Hp} {v : V} {e : PyData} (h : VT K H v e) (s : Same H H') : VT K H' v e := by
  obtain ⟨d, h1, h2⟩ := h
  exact ⟨d, dp_same s h1, h2⟩
theorem tup_inv {d : PyData} {es : List PyData} (h : tupD d = .tuple es) : ∃ ds, (d = .list ds ∨ d = .tuple ds) ∧ ds.map tupD = es := by
  cases d with
  | list xs =>
    simp only [tupD, PyData.tuple.injEq, tupDs_map] at h
    exact ⟨xs, .inl rfl, h⟩
  | tuple xs =>
    simp only [tupD, PyData.tuple.injEq, tupDs_map] at h
    exact ⟨xs, .inr rfl, h⟩
  | none => simp [tupD] at h
  | bool b => simp [tupD] at h
  | int i => simp [tupD] at h
  | str s => simp [tupD] at h
  | dict k => simp [tupD] at h
theorem VT.seq {K : PySem.W.Frag} {H : Hp} {v : V} {es : List PyData} (h : VT K H v (.tuple es)) : ∃ a xs, v = .ref a ∧ (SqL K H a xs ∨ SqT K H a xs) ∧ xs.length = es.length ∧ ∀ (i : Nat) (e : PyData), es[i]? = some e → ∃ x, xs[i]? = some x ∧ VT K H x e := by
  obtain ⟨d, h1, h2⟩ := h
  obtain ⟨ds, hk, hm⟩ := tup_inv h2
  have hs : isSeq d = true := by rcases hk with rfl | rfl <;> rfl
  obtain ⟨a, xs, ds', rfl, hq, hall⟩ := dp_seq h1 hs
  have e1 : ds' = ds := by
    rcases hk with rfl | rfl <;> rcases hq with ⟨_, e⟩ | ⟨_, e⟩ <;> cases e <;> rfl
  subst e1
  refine ⟨a, xs, rfl, hq.imp And.left And.left, by rw [← hm, List.length_map, dps_len hall], fun i e he => ?_⟩
  rw [← hm, List.getElem?_map, Option.map_eq_some_iff] at he
  obtain ⟨d', he, rfl⟩ := he
  obtain ⟨x, hx, hd⟩ := dps_get' hall he
  exact ⟨x, hx, d', hd, rfl⟩
theorem VT.str {K : PySem.W.Frag} {H : Hp} {v : V} {s : Str} (h : VT K H v (.str s)) : v = .str s := by
  obtain ⟨d, h1, h2⟩ := h
  cases d with
  | str x =>
    simp only [tupD, PyData.str.injEq] at h2
    subst h2
    cases h1
    rfl
  | list xs => simp [tupD] at h2
  | tuple xs => simp [tupD] at h2
  | none => simp [tupD] at h2
  | bool b => simp [tupD] at h2
  | int i => simp [tupD] at h2
  | dict k => simp [tupD] at h2
theorem ix_vt {K : PySem.W.Frag} {H : Hp} {a : Addr} {xs : List V} {i : Nat} {v : V} {Q : VK} (h : SqL K H a xs ∨ SqT K H a xs) (e : xs[i]? = some v) (q : Q v H) : rIx K (.ref a) (.int i) H Q := by
  rcases h with h | h
  · exact .inl ⟨a, xs, i, v, rfl, rfl, h, atI_nat e, q⟩
  · exact .inr (.inl ⟨a, xs, i, v, rfl, rfl, h, atI_nat e, q⟩)
/-! ### pairs of a history -/
/-- a pair: the event's word, its other parts, what it is told (none: None) -/
structure Pr where
  word : Str
  rest : List PyData
  told : Option (List PyData)
def toldD : Option (List PyData) → PyData
  | none => .none
  | some t => .tuple t
def evD (p : Pr) : PyData := .tuple (.str p.word :: p.rest)
def prD (p : Pr) : PyData := .tuple [evD p, toldD p.told]
def histD (ps : List Pr) : PyData := .tuple (ps.map prD)
/-- a reap is told something or nothing, never None -/
def Pr.fit (p : Pr) : Prop := p.word = "reap" → p.told ≠ none
/-- a reap that tells nothing -/
def noneTold : Option (List PyData) → Bool
  | some [] => true
  | _ => false
def isER (p : Pr) : Bool := decide (p.word = "reap") && noneTold p.told
def backP (ps : List Pr) : Nat → Bool
  | 0 => false
  | j + 1 => match ps[j]? with
    | none => false
    | some p => if p.word = "reap" ∧ isER p = false then backP ps j else decide (p.word = "quiet")
def closedP (ps : List Pr) : Bool := match ps.length with
  | 0 => false
  | n + 1 => match ps[n]? with
    | none => false
    | some p => isER p && backP ps n
theorem closed_at {ps : List Pr} {n : Nat} {p : Pr} (h : ps.length = n + 1) (e : ps[n]? = some p) : closedP ps = (isER p && backP ps n) := by
  unfold closedP
  rw [h]
  simp only [e]
section
variable {P : Program} {w : World} {K : PySem.W.Frag} {mg : Str → Option Value} {base : Heap}
/-! ### is_empty_reap -/
def spEmpty (K : PySem.W.Frag) : Sp := fun vs H Q _ => ∃ (v : V) (p : Pr), vs = [v] ∧ VT K H v (prD p) ∧ p.fit ∧ Q (.bl (isER p)) H
theorem scEmpty : FnScope ["pair", "event", "told"] ["pair"] (defScope sEmpty) :=
  ⟨rfl, rfl, rfl, by decide +kernel, rfl, by decide +kernel, by decide +kernel⟩
theorem ok_empty {f : Addr} {fd : FuncData} {k : Nat} (F : Fun K "is_empty_reap" "is_empty_reap" sEmpty f fd) (me : mg "len" = none) : FnOk P w K mg base CX0 (k + 1) f fd ["pair"] (spEmpty K) := by
  refine F.ok scEmpty (fun vs H Q E h => ?_) (fun cdv A outer s H vs Q E hr h => ?_)
  · obtain ⟨v, p, rfl, _⟩ := h
    rfl
  · obtain ⟨v, p, rfl, hv, hf, q⟩ := h
    obtain ⟨a, xs, rfl, hs, hl, hx⟩ := VT.seq (es := [evD p, toldD p.told]) hv
    obtain ⟨x0, e0, v0⟩ := hx 0 _ rfl
    obtain ⟨x1, e1, v1⟩ := hx 1 _ rfl
    obtain ⟨b, ys, rfl, bs, bl, by'⟩ := VT.seq (es := .str p.word :: p.rest) v0
    obtain ⟨y0, f0, w0⟩ := by' 0 _ rfl
    obtain rfl := VT.str w0
    have exs : xs = [.ref b, x1] := by
      match xs, hl, e0, e1 with
      | [z0, z1], _, e0, e1 =>
        cases e0
        cases e1
        rfl
    subst exs
    refine ⟨_, pss_cons (ps_asg (pv 0) (pg_seq rfl (pgs_cons (pg_name (i := 1) scEmpty.nd rfl (.inl rfl)) (pgs_cons (pg_name (i := 2) scEmpty.nd rfl (.inl rfl)) pgs_nil))))
      (pss_one (ps_ret (pe_and (pe_cmpR op_eq (pe_ix ix_seq (pv 1) pe_int (fun _ _ => rfl)) pe_str (nomark _)) (pe_one (pe_cmpR op_eq (pe_callB call_len_seq (by rfl) me PySem.boot_len (pa_cons (pv 2) pa_nil)) pe_int (nomark _)))))), ?_⟩
    refine ⟨_, rfl, a, _, rfl, hs.symm, rfl, _, _, rfl, _, _, rfl, rfl, ?_⟩
    refine ⟨_, rfl, ix_vt (i := 0) bs f0 ⟨rfl, _, rfl, ?_⟩⟩
    by_cases hw : p.word = "reap"
    · refine iteD (by rw [hw]) ?_
      cases ht : p.told with
      | none => exact absurd ht (hf hw)
      | some t =>
        rw [ht] at v1
        obtain ⟨c, zs, rfl, cs, cl, _⟩ := VT.seq (es := t) v1
        refine ⟨_, rfl, c, zs, rfl, cs, rfl, ?_⟩
        have e : isER p = decide (V.int zs.length = V.int 0) := by
          unfold isER
          rw [decide_eq_true hw, Bool.true_and, ht, cl]
          cases t with
          | nil => rfl
          | cons u t =>
            show false = _
            rw [decide_eq_false]
            intro z
            have z' := V.int.inj z
            rw [List.length_cons] at z'
            omega
        rw [← e]
        exact q
    · refine iteDN (fun z => hw (V.str.inj z)) ?_
      have e : isER p = false := by
        unfold isER
        rw [decide_eq_false hw, Bool.false_and]
      rw [e] at q
      exact q
/-! ### is_closed -/
def spClosed (K : PySem.W.Frag) : Sp := fun vs H Q _ => ∃ (v : V) (ps : List Pr), vs = [v] ∧ VT K H v (histD ps) ∧ (∀ p ∈ ps, p.fit) ∧ ps.length ≤ 1000 ∧ Q (.bl (closedP ps)) H
theorem scClosed : FnScope ["history", "at"] ["history"] (defScope sClosed) :=
  ⟨rfl, rfl, rfl, by decide +kernel, rfl, by decide +kernel, by decide +kernel⟩
theorem word_at {H : Hp} {v : V} {p : Pr} {Q : VK} (h : VT K H v (prD p)) (q : Q (.str p.word) H) : rIx K v (.int 0) H fun x H1 => rIx K x (.int 0) H1 Q := by
  obtain ⟨a, xs, rfl, hs, hl, hx⟩ := VT.seq (es := [evD p, toldD p.told]) h
  obtain ⟨x0, e0, v0⟩ := hx 0 _ rfl
  obtain ⟨b, ys, rfl, bs, bl, by'⟩ := VT.seq (es := .str p.word :: p.rest) v0
  obtain ⟨y0, f0, w0⟩ := by' 0 _ rfl
  obtain rfl := VT.str w0
  exact ix_vt (i := 0) hs e0 (ix_vt (i := 0) bs f0 q)
theorem ok_closed {f fE : Addr} {fd fdE : FuncData} {k : Nat} (F : Fun K "is_closed" "is_closed" sClosed f fd) (FE : Fun K "is_empty_reap" "is_empty_reap" sEmpty fE fdE) (bE : Binds K fdE ["pair"] []) (mE : mg "is_empty_reap" = some (.ref fE)) (me : mg "len" = none) :
    FnOk P w K mg base CX0 (k + 2) f fd ["history"] (spClosed K) := by
  have GE : FnOk P w K mg base CX0 (k + 1) fE fdE ["pair"] (spEmpty K) := ok_empty FE me
  refine F.ok scClosed (fun vs H Q E h => ?_) (fun cdv A outer s H vs Q E hr h => ?_)
  · obtain ⟨v, ps, rfl, _⟩ := h
    rfl
  · obtain ⟨v, ps, rfl, hv, hf, hlen, q⟩ := h
    obtain ⟨a, xs, rfl, hs, hl, hx⟩ := VT.seq (es := ps.map prD) hv
    rw [List.length_map] at hl
    have at_ : ∀ (j : Nat) (hj : j < ps.length), ∃ x, xs[j]? = some x ∧ VT K H x (prD ps[j]) := fun j hj => hx j _ (by rw [List.getElem?_map, List.getElem?_eq_getElem hj]; rfl)
    refine ⟨_, pss_cons (ps_set (i := 1) scClosed.nd rfl (.inl rfl) (pe_op op_sub (pe_callB call_len_seq (by rfl) me PySem.boot_len (pa_cons (pv 0) pa_nil)) pe_int))
      (pss_cons (ps_if (PW.pt (pw_or (pt_cmpR op_lt (pv 1) pe_int (nomark _)) (pw_or1 (pt_not (pt_val (pe_call GE hr (by rfl) mE FE.kp bE .nil pass0 (pa_cons (pe_ix ix_seq (pv 0) (pv 1) (fun _ _ => rfl)) pa_nil))))))) (pss_one (ps_ret pe_bl)) pss_nil)
      (pss_cons (ps_aug (i := 1) scClosed.nd rfl (.inl rfl) pe_int ip_sub)
      (pss_cons (ps_while PassesOwn.never (PW.pt (pw_and (pt_cmpR op_ge (pv 1) pe_int (nomark _)) (pw_and (pt_cmpR op_eq (pe_ix ix_seq (pe_ix ix_seq (pe_ix ix_seq (pv 0) (pv 1) (fun _ _ => rfl)) pe_int (fun _ _ => rfl)) pe_int (fun _ _ => rfl)) pe_str (nomark _))
          (pw_and1 (pt_not (pt_val (pe_call GE hr (by rfl) mE FE.kp bE .nil pass0 (pa_cons (pe_ix ix_seq (pv 0) (pv 1) (fun _ _ => rfl)) pa_nil))))))))
        (pss_one (ps_aug (i := 1) scClosed.nd rfl (.inl rfl) pe_int ip_sub)))
      (pss_one (ps_ret (pe_and (pe_cmpR op_ge (pv 1) pe_int (nomark _)) (pe_one (pe_cmpR op_eq (pe_ix ix_seq (pe_ix ix_seq (pe_ix ix_seq (pv 0) (pv 1) (fun _ _ => rfl)) pe_int (fun _ _ => rfl)) pe_int (fun _ _ => rfl)) pe_str (nomark _))))))))), ?_⟩
    refine ⟨_, rfl, a, xs, rfl, hs, _, _, rfl, rfl, ?_⟩
    refine ⟨_, rfl, _, _, rfl, rfl, _, rfl, ?_⟩
    cases hn : ps.length with
    | zero =>
      refine iteD (by omega) (iteT ?_)
      have e : closedP ps = false := by
        unfold closedP
        rw [hn]
      rw [e] at q
      exact q
    | succ n =>
      refine iteDN (by omega) ?_
      obtain ⟨x, ex, vx⟩ := at_ n (by omega)
      have en : (((xs.length : Nat) : Int) - 1) = (n : Nat) := by omega
      simp only [en]
      refine ⟨_, rfl, _, rfl, ix_vt hs ex ⟨x, ps[n], rfl, vx, hf _ (List.getElem_mem _), _, rfl, ?_⟩⟩
      have ecl : closedP ps = (isER ps[n] && backP ps n) := closed_at hn (List.getElem?_eq_getElem (by omega))
      cases hER : isER ps[n] with
      | false =>
        refine iteT ?_
        rw [ecl, hER] at q
        exact q
      | true =>
        rw [ecl, hER, Bool.true_and] at q
        refine iteF ?_
        refine ⟨_, rfl, _, _, rfl, rfl, ?_⟩
        refine ⟨fun m σ H2 => H2 = H ∧ ∃ j : Nat, m = j ∧ σ = [some (.ref a), some (.int ((j : Int) - 1))] ∧ j ≤ n ∧ backP ps j = backP ps n, ⟨n, rfl, n, rfl, rfl, Nat.le_refl _, rfl⟩, ?_⟩
        rintro j σ H2 ⟨e1, j', e2, e3, hj, hb⟩
        subst e1 e2 e3
        refine ⟨_, rfl, _, _, rfl, rfl, _, rfl, ?_⟩
        cases j with
        | zero =>
          refine iteDN (by omega) (iteF ?_)
          refine ⟨_, rfl, _, _, rfl, rfl, _, rfl, iteDN (by omega) ?_⟩
          rw [← hb] at q
          exact q
        | succ i =>
          refine iteD (by omega) ?_
          obtain ⟨y, ey, vy⟩ := at_ i (by omega)
          have ei : ((((i + 1 : Nat) : Nat) : Int) - 1) = (i : Nat) := by omega
          simp only [ei]
          have eb : backP ps (i + 1) = if ps[i].word = "reap" ∧ isER ps[i] = false then backP ps i else decide (ps[i].word = "quiet") := by
            show (match ps[i]? with | none => false | some p => if p.word = "reap" ∧ isER p = false then backP ps i else decide (p.word = "quiet")) = _
            rw [List.getElem?_eq_getElem (by omega)]
          have last : ¬ (ps[i].word = "reap" ∧ isER ps[i] = false) → Q (.bl (decide (ps[i].word = "quiet"))) H2 := fun z => by
            rw [← hb, eb, if_neg z] at q
            exact q
          have leave : ¬ (ps[i].word = "reap" ∧ isER ps[i] = false) → tRet (tAndV (tOp (rI0 fun i j => .bl (decide (j ≤ i))) (tVar 1) (tC (.int 0))) (tOp rEq (tOp (rIx K) (tOp (rIx K) (tOp (rIx K) (tVar 0) (tVar 1)) (tC (.int 0))) (tC (.int 0))) (tC (.str "quiet")))) { nx := fun _ H' => Q .non H', rt := Q } [some (.ref a), some (.int (i : Nat))] H2 := fun z => by
            refine ⟨_, rfl, _, _, rfl, rfl, _, rfl, iteD (by omega) ?_⟩
            refine ⟨_, rfl, _, rfl, ix_vt hs ey (word_at vy ⟨rfl, ?_⟩)⟩
            have h1 := last z
            by_cases hq : ps[i].word = "quiet"
            · rw [decide_eq_true hq] at h1
              rw [decide_eq_true (by rw [hq])]
              exact h1
            · rw [decide_eq_false hq] at h1
              rw [decide_eq_false (fun k => hq (V.str.inj k))]
              exact h1
          refine ⟨_, rfl, _, rfl, ix_vt hs ey (word_at vy ⟨rfl, _, rfl, ?_⟩)⟩
          by_cases hw : ps[i].word = "reap"
          · refine iteD (by rw [hw]) ?_
            refine ⟨_, rfl, _, rfl, ix_vt hs ey ⟨y, ps[i], rfl, vy, hf _ (List.getElem_mem _), _, rfl, ?_⟩⟩
            cases hE : isER ps[i] with
            | true =>
              refine iteF ?_
              exact leave (fun z => by rw [hE] at z; exact nomatch z.2)
            | false =>
              refine iteT ⟨fun σ' H' => H' = H2 ∧ σ' = [some (.ref a), some (.int ((i : Int) - 1))], fun σ' H' z => ⟨i, by omega, z.1, i, rfl, z.2, by omega, ?_⟩, ?_⟩
              · rw [← hb, eb, if_pos ⟨hw, hE⟩]
              · exact ⟨_, rfl, _, _, rfl, rfl, rfl, rfl⟩
          · refine iteDN (fun z => hw (V.str.inj z)) (iteF ?_)
            exact leave (fun z => hw z.1)
end
end KV

namespace KV
open PySem PySem.Spec PyProof.Rows L2 RZ
theorem ok_mem {e : PyData} {ds : List PyData} {n : Nat} (h : okDs ds n = true) (k : e ∈ ds) : okD e n = true := by
  rw [okDs_all, List.all_eq_true] at h
  exact h e k
theorem all2_map {R : PyData → PyData → Prop} {ps : List Pr} {g : Pr → PyData} : ∀ {ds ds' : List PyData} {ps : List Pr}, All2 (fun e e' => ∀ p, tupD e = prD p → e' = g p) ds ds' → ds.map tupD = ps.map prD → ds' = ps.map g
  | [], _, [], .nil, _ => rfl
  | e :: es, _, p :: ps, .cons h1 h2, h => by
    rw [List.map_cons, List.map_cons] at h
    have h3 := List.cons.inj h
    rw [h1 p h3.1, all2_map (R := R) (ps := ps) h2 h3.2]
    rfl
  | [], _, _ :: _, .nil, h => by cases h
  | _ :: _, _, [], .cons _ _, h => by cases h
theorem dps_two {K : PySem.W.Frag} {H : Hp} {ys : List V} {es : List PyData} {a b : PyData} (h : DpAll K H ys es) (m : es.map tupD = [a, b]) : ∃ y0 y1 e0 e1, ys = [y0, y1] ∧ es = [e0, e1] ∧ tupD e0 = a ∧ tupD e1 = b ∧ Dp K H y0 e0 ∧ Dp K H y1 e1 := by
  cases h with
  | nil => cases m
  | cons h0 h =>
    cases h with
    | nil => cases m
    | cons h1 h =>
      cases h with
      | nil =>
        have m1 := List.cons.inj m
        exact ⟨_, _, _, _, rfl, rfl, m1.1, (List.cons.inj m1.2).1, h0, h1⟩
      | cons _ _ =>
        have m1 := (List.cons.inj (List.cons.inj m).2).2
        cases m1
section
variable {P : Program} {w : World} {K : PySem.W.Frag} {mg : Str → Option Value} {base : Heap}
/-! ### script_of -/
def spScript (K : PySem.W.Frag) : Sp := fun vs H Q _ => ∃ (B : List Addr) (v : V) (d : PyData) (ps : List Pr), vs = [v] ∧ Live B H ∧ Dp K (hide B H) v d ∧ okD d 9 = true ∧ tupD d = histD ps ∧
  ∀ (v' : V) (H' : Hp), Same H H' → Dp K (hide B H') v' (.tuple (ps.map evD)) → Q v' H'
theorem scScript : FnScope ["history", "event", "_"] ["history"] (defScope sScript) :=
  ⟨rfl, rfl, rfl, by decide +kernel, rfl, by decide +kernel, by decide +kernel⟩
theorem ok_script {f fI : Addr} {fd fdI : FuncData} (F : Fun K "script_of" "script_of" sScript f fd) (FI : Fun K "in_tuples" "in_tuples" sIn fI fdI) (bI : Binds K fdI ["thing"] []) (mI : mg "in_tuples" = some (.ref fI))
    (mi : mg "isinstance" = none) (ml : mg "list" = none) (mt : mg "tuple" = none) : FnOk P w K mg base CX0 9 f fd ["history"] (spScript K) := by
  have GI : FnOk P w K mg base CX0 8 fI fdI ["thing"] (spIn K 7) := ok_in FI bI mI mi ml mt 7
  refine F.ok scScript (fun vs H Q E h => ?_) (fun cdv A outer s H vs Q E hr h => ?_)
  · obtain ⟨B, v, d, ps, rfl, _⟩ := h
    rfl
  · obtain ⟨B, v, d, ps, rfl, lv, hd, hok, ht, q⟩ := h
    obtain ⟨ds, hk, hm⟩ := tup_inv (es := ps.map prD) ht
    have hs : isSeq d = true := by rcases hk with rfl | rfl <;> rfl
    obtain ⟨a, xs, ds', rfl, hq, hall⟩ := dp_seq hd hs
    have e1 : ds' = ds := by
      rcases hk with rfl | rfl <;> rcases hq with ⟨_, e⟩ | ⟨_, e⟩ <;> cases e <;> rfl
    subst e1
    obtain ⟨m, hm8, hlen, hok2⟩ := ok_seq hk hok
    have em : m = 8 := by omega
    subst em
    have hl := dps_len hall
    refine ⟨_, pss_one (ps_ret (pe_callTy call_tuple_of (by rfl) mt PyProof.Rows.boot_tuple (pa_cons
      (pe_lc (own := [("event", 1), ("_", 2)]) (g := gSeq K 2 (gCons (gName 1) (gCons (gName 2) gNil))) (tt := tYes) rfl scScript.nd (pi_dat B (pv 0)) (blkOk_by (N := ["history", "event", "_"]) (sc := defScope sScript) (by decide +kernel))
        (fun _ _ _ _ _ => pg_seq rfl (pgs_cons (pg_name (i := 1) scScript.nd rfl (Or.inl rfl)) (pgs_cons (pg_name (i := 2) scScript.nd rfl (Or.inl rfl)) pgs_nil))) (fun _ _ _ _ _ => pts_nil)
        (fun _ _ _ _ _ => pe_call GI hr (by rfl) mI FI.kp bI .nil pass0 (pa_cons (pv 1) pa_nil))) pa_nil))), ?_⟩
    refine ⟨_, rfl, a, xs, rfl, hq.imp And.left And.left, fun J G wk hG D nD => lc_dg (K := K) wk (ds := ds') (B := B) (C := []) hall lv (fun b hb => absurd hb List.not_mem_nil) nD (by omega) hG
      (fun _ _ => True) trivial (fun _ _ _ _ _ => trivial) (fun _ _ _ b hb => absurd hb List.not_mem_nil) (fun e e' => ∀ p, tupD e = prD p → e' = evD p) ?_
      (fun H2 acc ds2 s2 lv2 _ hD2 hacc h2 => ⟨_, _, rfl, .inl ⟨SqL.of hD2, fun l nl => q _ _ (fun c o e => ?_) ?_⟩⟩)⟩
    · intro j x e H2 Q2 _ he lv2 _ hdp2 k2
      have hp : ∃ p, ps[j]? = some p ∧ tupD e = prD p := by
        have h1 : (ps.map prD)[j]? = some (tupD e) := by rw [← hm, List.getElem?_map, he]; rfl
        rw [List.getElem?_map, Option.map_eq_some_iff] at h1
        obtain ⟨p, h1, h2⟩ := h1
        exact ⟨p, h1, h2.symm⟩
      obtain ⟨p, _, hp⟩ := hp
      obtain ⟨es, hke, hme⟩ := tup_inv (es := [evD p, toldD p.told]) hp
      have hse : isSeq e = true := by rcases hke with rfl | rfl <;> rfl
      obtain ⟨b, ys, es', rfl, hqe, halle⟩ := dp_seq hdp2 hse
      have e2 : es' = es := by
        rcases hke with rfl | rfl <;> rcases hqe with ⟨_, e⟩ | ⟨_, e⟩ <;> cases e <;> rfl
      subst e2
      obtain ⟨m, hm7, _, hok3⟩ := ok_seq hke (okDs_get hok2 he)
      have em : m = 7 := by omega
      subst em
      obtain ⟨y0, y1, e0, e1, rfl, rfl, t0, _, d0, d1⟩ := dps_two halle hme
      have hs2 := hide_same (D :: B) H2
      refine ⟨b, [y0, y1], rfl, hqe.symm.imp (fun z => same_seqT hs2 z.1) (fun z => hs2.seq z.1), rfl, y0, [y1], rfl, y1, [], rfl, rfl, rfl, ?_⟩
      refine ⟨_, rfl, D :: B, y0, e0, rfl, lv2, d0, ok_mem hok3 List.mem_cons_self, fun y H3 s3 hd3 => k2 y H3 _ (SameX.of s3) (fun p' hp' => ?_) hd3 trivial⟩
      have h4 : prD p' = prD p := hp'.symm.trans hp
      rw [t0]
      have h5 : [evD p', toldD p'.told] = [evD p, toldD p.told] := PyData.tuple.inj h4
      exact (List.cons.inj h5).1.symm
    · have cD : c ≠ D := ne_of_none e nD
      exact same_upd nl c o (s2 c o (fun z => (List.mem_cons.mp z).elim cD (fun z => absurd z List.not_mem_nil)) e)
    · rw [← all2_map (R := fun _ _ => True) (ps := ps) h2 hm]
      exact .tup (SqT.of (hide_new lv2.tail nl)) (dps_same (hide_leave.trans (hide_grow lv2.tail nl)) hacc)
end
end KV

namespace PySem
open Sem (wp)
/-- enumerate(v) is made, of anything whose iterator begins so -/
theorem enum_new1 {v : Value} {o : Obj} {Hv : Heap → Prop} (B : Begins v o Hv) :
    Meets (Builtin.«enumerate.__new__» ⟨[.type "enumerate", v], []⟩) (fun _ R s =>
      Hv s.heap ∧ R (.ok (.ret (.ref (s.heap.push o).objs.size)))
        { s with heap := (s.heap.push o).push ⟨.type "enumerate", none, .fields #[.none, .bool false, .ref s.heap.objs.size, rawInt 0, .none, .none], #[]⟩ }) :=
  .of_wp fun prog w A R s h => by
    obtain ⟨hh, gg, dd, tt, oo⟩ := s
    obtain ⟨hv, hr⟩ := h
    have hsub := sub_enumerate
    have begin_ : ∀ {A' : Around} {E Q : Value → Shared → Prop}, Q (.ref hh.objs.size) ⟨hh.push o, gg, dd, tt, oo⟩ → wpAny (model prog w) A' (pyIter v) Q E ⟨hh, gg, dd, tt, oo⟩ := fun z =>
      B.iter prog w _ _ ⟨hh, gg, dd, tt, oo⟩ _ hv z
    wp_walk using begin_
    refine wpAny_stack_any fun st => wpAny_pure ?_
    split
    · rename_i c _ _ _ _ _
      cases (c == Value.type "enumerate") <;> (wp_walk using begin_; exact ⟨_, rfl, hr⟩)
    · wp_walk using begin_
      exact ⟨_, rfl, hr⟩
theorem call_enum1 {prog : Program} {w : World} {A : Around} {E : Value → Shared → Prop} {s : Shared} {v : Value} {o : Obj} {Hv : Heap → Prop} {Q : Value → Shared → Prop} (B : Begins v o Hv) (hv : Hv s.heap)
    (h : ∀ h', IsEnum h' (s.heap.objs.size + 1) s.heap.objs.size 0 .none → h'.get? s.heap.objs.size = some o →
      (∀ b ob, s.heap.get? b = some ob → h'.get? b = some ob) → Q (.ref (s.heap.objs.size + 1)) { s with heap := h' }) :
    wpAny (model prog w) A (call (.type "enumerate") [v]) Q E s := by
  refine callType_new F.called_enumerate (by decide) (F.typeCall_enumerate_1 _) (F.newCall_enumerate_1 _) (fun obj => F.args_object_init_2 obj _) F.entry_enumerate_new (enum_new1 B) ⟨hv, ?_⟩
  have size1 : (s.heap.push o).objs.size = s.heap.objs.size + 1 := Heap.size_push ..
  show _ ∧ _
  rw [size1]
  have here : IsEnum ((s.heap.push o).push ⟨.type "enumerate", none, .fields #[.none, .bool false, .ref s.heap.objs.size, rawInt 0, .none, .none], #[]⟩) (s.heap.objs.size + 1) s.heap.objs.size 0 .none := by
    have z := Heap.get?_push_size (s.heap.push o) (o := ⟨.type "enumerate", none, .fields #[.none, .bool false, .ref s.heap.objs.size, rawInt 0, .none, .none], #[]⟩) rfl
    rw [size1] at z
    exact z
  exact ⟨⟨_, here, rfl⟩, h _ here (Heap.get?_push_of_some _ (Heap.get?_push_size _ B.free)) fun b ob x => Heap.get?_push_of_some _ (Heap.get?_push_of_some _ x)⟩
end PySem
namespace KV
open PySem PySem.Spec PyProof.Rows L2 RZ
/-- enumerate over the tuple at a: at each turn a new pair -/
def IteT (K : PySem.W.Frag) (a : Addr) : It where
  go := fun i H => ∃ xs x, SqT K H a xs ∧ xs[i]? = some x
  yld := fun i H v H' => ∃ T x, v = .ref T ∧ H T = none ∧ H' = upd H T (.tup [.int (i : Nat), x]) ∧ ∀ xs, SqT K H a xs → xs[i]? = some x
  stop := fun i H => ∃ xs, SqT K H a xs ∧ xs.length = i
theorem turn_enumT {P : Program} {w : World} {K : PySem.W.Frag} {elts : List Expr} {kk : Nat} {tpos : Pos} (a e it : Addr) (hae : a ≠ it) (hea : e ≠ a) :
    Turn P w K (.Tuple elts kk tpos) (IteT K a) [e, it] e (fun i h => (∃ old, IsEnum h e it ((i : Nat) : Int) old) ∧ h.IsTupleIter it a i ∧ e ≠ it) where
  mem := by simp
  obj := fun i h st b hb => by
    obtain ⟨⟨old, he⟩, ⟨o, ho, hc, hd⟩, _⟩ := st
    rcases (show b = e ∨ b = it by simpa using hb) with z | z
    · subst z
      exact ⟨_, he, fun v q => nomatch q⟩
    · subst z
      exact ⟨o, ho, fun v q => by rw [hd] at q; cases q⟩
  keep := fun i h h' st k => by
    obtain ⟨⟨old, he⟩, hi, hne⟩ := st
    exact ⟨⟨old, k e (by simp) _ he⟩, hi.at fun o q => k it (by simp) o q, hne⟩
  item := by
    intro X hP hw hK hc i pins s σ H E I hf st hg
    subst hP hw hK
    obtain ⟨⟨old, he⟩, hit, hne⟩ := st
    obtain ⟨xs, x, hq, hx⟩ := hg
    obtain ⟨its, rv, p, hz⟩ := I.tuple hq
    obtain ⟨u, hu, ru⟩ := rv.get hx
    have le : e < s.heap.objs.size := Heap.lt_size he
    have li : it < s.heap.objs.size := by
      obtain ⟨_, q, _⟩ := hit
      exact Heap.lt_size q
    have hlt : i < its.toArray.size := by
      have h1 := (List.getElem?_eq_some_iff.mp hu).1
      simpa using h1
    refine wpAny_pyNext_enum_itemD (Draws.tuple (prog := X.prog) (w := X.w) (A := X.A.in1) (I.ok.hd hc) it a hae its.toArray) he ⟨hit, (show s.heap.IsTuple a its.toArray from p)⟩ hlt hne
      (fun z => by
        rcases List.mem_cons.mp z with z | z
        · exact hne z
        · exact hea (List.mem_singleton.mp z)) fun u' h' tk hu' ho hst hT hsz hk => ?_
    have eu : u' = u := by
      have h1 : its.toArray[i]? = some u := by simpa using hu
      rw [h1] at hu'
      exact (Option.some.inj hu').symm
    subst eu
    refine ⟨_, rfl, wpAny_letOwnedTupleGo_enum (s := { s with heap := h', toks := tk + 1 }) ho fun h'' he' sb => ?_⟩
    have hT2 : h''.get? s.heap.objs.size = some { cls := .type "tuple", data := .seq #[.int i tk, u'] } := (sb.2 _ (Nat.ne_of_gt le)).trans hT
    have new : ObjOk X.prog X.w (upd H s.heap.objs.size (.tup [.int (i : Nat), x])) h'' s.heap.objs.size (.tup [.int (i : Nat), x]) :=
      ⟨by show 2 ≤ sizeLine; decide, [.int i tk, u'], .cons ⟨_, rfl⟩ (.cons ru .nil), ⟨_, hT2, rfl, _, rfl⟩⟩
    have I1 : Inv X pins σ (upd H s.heap.objs.size (.tup [.int (i : Nat), x])) { s with heap := h'', toks := tk + 1 } :=
      I.turnedNew (ch := [e, it]) (fun b ob hb q => (sb.2 b (fun z => hb (by simp [z]))).trans (hk b ob (fun z => hb (by simp [z])) (fun z => hb (by simp [z])) q)) hf (Nat.le_refl _) new
    refine ⟨.ref s.heap.objs.size, _, I1, rfl, ⟨_, x, rfl, I.hok.fresh (Nat.le_refl _), rfl, fun ys hy => ?_⟩, ⟨⟨u', ?_⟩, hst.1.at fun o q => (sb.2 it (Ne.symm hne)).trans q, hne⟩, fun b hb => ?_⟩
    · rw [I.tuple_inj hy hq]
      exact hx
    · have e1 : ((i + 1 : Nat) : Int) = (i : Int) + 1 := by omega
      rw [e1]
      exact he'
    · have hb' : b < s.heap.objs.size := by
        rcases (show b = e ∨ b = it by simpa using hb) with z | z
        · rw [z]; exact le
        · rw [z]; exact li
      rw [upd_ne (Nat.ne_of_lt hb')]
      exact (hf b hb).1
  done := by
    intro X hP hw hK hc i pins s σ H E I hf st hg
    subst hP hw hK
    obtain ⟨⟨old, he⟩, hit, hne⟩ := st
    obtain ⟨xs, hq, hx⟩ := hg
    obtain ⟨its, rv, p, hz⟩ := I.tuple hq
    obtain ⟨f0, f1, f2, f3, f4, f5⟩ := hf it (by simp)
    have hl := rv.length
    have en : i = its.toArray.size := by
      rw [List.size_toArray]
      omega
    subst en
    exact wpAny_pyNext_enum_endD (Draws.tuple (prog := X.prog) (w := X.w) (A := X.A.in1) (I.ok.hd hc) it a hae its.toArray) he ⟨hit, (show s.heap.IsTuple a its.toArray from p)⟩ fun h' eb =>
      ⟨rfl, I.turned (t' := s.toks) (fun b o hb q => eb b o hb q) f0 f1 f3 f4 f5⟩
  self := fun A i s Q E st h => let ⟨⟨_, he⟩, _⟩ := st; wpAny_pyIter_enum he h
def iEnumT (K : PySem.W.Frag) (ta : TA) : TI := fun σ H R => ta σ H fun vs H1 => ∃ a xs, vs = [.ref a] ∧ SqT K H1 a xs ∧ R (IteT K a) H1
theorem pi_enumT {X : Cx} {e : Expr} {ta : TA} {p pos tpos : Pos} {elts : List Expr} {kk : Nat} (hg : Gl X "enumerate") (hm : X.mg "enumerate" = none) (ha : PA X [e] ta) (hs : starEach [e] X.env = [(false, eval e X.env)] := by rfl) :
    PI X (.Tuple elts kk tpos) (.Call (.Name "enumerate" p) [e] [] pos) (iEnumT X.K ta) := by
  refine ⟨fun pins s σ H R I h => Call_ (ld_blt I hg hm boot_enumerate (PyProof.Rows.callWith_type1 (thn (ha.run pos pins s σ H _ I h) fun us s1 hv => ?_) hs rfl))⟩
  obtain ⟨vs, H1, I1, r1, a, xs, rfl, hq, q⟩ := hv
  cases r1 with
  | cons r rr =>
    cases rr
    cases r
    obtain ⟨its, rv, p', hz⟩ := I1.tuple hq
    have la : a < s1.heap.objs.size := by
      obtain ⟨o, ho, _⟩ := p'
      exact Heap.lt_size ho
    refine call_enum1 (begins_tuple a its.toArray) (show s1.heap.IsTuple a its.toArray from p') fun h' he hit hk => wpAny_pyIter_enum he ?_
    have I2 : Inv X pins σ H1 { s1 with heap := h' } := I1.kept (t' := s1.toks) hk
    refine ⟨s1.heap.objs.size + 1, [s1.heap.objs.size + 1, s1.heap.objs.size], _, _, H1, rfl, I2, turn_enumT a (s1.heap.objs.size + 1) s1.heap.objs.size (Nat.ne_of_lt la) (Nat.ne_of_gt (Nat.lt_succ_of_lt la)), ⟨⟨.none, he⟩, ⟨_, hit, rfl, rfl⟩, Nat.succ_ne_self _⟩, fun b hb => ?_, q⟩
    have hle : s1.heap.objs.size ≤ b := by
      rcases (show b = s1.heap.objs.size + 1 ∨ b = s1.heap.objs.size by simpa using hb) with z | z
      · rw [z]; exact Nat.le_add_right _ _
      · rw [z]; exact Nat.le_refl _
    exact I1.fpOk hle (I1.hok.fresh hle)
theorem walk_enumT {K : PySem.W.Frag} {a : Addr} {xs : List V} : Walk (IteT K a) xs.length (fun H => SqT K H a xs) (YPair (fun i => some (.int (i : Nat))) (fun i => xs[i]?)) := by
  refine ⟨fun i _ hi q => ⟨xs, xs[i], q, by simp [hi]⟩, fun _ q => ⟨xs, q, rfl⟩, fun i H v H' _ q y => ?_⟩
  obtain ⟨T, x, h1, h2, h3, h4⟩ := y
  exact ⟨T, .int (i : Nat), x, h1, h2, h3, rfl, h4 xs q⟩
end KV

namespace KV
open PySem PySem.Spec PyProof.Rows L2 RZ
/-- a new tuple of data -/
theorem dp_new {K : PySem.W.Frag} {B : List Addr} {H : Hp} {p : Addr} {xs : List V} {ds : List PyData} (lv : Live B H) (n : H p = none) (h : DpAll K (hide B H) xs ds) : Dp K (hide B (upd H p (.tup xs))) (.ref p) (.tuple ds) :=
  .tup (SqT.of (hide_new lv n)) (dps_same (hide_grow lv n) h)
/-- a comprehension whose j-th value is the data F j -/
theorem lc_fn {K : PySem.W.Frag} {J : It} {n : Nat} {G : Hp → Prop} {Y : Nat → Hp → V → Hp → Prop} (w : Walk J n G Y) {Px : Nat → V → Prop} (hY : ∀ i H x H', Y i H x H' → H' = H ∧ Px i x) {B : List Addr} {σ : L2.St} {i : Nat} {te : TE} {H1 : Hp} {D : Addr} {Qd : Hp → Prop}
    (hB : Live B H1) (nD : H1 D = none) (hz : n ≤ 1000) (hG : ∀ H, G H) (F : Nat → PyData)
    (step : ∀ (j : Nat) (x : V) (H : Hp) (Q : VK), j < n → Px j x → Live (D :: B) H → (∀ y H', Same H H' → Dp K (hide (D :: B) H') y (F j) → Q y H') → te ((wipe σ [i]).set i (some x)) H Q)
    (hd : ∀ H acc, SameX [D] H1 H → Live (D :: B) H → H D = some (.lst acc) → DpAll K (hide (D :: B) H) acc ((List.range n).map F) → Qd H) :
    ∃ W : Nat → Nat → Hp → Prop, (∃ m, W 0 m (upd H1 D (.lst []))) ∧ ∀ i' m H, W i' m H →
      (J.stop i' H ∧ Qd H) ∨ (J.go i' H ∧ ∃ Nx : Hp → Prop, (∀ H', Nx H' → ∃ m', m' < m ∧ W (i' + 1) m' H') ∧ ∀ x H', J.yld i' H x H' → gName i x (wipe σ [i]) H' fun σ2 H2 => wipe σ2 [i] = wipe σ [i] ∧ tYes σ2 H2 fun b H3 =>
        if b = true then te σ2 H3 fun y H4 => ∃ acc, H4 D = some (.lst acc) ∧ acc.length < sizeLine ∧ Nx (upd H4 D (.lst (acc ++ [y]))) else Nx H3) := by
  refine lc_it w (fun j H => SameX [D] H1 H ∧ Live (D :: B) H ∧ ∃ acc, H D = some (.lst acc) ∧ acc.length = j ∧ DpAll K (hide (D :: B) H) acc ((List.range j).map F)) ?_ (fun j H _ _ => hG H) ?_ ?_
  · refine ⟨fun c o n e => ?_, Live.cons hB.upd upd_same, [], upd_same, rfl, .nil⟩
    rw [upd_ne (ne_of_none e nD)]
    exact e
  · rintro j x H H' hj ⟨hs, lv, acc, hD, hacc, ha⟩ hy
    obtain ⟨rfl, px⟩ := hY _ _ _ _ hy
    refine ⟨?_, tYes_ok (step j x _ _ hj px lv fun y H4 s4 dp4 => ?_)⟩
    · show ((((σ.set i none)).set i (some x)).set i none) = σ.set i none
      rw [List.set_set, List.set_set]
    · have hD4 : H4 D = some (.lst acc) := s4 D _ hD
      refine ⟨acc, hD4, by rw [hacc]; exact small1000 (by omega), hs.trans ((SameX.of s4).trans (sameX_upd List.mem_cons_self)), Live.upd (lv.same s4), acc ++ [y], upd_same, by rw [List.length_append, hacc]; rfl, ?_⟩
      rw [hide_upd_in List.mem_cons_self, List.range_succ, List.map_append]
      exact dps_snoc (dps_same (hide_of_same s4) ha) dp4
  · rintro H ⟨hs, lv, acc, hD, hacc, ha⟩
    exact hd H acc hs lv hD ha
/-! ### the pairs that the law draws -/
def ltr (j : Nat) : Str := ⟨#[97 + j]⟩
def reqD (j : Nat) : PyData := .tuple [.str (ltr j), .tuple [.str "nop"], .tuple []]
def cmpD (j : Nat) : PyData := .tuple [.str (ltr j), .tuple [.str "done"], .none, .bool false, .bool false]
def cmps (k : Nat) : List PyData := ((List.range 10).drop k).map cmpD
def pPut : Pr := ⟨"put", [.tuple ((List.range 10).map reqD)], none⟩
def pQuiet : Pr := ⟨"quiet", [], some []⟩
def pLend (n : Int) : Pr := ⟨"lend", [.int n], none⟩
def pReap (n : Int) (t : List PyData) : Pr := ⟨"reap", [.int n], some t⟩
/-- what is laid, shown and short -/
def fineD (d : PyData) : Bool := d.canLay0 && d.leavesShort 13 && d.showable
theorem fine_all : ∀ ds : List PyData, (PyData.canLayAll0 ds && PyData.leavesShortAll 13 ds && PyData.showableAll ds) = ds.all fineD
  | [] => by simp [PyData.canLayAll0, PyData.leavesShortAll, PyData.showableAll]
  | d :: ds => by
    have h := fine_all ds
    simp only [PyData.canLayAll0, PyData.leavesShortAll, PyData.showableAll, List.all_cons, ← h, fineD]
    cases d.canLay0 <;> cases d.leavesShort 13 <;> cases d.showable <;> simp
theorem fine_tup (ds : List PyData) : fineD (.tuple ds) = ds.all fineD := by
  rw [← fine_all]
  simp only [fineD, PyData.canLay0, PyData.leavesShort, PyData.showable]
structure GoodP (p : Pr) : Prop where
  fit : p.fit
  fine : fineD (prD p) = true
  ok : okD (prD p) 8 = true
  bulk : (prD p).bulk ≤ 300
  nodes : nodesD (prD p) ≤ 60
  flat : tupD (prD p) = prD p
theorem good_put : GoodP pPut := ⟨fun h => absurd h (by decide +kernel), by decide +kernel, by decide +kernel, by decide +kernel, by decide +kernel, by simp [prD, evD, toldD, tupD, tupDs, pPut, pQuiet, pLend, reqD, tupDs_map]⟩
theorem good_quiet : GoodP pQuiet := ⟨fun h => absurd h (by decide +kernel), by decide +kernel, by decide +kernel, by decide +kernel, by decide +kernel, by simp [prD, evD, toldD, tupD, tupDs, pPut, pQuiet, pLend, reqD, tupDs_map]⟩
theorem good_lend : GoodP (pLend 3) := ⟨fun h => absurd h (by decide +kernel), by decide +kernel, by decide +kernel, by decide +kernel, by decide +kernel, by simp [prD, evD, toldD, tupD, tupDs, pPut, pQuiet, pLend, reqD, tupDs_map]⟩
theorem fine_cmps : (cmps 0).all fineD = true := by decide +kernel
theorem ok_cmps : okDs (cmps 0) 6 = true := by decide +kernel
theorem bulk_le (ds : List PyData) (k : Nat) : PyData.bulkAll (ds.drop k) ≤ PyData.bulkAll ds := by
  induction ds generalizing k with
  | nil => rw [List.drop_nil]; exact Nat.le_refl _
  | cons d ds ih =>
    cases k with
    | zero => exact Nat.le_refl _
    | succ k =>
      have h := ih k
      simp only [List.drop_succ_cons, PyData.bulkAll]
      omega
theorem bulk_le' (ds : List PyData) (k : Nat) : PyData.bulkAll (ds.take k) ≤ PyData.bulkAll ds := by
  induction ds generalizing k with
  | nil => rw [List.take_nil]; exact Nat.le_refl _
  | cons d ds ih =>
    cases k with
    | zero => simp only [List.take_zero, PyData.bulkAll]; exact Nat.zero_le _
    | succ k =>
      have h := ih k
      simp only [List.take_succ_cons, PyData.bulkAll]
      omega
theorem nodes_drop (ds : List PyData) (k : Nat) : nodesDs (ds.drop k) ≤ nodesDs ds := by
  induction ds generalizing k with
  | nil => rw [List.drop_nil]; exact Nat.le_refl _
  | cons d ds ih =>
    cases k with
    | zero => exact Nat.le_refl _
    | succ k =>
      have h := ih k
      simp only [List.drop_succ_cons, nodesDs]
      omega
theorem cmps_drop (k : Nat) : cmps k = (cmps 0).drop k := by
  unfold cmps
  rw [List.map_drop]
  rfl
theorem good_reap {n : Int} {k r : Nat} (h1 : 0 ≤ n) (h2 : n < 100) : GoodP (pReap n ((cmps k).take r)) := by
  have hs : ∀ d ∈ (cmps k).take r, d ∈ cmps 0 := fun d hd => by
    rw [cmps_drop] at hd
    exact List.mem_of_mem_drop (List.mem_of_mem_take hd)
  have hf : ((cmps k).take r).all fineD = true := by
    rw [List.all_eq_true]
    exact fun d hd => List.all_eq_true.mp fine_cmps d (hs d hd)
  have hint : fineD (.int n) = true := by
    have key : ∀ m : Fin 100, fineD (.int (m.val : Int)) = true := by decide +kernel
    have := key ⟨n.toNat, by omega⟩
    have e : (((⟨n.toNat, by omega⟩ : Fin 100)).val : Int) = n := by
      show ((n.toNat : Nat) : Int) = n
      omega
    rw [e] at this
    exact this
  have hl : ((cmps k).take r).length ≤ 10 := by
    rw [List.length_take, cmps_drop, List.length_drop]
    have : (cmps 0).length = 10 := by decide +kernel
    omega
  refine ⟨(fun _ z => by cases z), ?_, ?_, ?_, ?_, ?_⟩
  · have e : fineD (prD (pReap n ((cmps k).take r))) = (fineD (.str "reap") && (fineD (.int n) && true) && (((cmps k).take r).all fineD && true)) := by
      unfold prD evD pReap toldD
      rw [fine_tup, List.all_cons, List.all_cons, fine_tup, fine_tup, List.all_cons, List.all_cons]
      simp
    rw [e, hint, hf]
    decide +kernel
  · have ho : okDs ((cmps k).take r) 6 = true := by
      rw [okDs_all, List.all_eq_true]
      intro d hd
      have h := ok_cmps
      rw [okDs_all, List.all_eq_true] at h
      exact h d (hs d hd)
    have ho2 : okD (.tuple ((cmps k).take r)) 7 = true := (ok_mk (by omega) ho).2
    unfold prD evD pReap toldD
    refine (ok_mk (by show 2 ≤ 1000; decide) ?_).2
    simp only [okDs, ho2, Bool.and_true]
    simp [okD, okDs]
  · have h3 : PyData.bulkAll ((cmps k).take r) ≤ PyData.bulkAll (cmps 0) := by
      rw [cmps_drop]
      exact Nat.le_trans (bulk_le' _ _) (bulk_le _ _)
    have h4 : PyData.bulkAll (cmps 0) ≤ 200 := by decide +kernel
    have h5 : ("reap" : Str).cps.size = 4 := by decide +kernel
    unfold prD evD pReap toldD
    simp only [PyData.bulk, PyData.bulkAll, h5]
    omega
  · have h3 : nodesDs ((cmps k).take r) ≤ nodesDs (cmps 0) := by
      rw [cmps_drop]
      exact Nat.le_trans (nodes_le _ _) (nodes_drop _ _)
    have h4 : nodesDs (cmps 0) ≤ 30 := by decide +kernel
    unfold prD evD pReap toldD
    simp only [nodesD, nodesDs]
    omega
  · have h3 : tupDs ((cmps k).take r) = (cmps k).take r := by
      rw [tupDs_map]
      have e : ∀ d ∈ (cmps k).take r, tupD d = d := fun d hd => by
        have := hs d hd
        unfold cmps at this
        obtain ⟨j, _, rfl⟩ := List.mem_map.mp this
        simp [cmpD, tupD, tupDs]
      exact (List.map_congr_left e).trans (List.map_id _)
    simp [prD, evD, toldD, tupD, tupDs, pReap, h3]
/-! ### the state of the loop that draws them -/
structure PairsAt (K : PySem.W.Frag) (B : List Addr) (b fl : Addr) (H : Hp) (ll : Addr) (k : Nat) (ps : List Pr) (m : Nat) : Prop where
  box : BoxAt H b m
  found : ∃ fv, H fl = some (.lst fv) ∧ DpAll K (hide (fl :: B) H) fv (ps.map prD)
  left : ∃ lv, H ll = some (.lst lv) ∧ DpAll K (hide (fl :: B) H) lv (cmps k)
  apart : ll ∉ fl :: B
  live : Live (fl :: B) H
  flb : fl ∉ B
  good : ∀ p ∈ ps, GoodP p
section
variable {K : PySem.W.Frag} {B : List Addr} {b fl ll : Addr} {H H' : Hp} {k m : Nat} {ps : List Pr}
theorem PairsAt.grow (S : PairsAt K B b fl H ll k ps m) (s : Same H H') : PairsAt K B b fl H' ll k ps m := by
  obtain ⟨fv, f1, f2⟩ := S.found
  obtain ⟨lv, l1, l2⟩ := S.left
  exact ⟨S.box.same s, ⟨fv, s _ _ f1, dps_same (hide_of_same s) f2⟩, ⟨lv, s _ _ l1, dps_same (hide_of_same s) l2⟩, S.apart, S.live.same s, S.flb, S.good⟩
theorem PairsAt.draw {m' : Nat} (S : PairsAt K B b fl H ll k ps m) (hb : b ∈ B) (s : SameX [b] H H') (hB : BoxAt H' b m') : PairsAt K B b fl H' ll k ps m' := by
  obtain ⟨fv, f1, f2⟩ := S.found
  obtain ⟨lv, l1, l2⟩ := S.left
  have n1 : fl ∉ [b] := fun z => S.flb (by rw [List.mem_singleton.mp z]; exact hb)
  have n2 : ll ∉ [b] := fun z => S.apart (List.mem_cons_of_mem _ (by rw [List.mem_singleton.mp z]; exact hb))
  have hh : Same (hide (fl :: B) H) (hide (fl :: B) H') := s.hide fun c hc => List.mem_cons_of_mem _ (by rw [List.mem_singleton.mp hc]; exact hb)
  refine ⟨hB, ⟨fv, s _ _ n1 f1, dps_same hh f2⟩, ⟨lv, s _ _ n2 l1, dps_same hh l2⟩, S.apart, s.live S.live fun c hc e => ?_, S.flb, S.good⟩
  rw [List.mem_singleton.mp hc] at e
  obtain ⟨_, _, _, z, _⟩ := hB
  rw [z] at e
  cases e
theorem PairsAt.add (S : PairsAt K B b fl H ll k ps m) (hb : b ∈ B) {fv : List V} (hf : H fl = some (.lst fv)) {y : V} {p : Pr} (hy : Dp K (hide (fl :: B) H) y (prD p)) (hp : GoodP p) : PairsAt K B b fl (upd H fl (.lst (fv ++ [y]))) ll k (ps ++ [p]) m := by
  obtain ⟨fv', f1, f2⟩ := S.found
  obtain ⟨lv, l1, l2⟩ := S.left
  have e : fv' = fv := by
    rw [hf] at f1
    cases f1
    rfl
  subst e
  have hl : ll ≠ fl := fun z => S.apart (by rw [z]; exact List.mem_cons_self)
  have hbf : b ≠ fl := fun z => S.flb (z ▸ hb)
  have hh : hide (fl :: B) (upd H fl (.lst (fv' ++ [y]))) = hide (fl :: B) H := hide_upd_in List.mem_cons_self
  refine ⟨?_, ⟨_, upd_same, ?_⟩, ⟨lv, by rw [upd_ne hl]; exact l1, by rw [hh]; exact l2⟩, S.apart, S.live.upd, S.flb, fun q hq => ?_⟩
  · obtain ⟨x, y, c, z, z2⟩ := S.box
    exact ⟨x, y, c, by rw [upd_ne hbf]; exact z, z2⟩
  · rw [hh, List.map_append]
    exact dps_snoc f2 hy
  · rcases List.mem_append.mp hq with z | z
    · exact S.good q z
    · rw [List.mem_singleton.mp z]
      exact hp
theorem PairsAt.cut (S : PairsAt K B b fl H ll k ps m) {r : Nat} {lv : List V} (hl : H ll = some (.lst lv)) {p : Addr} (n : H p = none) : PairsAt K B b fl (upd H p (.lst (lv.drop r))) p (k + r) ps m := by
  have S' := S.grow (same_upd (o := HO.lst (lv.drop r)) n)
  obtain ⟨lv', l1, l2⟩ := S.left
  have e : lv' = lv := by
    rw [hl] at l1
    cases l1
    rfl
  subst e
  refine ⟨S'.box, S'.found, ⟨_, upd_same, ?_⟩, S.live.new n, S'.live, S.flb, S.good⟩
  have h := dps_drop r (dps_same (hide_grow (o := HO.lst (lv'.drop r)) S.live n) l2)
  have e2 : (cmps k).drop r = cmps (k + r) := by rw [cmps_drop k, cmps_drop (k + r), List.drop_drop]
  rw [e2] at h
  exact h
end
end KV

namespace KV
open PySem PySem.Spec PyProof.Rows L2 RZ
abbrev sPairs : Stmt := topS 12
def abc : Str := "abcdefghij"
theorem abc_at : ∀ (j c : Nat), abc.cps[j]? = some c → c = 97 + j ∧ j < 10 := by
  intro j c h
  have hs : abc.cps.size = 10 := by decide +kernel
  have hj : j < 10 := by
    obtain ⟨h1, _⟩ := Array.getElem?_eq_some_iff.mp h
    omega
  have key : ∀ i : Fin 10, abc.cps[i.val]? = some (97 + i.val) := by decide +kernel
  rw [key ⟨j, hj⟩] at h
  exact ⟨(Option.some.inj h).symm, hj⟩
theorem PairsAt.le {K : PySem.W.Frag} {B : List Addr} {b fl ll : Addr} {H : Hp} {k m m' : Nat} {ps : List Pr} (S : PairsAt K B b fl H ll k ps m) (h : m ≤ m') : PairsAt K B b fl H ll k ps m' :=
  ⟨S.box.le h, S.found, S.left, S.apart, S.live, S.flb, S.good⟩
theorem sx_put {b fl : Addr} {H H7 H10 : Hp} {o : HO} (sx : SameX [b] H H7) (s : Same H7 H10) (nf : H fl = none) : SameX [b] H (upd H10 fl o) := fun c z n e => by
  rw [upd_ne (ne_of_none e nf)]
  exact s _ _ (sx c z n e)
theorem PairsAt.put {K : PySem.W.Frag} {B : List Addr} {b fl ll : Addr} {H H' : Hp} {k m : Nat} {ps : List Pr} {fv : List V} {y : V} {p : Pr} (S : PairsAt K B b fl H ll k ps m) (hb : b ∈ B) (s : Same H H') (hf : H fl = some (.lst fv)) (g : Dp K (hide (fl :: B) H') y (prD p)) (hp : GoodP p) :
    PairsAt K B b fl (upd H' fl (.lst (fv ++ [y]))) ll k (ps ++ [p]) m := (S.grow s).add hb (s _ _ hf) g hp
theorem same3 {H : Hp} {p1 p2 p3 : Addr} {o1 o2 o3 : HO} (n1 : H p1 = none) (n2 : upd H p1 o1 p2 = none) (n3 : upd (upd H p1 o1) p2 o2 p3 = none) : Same H (upd (upd (upd H p1 o1) p2 o2) p3 o3) := ((same_upd n1).trans (same_upd n2)).trans (same_upd n3)
theorem same2 {H : Hp} {p1 p2 : Addr} {o1 o2 : HO} (n1 : H p1 = none) (n2 : upd H p1 o1 p2 = none) : Same H (upd (upd H p1 o1) p2 o2) := (same_upd n1).trans (same_upd n2)
theorem cut_take (xs : List V) (r : Nat) : cutV xs none (some (r : Int)) = xs.take r := by
  unfold cutV
  rw [HT.sIx_nat, HT.sIx_none, List.drop_zero, Nat.sub_zero]
  by_cases h : r ≤ xs.length
  · rw [Nat.min_eq_left h]
  · rw [Nat.min_eq_right (by omega), List.take_length, List.take_of_length_le (by omega)]
theorem cut_drop (xs : List V) (r : Nat) : cutV xs (some (r : Int)) none = xs.drop r := by
  unfold cutV
  rw [HT.sIx_nat, HT.sIx_none]
  by_cases h : r ≤ xs.length
  · rw [Nat.min_eq_left h, List.take_of_length_le (by rw [List.length_drop]; omega)]
  · rw [Nat.min_eq_right (by omega), List.drop_length, List.drop_of_length_le (by omega), List.take_nil]
section
variable {P : Program} {w : World} {K : PySem.W.Frag} {mg : Str → Option Value} {base : Heap}
def spPairs (K : PySem.W.Frag) : Sp := fun vs H Q _ => ∃ (B : List Addr) (b : Addr) (n : Nat), vs = [.ref b, .int 9] ∧ b ∈ B ∧ Live B H ∧ BoxAt H b n ∧ n ≤ 2 ^ 30 ∧
  ∀ (v : V) (ps : List Pr) (H' : Hp), ps ≠ [] → ps.length ≤ 10 → (∀ p ∈ ps, GoodP p) → SameX [b] H H' → BoxAt H' b (n + 100) → Dp K (hide B H') v (histD ps) → Q v H'
theorem scPairs : FnScope ["_law_box_here", "_law_many_so", "_law_found", "_law_left", "_law_turn", "_law_way", "_law_told_so", "_law_letter"] ["_law_box_here", "_law_many_so"] (defScope sPairs) :=
  ⟨rfl, rfl, rfl, by decide +kernel, rfl, by decide +kernel, by decide +kernel⟩
theorem ok_pairs {f fT : Addr} {fd fdT : FuncData} (F : Fun K "_law_pairs" "_law_pairs" sPairs f fd)
    (FT : Fun K "_law_take" "_law_take" sTake fT fdT) (bT : Binds K fdT ["_law_box_here", "_law_below"] []) (mT : mg "_law_take" = some (.ref fT))
    (mn : mg "int" = none) (me : mg "len" = none) (mt : mg "tuple" = none) (mr : mg "range" = none) : FnOk P w K mg base CX0 2 f fd ["_law_box_here", "_law_many_so"] (spPairs K) := by
  have GT : FnOk P w K mg base CX0 1 fT fdT ["_law_box_here", "_law_below"] spTake := ok_take FT mn
  refine F.ok scPairs (fun vs H Q E h => ?_) (fun cdv A outer s H vs Q E hr h => ?_)
  · obtain ⟨B, b, n, rfl, _⟩ := h
    rfl
  · obtain ⟨B, b, n, rfl, hb, lv, hB, hn, q⟩ := h
    refine ⟨_, pss_cons (ps_set (i := 2) scPairs.nd rfl (.inl rfl) (pe_lst (pa_cons (pe_tup (pa_cons (pe_tup (pa_cons pe_str (pa_cons (pe_callTy call_tuple_of (by rfl) mt PyProof.Rows.boot_tuple (pa_cons
          (pe_lc (own := [("_law_letter", 7)]) (g := gName 7) (tt := tYes) rfl scPairs.nd (pi_str pe_str) (blkOk_by (N := ["_law_box_here", "_law_many_so", "_law_found", "_law_left", "_law_turn", "_law_way", "_law_told_so", "_law_letter"]) (sc := defScope sPairs) (by decide +kernel))
            (fun _ _ _ _ _ => pg_name (i := 7) scPairs.nd rfl (Or.inl rfl)) (fun _ _ _ _ _ => pts_nil) (fun _ _ _ _ _ => pe_tup (pa_cons (pv 7) (pa_cons (pe_tup (pa_cons pe_str pa_nil)) (pa_cons (pe_tup pa_nil) pa_nil))))) pa_nil)) pa_nil))) (pa_cons pe_non pa_nil))) pa_nil)))
      (pss_cons (ps_setLc (i := 3) (own := [("_law_letter", 7)]) (g := gName 7) (tt := tYes) rfl scPairs.nd rfl rfl (sw_true rfl rfl rfl (by decide +kernel)) (pi_str pe_str) (blkOk_by (N := ["_law_box_here", "_law_many_so", "_law_found", "_law_left", "_law_turn", "_law_way", "_law_told_so", "_law_letter"]) (sc := defScope sPairs) (by decide +kernel))
            (fun _ _ _ _ _ => pg_name (i := 7) scPairs.nd rfl (Or.inl rfl)) (fun _ _ _ _ _ => pts_nil) (fun _ _ _ _ _ => pe_tup (pa_cons (pv 7) (pa_cons (pe_tup (pa_cons pe_str pa_nil)) (pa_cons pe_non (pa_cons pe_bl (pa_cons pe_bl pa_nil)))))))
      (pss_cons (ps_for PassesOwn.never rfl (pi_range1 (by rfl) mr (pa_cons (pe_call GT hr (by rfl) mT FT.kp bT .nil pass0 (pa_cons (pv 0) (pa_cons (pe_op op_add (pv 1) pe_int) pa_nil))) pa_nil)) (pg_name (i := 4) scPairs.nd rfl (.inl rfl))
        (pss_cons (ps_set (i := 5) scPairs.nd rfl (.inl rfl) (pe_call GT hr (by rfl) mT FT.kp bT .nil pass0 (pa_cons (pv 0) (pa_cons pe_int pa_nil))))
        (pss_one (ps_if (pt_cmpR op_lt (pv 5) pe_int (nomark _))
          (pss_one (ps_expr (pe_bm PySem.F.plainAttrs_list PySem.F.slot_list_append PySem.F.type_list_append mt_append (pv 2) (pa_cons (pe_tup (pa_cons (pe_tup (pa_cons pe_str pa_nil)) (pa_cons (pe_tup pa_nil) pa_nil))) pa_nil))))
          (pss_one (ps_if (pt_cmpR op_eq (pv 5) pe_int (nomark _))
            (pss_one (ps_expr (pe_bm PySem.F.plainAttrs_list PySem.F.slot_list_append PySem.F.type_list_append mt_append (pv 2) (pa_cons (pe_tup (pa_cons (pe_tup (pa_cons pe_str (pa_cons (pe_op op_add pe_int (pv 5)) pa_nil))) (pa_cons pe_non pa_nil))) pa_nil))))
            (pss_cons (ps_set (i := 6) scPairs.nd rfl (.inl rfl) (pe_ifExp (pt_cmpR op_lt (pv 5) pe_int (nomark _)) (pe_callTy call_tuple_of (by rfl) mt PyProof.Rows.boot_tuple (pa_cons (pe_slice sl_list (pv 3) po_none (po_some (pe_call GT hr (by rfl) mT FT.kp bT .nil pass0 (pa_cons (pv 0) (pa_cons pe_int pa_nil))))) pa_nil)) (pe_tup pa_nil)))
            (pss_cons (ps_set (i := 3) scPairs.nd rfl (.inl rfl) (pe_slice sl_list (pv 3) (po_some (pe_callB call_len_seq (by rfl) me PySem.boot_len (pa_cons (pv 6) pa_nil))) po_none))
            (pss_one (ps_expr (pe_bm PySem.F.plainAttrs_list PySem.F.slot_list_append PySem.F.type_list_append mt_append (pv 2) (pa_cons (pe_tup (pa_cons (pe_tup (pa_cons pe_str (pa_cons (pe_op op_add pe_int (pv 5)) pa_nil))) (pa_cons (pv 6) pa_nil))) pa_nil))))))))))))
      (pss_one (ps_ret (pe_callTy call_tuple_of (by rfl) mt PyProof.Rows.boot_tuple (pa_cons (pv 2) pa_nil)))))), ?_⟩
    -- found = [(("put", ..), None)]
    refine ⟨abc, rfl, fun D nD => lc_fn (K := K) (walk_str (z := abc)) (Px := fun j x => x = .str (ltr j) ∧ j < 10) (fun i H x H' hy => ?_) (B := B) (i := 7) lv nD (by decide +kernel) (fun _ => trivial) reqD ?_ ?_⟩
    · obtain ⟨e, c, h1, h2⟩ := hy
      obtain ⟨rfl, hj⟩ := abc_at i c h1
      exact ⟨e, h2, hj⟩
    · intro j x H2 Q2 hj px lv2 k2
      obtain ⟨rfl, hj⟩ := px
      refine ⟨_, rfl, by show 1 ≤ sizeLine; decide, fun p1 n1 => ⟨by show 0 ≤ sizeLine; decide, fun p2 n2 => ⟨by show 3 ≤ sizeLine; decide, fun p3 n3 => k2 _ _ ?_ ?_⟩⟩⟩
      · exact ((same_upd n1).trans (same_upd n2)).trans (same_upd n3)
      · have g1 := dp_new (K := K) lv2 n1 (.cons (.str "nop") .nil)
        have g2 := dp_new (K := K) (lv2.upd (p := p1)) n2 .nil
        exact dp_new ((lv2.upd (p := p1)).upd (p := p2)) n3 (.cons (.str (ltr j)) (.cons (dp_same (hide_grow (lv2.upd (p := p1)) n2) g1) (.cons g2 .nil)))
    intro H1 acc s1 lv1 hD1 hacc
    have e10 : abc.cps.size = 10 := by decide +kernel
    rw [e10] at hacc
    refine ⟨D, acc, rfl, .inl ⟨SqL.of hD1, fun l nl => ⟨by show 2 ≤ sizeLine; decide, fun p1 n1 => ⟨by show 2 ≤ sizeLine; decide, fun p2 n2 => ⟨by show 1 ≤ sizeLine; decide, fun fl nfl => ?_⟩⟩⟩⟩⟩
    have lB : Live B H1 := lv1.tail
    have g1 := dp_new (K := K) lB nl (dps_same hide_leave hacc)
    have g2 := dp_new (K := K) (lB.upd (p := l)) n1 (.cons (.str "put") (.cons g1 .nil))
    have g3 := dp_new (K := K) ((lB.upd (p := l)).upd (p := p1)) n2 (.cons g2 (.cons .non .nil))
    have lB3 := ((lB.upd (p := l) (o := .tup acc)).upd (p := p1) (o := .tup [.str "put", .ref l])).upd (p := p2) (o := .tup [.ref p1, .non])
    have s3 : SameX [b] H (upd (upd (upd H1 l (.tup acc)) p1 (.tup [.str "put", .ref l])) p2 (.tup [.ref p1, .non])) := fun c o _ e => by
      have e1 := s1 c o (fun z => ne_of_none e nD (List.mem_singleton.mp z)) e
      exact same_upd n2 _ _ (same_upd n1 _ _ (same_upd nl _ _ e1))
    have b3 : BoxAt (upd (upd (upd H1 l (.tup acc)) p1 (.tup [.str "put", .ref l])) p2 (.tup [.ref p1, .non])) b n := by
      obtain ⟨x, y, c, z, z2⟩ := hB
      have e1 := s1 b _ (fun z' => by
        have := List.mem_singleton.mp z'
        rw [this] at hb
        exact lv.new nD hb) z
      exact ⟨x, y, c, same_upd n2 _ _ (same_upd n1 _ _ (same_upd nl _ _ e1)), z2⟩
    replace g3 : Dp K (hide B _) (.ref p2) (prD pPut) := g3
    generalize upd (upd (upd H1 l (.tup acc)) p1 (.tup [.str "put", .ref l])) p2 (.tup [.ref p1, .non]) = H3 at nfl g3 lB3 s3 b3
    have flB : fl ∉ B := lB3.new nfl
    have flNew : H fl = none := by
      cases e : H fl with
      | none => rfl
      | some o =>
        have nb : fl ∉ [b] := fun z => flB (by rw [List.mem_singleton.mp z]; exact hb)
        rw [s3 fl o nb e] at nfl
        cases nfl
    have lv4 : Live (fl :: B) (upd H3 fl (.lst [.ref p2])) := Live.cons lB3.upd upd_same
    have g4 : Dp K (hide (fl :: B) (upd H3 fl (.lst [.ref p2]))) (.ref p2) (prD pPut) := by
      rw [hide_upd_in List.mem_cons_self]
      exact dp_same (SameX.enter (C := []) (SameX.refl _ _) (fun c hc => absurd hc List.not_mem_nil) nfl) g3
    have s4 : SameX [b] H (upd H3 fl (.lst [.ref p2])) := s3.trans (SameX.of (same_upd nfl))
    have b4 := b3.same (same_upd (o := HO.lst [.ref p2]) nfl)
    have f4 : (upd H3 fl (.lst [.ref p2])) fl = some (.lst [.ref p2]) := upd_same
    generalize upd H3 fl (.lst [.ref p2]) = H4 at lv4 g4 s4 b4 f4
    -- left
    refine ⟨abc, rfl, fun L nL => lc_fn (K := K) (walk_str (z := abc)) (Px := fun j x => x = .str (ltr j) ∧ j < 10) (fun i H x H' hy => ?_) (B := fl :: B) (i := 7) lv4 nL (by decide +kernel) (fun _ => trivial) cmpD ?_ ?_⟩
    · obtain ⟨e, c, h1, h2⟩ := hy
      obtain ⟨rfl, hj⟩ := abc_at i c h1
      exact ⟨e, h2, hj⟩
    · intro j x H2 Q2 hj px lv2 k2
      obtain ⟨rfl, hj⟩ := px
      refine ⟨_, rfl, by show 1 ≤ sizeLine; decide, fun p1 n1 => ⟨by show 5 ≤ sizeLine; decide, fun p3 n3 => k2 _ _ ?_ ?_⟩⟩
      · exact (same_upd n1).trans (same_upd n3)
      · have g1 := dp_new (K := K) lv2 n1 (.cons (.str "done") .nil)
        exact dp_new (lv2.upd (p := p1)) n3 (.cons (.str (ltr j)) (.cons g1 (.cons .non (.cons (.bl false) (.cons (.bl false) .nil)))))
    intro H5 acc5 s5 lv5 hL5 hacc5
    rw [e10] at hacc5
    have nLf : L ∉ fl :: B := lv4.new nL
    have P5 : PairsAt K B b fl H5 L 0 [pPut] n := by
      have hs : Same (hide (fl :: B) H4) (hide (L :: fl :: B) H5) := SameX.enter (C := []) s5 (fun c hc => absurd hc List.not_mem_nil) nL
      have up : ∀ c o, H4 c = some o → H5 c = some o := fun c o e => s5 c o (fun z => ne_of_none e nL (List.mem_singleton.mp z)) e
      refine ⟨b4.same up, ⟨_, up _ _ f4, .cons (dp_same (hs.trans hide_leave) g4) .nil⟩, ⟨acc5, hL5, dps_same hide_leave hacc5⟩, nLf, lv5.tail, flB, fun p hp => ?_⟩
      rw [List.mem_singleton.mp hp]
      exact good_put
    have sx5 : SameX [b] H H5 := s4.trans (SameX.of fun c o e => s5 c o (fun z => ne_of_none e nL (List.mem_singleton.mp z)) e)
    refine ⟨_, rfl, _, rfl, _, _, rfl, rfl, b, n, _, rfl, by decide, by decide, P5.box, by omega, fun r H6 r0 r1 s6 b6 => ⟨r, rfl, by omega, by omega, for_range (lo := 0) (n := r.toNat)
      (fun i σ H' => ∃ ll k ps y4 y5 y6, σ = [some (.ref b), some (.int 9), some (.ref fl), some (.ref ll), y4, y5, y6, none] ∧ SameX [b] H H' ∧ PairsAt K B b fl H' ll k ps (n + 1 + 2 * i) ∧ ps.length = i + 1)
      ⟨L, 0, [pPut], none, none, none, rfl, sx5.trans s6, P5.draw hb s6 b6, rfl⟩ ?_ ?_⟩⟩
    · rintro i σ H' hi ⟨ll, k, ps, y4, y5, y6, rfl, sx, S, hl⟩
      have hi9 : i < 9 := by omega
      -- the way
      refine ⟨_, rfl, b, _, 9, rfl, by decide, by decide, S.box, by omega, fun way H7 w0 w1 s7 b7 => ?_⟩
      have S7 := S.draw hb s7 b7
      have sx7 := sx.trans s7
      refine ⟨_, rfl, _, _, rfl, rfl, _, rfl, ite2 (fun e => ?_) (fun e => ?_)⟩
      · obtain ⟨fv, f1, f2⟩ := S7.found
        have lf := dps_len f2
        rw [List.length_map] at lf
        refine ⟨_, rfl, .inl ⟨rfl, _, .inl (.inl f1)⟩, by show 1 ≤ sizeLine; decide, fun p1 n1 => ⟨by show 0 ≤ sizeLine; decide, fun p2 n2 => ⟨by show 2 ≤ sizeLine; decide, fun p3 n3 => ?_⟩⟩⟩
        have g1 := dp_new (K := K) S7.live n1 (.cons (.str "quiet") .nil)
        have g2 := dp_new (K := K) (S7.live.upd (p := p1)) n2 .nil
        have g3 := dp_new (K := K) ((S7.live.upd (p := p1)).upd (p := p2)) n3 (.cons (dp_same (hide_grow (S7.live.upd (p := p1)) n2) g1) (.cons g2 .nil))
        have sm := same3 (o3 := HO.tup [.ref p1, .ref p2]) n1 n2 n3
        exact ⟨fl, fv, _, rfl, rfl, sm _ _ f1, small1000 (by omega), ll, k, ps ++ [pQuiet], _, _, _, rfl, sx_put sx7 sm flNew, (S7.put hb sm f1 (p := pQuiet) g3 good_quiet).le (by omega), by rw [List.length_append, hl]; rfl⟩
      · have e2 : 2 ≤ way := by
          have := of_decide_eq_false (Bool.eq_false_iff.mpr e)
          omega
        refine ⟨_, rfl, rfl, _, rfl, ite2 (fun e => ?_) (fun e => ?_)⟩
        · have ew : way = 2 := V.int.inj (of_decide_eq_true e)
          subst ew
          obtain ⟨fv, f1, f2⟩ := S7.found
          have lf := dps_len f2
          rw [List.length_map] at lf
          refine ⟨_, rfl, .inl ⟨rfl, _, .inl (.inl f1)⟩, _, rfl, _, _, rfl, rfl, by show 2 ≤ sizeLine; decide, fun p1 n1 => ⟨by show 2 ≤ sizeLine; decide, fun p3 n3 => ?_⟩⟩
          have g1 := dp_new (K := K) S7.live n1 (.cons (.str "lend") (.cons (.int (1 + 2)) .nil))
          have g3 := dp_new (K := K) (S7.live.upd (p := p1)) n3 (.cons g1 (.cons .non .nil))
          have sm := same2 (o2 := HO.tup [.ref p1, .non]) n1 n3
          exact ⟨fl, fv, _, rfl, rfl, sm _ _ f1, small1000 (by omega), ll, k, ps ++ [pLend 3], _, _, _, rfl, sx_put sx7 sm flNew, (S7.put hb sm f1 (p := pLend 3) g3 good_lend).le (by omega), by rw [List.length_append, hl]; rfl⟩
        · obtain ⟨lv, l1, l2⟩ := S7.left
          refine ⟨_, rfl, _, _, rfl, rfl, _, rfl, ite2 (fun e => ?_) (fun e => ?_)⟩
          · refine ⟨_, rfl, _, rfl, b, _, 3, rfl, by decide, by decide, S7.box, by omega, fun r2 H8 r20 r21 s8 b8 => ?_⟩
            have S8 := S7.draw hb s8 b8
            obtain ⟨lv8, l81, l82⟩ := S8.left
            obtain ⟨R, rfl⟩ : ∃ R : Nat, r2 = (R : Int) := ⟨r2.toNat, by omega⟩
            refine ⟨R, rfl, ll, lv8, rfl, SqL.of l81, fun p np => ⟨p, _, rfl, .inl ⟨SqL.of upd_same, fun l nl => ?_⟩⟩⟩
            simp only [cut_take] at nl ⊢
            have sA : Same H8 (upd (upd H8 p (HO.lst (lv8.take R))) l (HO.tup (lv8.take R))) := same2 np nl
            have S9 := (S8.grow sA).le (show n + 1 + 2 * i + 1 + 1 ≤ n + 1 + 2 * (i + 1) by omega)
            have sx9 := sx7.trans (s8.trans (SameX.of (B := [b]) sA))
            have d9 : Dp K (hide (fl :: B) (upd (upd H8 p (HO.lst (lv8.take R))) l (HO.tup (lv8.take R)))) (.ref l) (.tuple ((cmps k).take R)) := dp_new (S8.live.upd (p := p)) nl (dps_same (hide_grow S8.live np) (dps_take R l82))
            have t9 : (upd (upd H8 p (HO.lst (lv8.take R))) l (HO.tup (lv8.take R))) l = some (.tup (lv8.take R)) := upd_same
            generalize upd (upd H8 p (HO.lst (lv8.take R))) l (HO.tup (lv8.take R)) = H9 at S9 sx9 d9 t9
            generalize lv8.take R = tv at t9
            obtain ⟨fv, f1, f2⟩ := S9.found
            have lf := dps_len f2
            rw [List.length_map] at lf
            obtain ⟨lv9, l91, l92⟩ := S9.left
            refine ⟨_, rfl, _, rfl, l, tv, rfl, .inr (SqT.of t9), _, rfl, ll, lv9, rfl, SqL.of l91, fun p5 n5 => ?_⟩
            simp only [cut_drop] at n5 ⊢
            have sc := same_upd (o := HO.lst (lv9.drop tv.length)) n5
            have S10 := S9.cut (r := tv.length) l91 n5
            have d10 := dp_same (hide_of_same sc) d9
            have f10 := sc _ _ f1
            have sx10 := sx9.trans (SameX.of (B := [b]) sc)
            generalize upd H9 p5 (HO.lst (lv9.drop tv.length)) = H10 at S10 d10 f10 sx10
            refine ⟨_, rfl, .inl ⟨rfl, _, .inl (.inl f10)⟩, _, rfl, _, _, rfl, rfl, by show 2 ≤ sizeLine; decide, fun p1 n1 => ⟨_, rfl, by show 2 ≤ sizeLine; decide, fun p3 n3 => ?_⟩⟩
            have g1 := dp_new (K := K) S10.live n1 (.cons (.str "reap") (.cons (.int (1 + way)) .nil))
            have g3 := dp_new (K := K) (S10.live.upd (p := p1)) n3 (.cons g1 (.cons (dp_same (hide_grow S10.live n1) d10) .nil))
            have sm := same2 (o2 := HO.tup [.ref p1, .ref l]) n1 n3
            exact ⟨fl, fv, _, rfl, rfl, sm _ _ f10, small1000 (by omega), p5, k + tv.length, ps ++ [pReap (1 + way) ((cmps k).take R)], _, _, _, rfl, sx_put sx10 sm flNew, (S10.put hb sm f10 (p := pReap (1 + way) ((cmps k).take R)) g3 (good_reap (by omega) (by omega))).le (by omega), by rw [List.length_append, hl]; rfl⟩
          · refine ⟨by show 0 ≤ sizeLine; decide, fun l nl => ?_⟩
            have sA := same_upd (o := HO.tup []) nl
            have S9 := (S7.grow sA).le (show n + 1 + 2 * i + 1 ≤ n + 1 + 2 * (i + 1) by omega)
            have sx9 := sx7.trans (SameX.of (B := [b]) sA)
            have d9 : Dp K (hide (fl :: B) (upd H7 l (HO.tup []))) (.ref l) (.tuple ((cmps k).take 0)) := dp_new S7.live nl .nil
            have t9 : (upd H7 l (HO.tup [])) l = some (.tup []) := upd_same
            generalize upd H7 l (HO.tup []) = H9 at S9 sx9 d9 t9
            obtain ⟨tv, htv⟩ : ∃ tv : List V, tv = [] := ⟨_, rfl⟩
            rw [← htv] at t9
            obtain ⟨R, hR⟩ : ∃ R : Nat, R = 0 := ⟨_, rfl⟩
            rw [← hR] at d9
            obtain ⟨fv, f1, f2⟩ := S9.found
            have lf := dps_len f2
            rw [List.length_map] at lf
            obtain ⟨lv9, l91, l92⟩ := S9.left
            refine ⟨_, rfl, _, rfl, l, tv, rfl, .inr (SqT.of t9), _, rfl, ll, lv9, rfl, SqL.of l91, fun p5 n5 => ?_⟩
            simp only [cut_drop] at n5 ⊢
            have sc := same_upd (o := HO.lst (lv9.drop tv.length)) n5
            have S10 := S9.cut (r := tv.length) l91 n5
            have d10 := dp_same (hide_of_same sc) d9
            have f10 := sc _ _ f1
            have sx10 := sx9.trans (SameX.of (B := [b]) sc)
            generalize upd H9 p5 (HO.lst (lv9.drop tv.length)) = H10 at S10 d10 f10 sx10
            refine ⟨_, rfl, .inl ⟨rfl, _, .inl (.inl f10)⟩, _, rfl, _, _, rfl, rfl, by show 2 ≤ sizeLine; decide, fun p1 n1 => ⟨_, rfl, by show 2 ≤ sizeLine; decide, fun p3 n3 => ?_⟩⟩
            have g1 := dp_new (K := K) S10.live n1 (.cons (.str "reap") (.cons (.int (1 + way)) .nil))
            have g3 := dp_new (K := K) (S10.live.upd (p := p1)) n3 (.cons g1 (.cons (dp_same (hide_grow S10.live n1) d10) .nil))
            have sm := same2 (o2 := HO.tup [.ref p1, .ref l]) n1 n3
            exact ⟨fl, fv, _, rfl, rfl, sm _ _ f10, small1000 (by omega), p5, k + tv.length, ps ++ [pReap (1 + way) ((cmps k).take R)], _, _, _, rfl, sx_put sx10 sm flNew, (S10.put hb sm f10 (p := pReap (1 + way) ((cmps k).take R)) g3 (good_reap (by omega) (by omega))).le (by omega), by rw [List.length_append, hl]; rfl⟩
    · rintro σ H' ⟨ll, k, ps, y4, y5, y6, rfl, sx, S, hl⟩
      obtain ⟨fv, f1, f2⟩ := S.found
      refine ⟨_, rfl, fl, fv, rfl, .inl ⟨SqL.of f1, fun l nl => q _ ps _ (fun z => by rw [z] at hl; cases hl) (by omega) S.good (sx.trans (SameX.of (same_upd nl))) ((S.box.same (same_upd nl)).le (by omega)) ?_⟩⟩
      exact dp_new S.live.tail nl (dps_same hide_leave f2)
end
end KV

namespace KV
open PySem PySem.Spec PyProof.Rows L2 RZ
/-! ### closed, read from the last quiet on -/
def NoQ (ps : List Pr) (q : Nat) : Prop := ∀ (i : Nat) (p : Pr), q < i → ps[i]? = some p → p.word ≠ "quiet"
theorem last_quiet : ∀ ps : List Pr, (∃ p ∈ ps, p.word = "quiet") → ∃ (q : Nat) (p : Pr), ps[q]? = some p ∧ p.word = "quiet" ∧ NoQ ps q
  | [], ⟨p, h, _⟩ => by cases h
  | a :: ps, ⟨p, h, hw⟩ => by
    by_cases k : ∃ p ∈ ps, p.word = "quiet"
    · obtain ⟨q, p, h1, h2, h3⟩ := last_quiet ps k
      refine ⟨q + 1, p, h1, h2, fun i p' hi h => ?_⟩
      cases i with
      | zero => omega
      | succ i => exact h3 i p' (by omega) h
    · have ha : a.word = "quiet" := by
        rcases List.mem_cons.mp h with rfl | h
        · exact hw
        · exact absurd ⟨p, h, hw⟩ k
      refine ⟨0, a, rfl, ha, fun i p' hi h => ?_⟩
      cases i with
      | zero => omega
      | succ i => exact fun e => k ⟨p', List.mem_of_getElem? (show ps[i]? = some p' from h), e⟩
theorem back_at {ps : List Pr} {j : Nat} {p : Pr} (h : ps[j]? = some p) : backP ps (j + 1) = if p.word = "reap" ∧ isER p = false then backP ps j else decide (p.word = "quiet") := by
  show (match ps[j]? with | none => false | some p => if p.word = "reap" ∧ isER p = false then backP ps j else decide (p.word = "quiet")) = _
  rw [h]
theorem back_no {ps : List Pr} (h : ∀ p ∈ ps, p.word ≠ "quiet") : ∀ j, backP ps j = false
  | 0 => rfl
  | j + 1 => by
    cases e : ps[j]? with
    | none =>
      show (match ps[j]? with | none => false | some p => if p.word = "reap" ∧ isER p = false then backP ps j else decide (p.word = "quiet")) = _
      rw [e]
    | some p =>
      rw [back_at e, back_no h j, decide_eq_false (h p (List.mem_of_getElem? e))]
      split <;> rfl
theorem closed_no {ps : List Pr} (h : ∀ p ∈ ps, p.word ≠ "quiet") : closedP ps = false := by
  cases hn : ps.length with
  | zero =>
    unfold closedP
    rw [hn]
  | succ n =>
    rw [closed_at hn (List.getElem?_eq_getElem (by omega)), back_no h n, Bool.and_false]
/-- a reap that tells something -/
def fullR (p : Pr) : Prop := p.word = "reap" ∧ noneTold p.told = false
theorem full_iff (p : Pr) : fullR p ↔ (p.word = "reap" ∧ isER p = false) := by
  unfold fullR isER
  constructor
  · intro h
    refine ⟨h.1, ?_⟩
    rw [h.2, Bool.and_false]
  · intro h
    refine ⟨h.1, ?_⟩
    have := h.2
    rw [decide_eq_true h.1, Bool.true_and] at this
    exact this
theorem back_iff {ps : List Pr} {q : Nat} {pq : Pr} (h1 : ps[q]? = some pq) (h2 : pq.word = "quiet") (h3 : NoQ ps q) : ∀ d, q + 1 + d ≤ ps.length → (backP ps (q + 1 + d) = true ↔ ∀ (i : Nat) (p : Pr), q < i → i < q + 1 + d → ps[i]? = some p → fullR p)
  | 0, _ => by
    have e : backP ps (q + 1) = true := by
      rw [back_at h1, if_neg, decide_eq_true h2]
      intro z
      have : ("reap" : Str) = "quiet" := z.1.symm.trans h2
      exact absurd this (by decide +kernel)
    rw [Nat.add_zero]
    exact ⟨fun _ i p a b => by omega, fun _ => e⟩
  | d + 1, hd => by
    have ih := back_iff h1 h2 h3 d (by omega)
    have hlt : q + 1 + d < ps.length := by omega
    have e := List.getElem?_eq_getElem hlt
    rw [show q + 1 + (d + 1) = (q + 1 + d) + 1 from rfl, back_at e]
    have nq := h3 (q + 1 + d) _ (by omega) e
    by_cases c : (ps[q + 1 + d]).word = "reap" ∧ isER ps[q + 1 + d] = false
    · rw [if_pos c, ih]
      constructor
      · intro h i p a b hp
        by_cases ei : i = q + 1 + d
        · subst ei
          rw [e] at hp
          cases hp
          exact (full_iff _).mpr c
        · exact h i p a (by omega) hp
      · intro h i p a b hp
        exact h i p a (by omega) hp
    · rw [if_neg c, decide_eq_false nq]
      constructor
      · intro z
        cases z
      · intro h
        exact absurd ((full_iff _).mp (h _ _ (by omega) (by omega) e)) c
/-- the indices at which nothing is told -/
def empties (rest : List Pr) : List Nat := (List.range rest.length).filter fun j => match rest[j]? with
  | some p => noneTold p.told
  | none => false
theorem range_succ_filter (f : Nat → Bool) (m : Nat) : (List.range (m + 1)).filter f = [m] ↔ (f m = true ∧ ∀ j, j < m → f j = false) := by
  rw [List.range_succ, List.filter_append]
  cases e : f m with
  | true =>
    have e1 : [m].filter f = [m] := by rw [List.filter_cons, e]; rfl
    rw [e1]
    constructor
    · intro h
      have hnil : (List.range m).filter f = [] := by
        have hl := congrArg List.length h
        rw [List.length_append] at hl
        exact List.length_eq_zero_iff.mp (by simp at hl; exact List.length_eq_zero_iff.mpr (by simpa using hl))
      refine ⟨rfl, fun j hj => ?_⟩
      have h3 := List.filter_eq_nil_iff.mp hnil j (List.mem_range.mpr hj)
      cases e2 : f j with
      | false => rfl
      | true => exact absurd e2 h3
    · intro h
      have : (List.range m).filter f = [] := List.filter_eq_nil_iff.mpr fun j hj => by
        rw [h.2 j (List.mem_range.mp hj)]
        exact Bool.false_ne_true
      rw [this]
      rfl
  | false =>
    have e1 : [m].filter f = [] := by rw [List.filter_cons, e]; rfl
    rw [e1, List.append_nil]
    constructor
    · intro h
      have : m ∈ (List.range m).filter f := by rw [h]; exact List.mem_cons_self
      have := List.mem_range.mp (List.mem_filter.mp this).1
      omega
    · intro h
      cases h.1
theorem closed_shut {ps : List Pr} {q : Nat} {pq : Pr} (h1 : ps[q]? = some pq) (h2 : pq.word = "quiet") (h3 : NoQ ps q) :
    closedP ps = (if ps.drop (q + 1) = [] ∨ ¬ ((ps.drop (q + 1)).all fun p => decide (p.word = "reap")) = true then false else decide (empties (ps.drop (q + 1)) = [(ps.drop (q + 1)).length - 1])) := by
  have hq : q < ps.length := (List.getElem?_eq_some_iff.mp h1).1
  have hR : (ps.drop (q + 1)).length = ps.length - (q + 1) := List.length_drop
  have at_ : ∀ j, (ps.drop (q + 1))[j]? = ps[q + 1 + j]? := fun j => List.getElem?_drop
  generalize hg : ps.drop (q + 1) = rest at hR at_
  cases hm : rest.length with
  | zero =>
    have er : rest = [] := List.length_eq_zero_iff.mp hm
    rw [if_pos (.inl er)]
    have hn : ps.length = q + 1 := by omega
    rw [closed_at hn h1]
    have : isER pq = false := by
      unfold isER
      rw [decide_eq_false, Bool.false_and]
      intro z
      have : ("reap" : Str) = "quiet" := z.symm.trans h2
      exact absurd this (by decide +kernel)
    rw [this, Bool.false_and]
  | succ m =>
    have ne : rest ≠ [] := fun z => by rw [z] at hm; cases hm
    have hn : ps.length = (q + 1 + m) + 1 := by omega
    have hl : q + 1 + m < ps.length := by omega
    have el := List.getElem?_eq_getElem hl
    rw [closed_at hn el]
    have bi := back_iff h1 h2 h3 m (by omega)
    by_cases all : (rest.all fun p => decide (p.word = "reap")) = true
    · rw [if_neg (by
        intro z
        rcases z with z | z
        · exact ne z
        · exact z all)]
      have reap : ∀ j, j ≤ m → ∀ p, ps[q + 1 + j]? = some p → p.word = "reap" := fun j hj p hp => by
        rw [← at_] at hp
        exact of_decide_eq_true (List.all_eq_true.mp all p (List.mem_of_getElem? hp))
      have lastR : (ps[q + 1 + m]).word = "reap" := reap m (Nat.le_refl _) _ el
      have eER : isER ps[q + 1 + m] = noneTold (ps[q + 1 + m]).told := by
        unfold isER
        rw [decide_eq_true lastR, Bool.true_and]
      have key : empties rest = [rest.length - 1] ↔ (isER ps[q + 1 + m] = true ∧ backP ps (q + 1 + m) = true) := by
        unfold empties
        rw [hm, Nat.add_sub_cancel, range_succ_filter, bi, eER, at_, el]
        constructor
        · rintro ⟨a, b⟩
          refine ⟨a, fun i p hi1 hi2 hp => ?_⟩
          have hb := b (i - (q + 1)) (by omega)
          rw [at_, show q + 1 + (i - (q + 1)) = i by omega, hp] at hb
          refine ⟨reap (i - (q + 1)) (by omega) p (by rw [show q + 1 + (i - (q + 1)) = i by omega]; exact hp), hb⟩
        · rintro ⟨a, b⟩
          refine ⟨a, fun j hj => ?_⟩
          have hlj : q + 1 + j < ps.length := by omega
          have ej := List.getElem?_eq_getElem hlj
          rw [at_, ej]
          exact (b (q + 1 + j) _ (by omega) (by omega) ej).2
      by_cases c : isER ps[q + 1 + m] = true ∧ backP ps (q + 1 + m) = true
      · rw [← hm, decide_eq_true (key.mpr c), c.1, c.2]
        rfl
      · rw [← hm, decide_eq_false (fun z => c (key.mp z))]
        cases e1 : isER ps[q + 1 + m] with
        | false => rfl
        | true =>
          cases e2 : backP ps (q + 1 + m) with
          | false => rfl
          | true => exact absurd ⟨e1, e2⟩ c
    · rw [if_pos (.inr all)]
      -- a part that is no reap
      obtain ⟨p, hp, hw⟩ : ∃ p ∈ rest, ¬ p.word = "reap" := by
        refine Classical.byContradiction fun z => all ?_
        rw [List.all_eq_true]
        intro p hp
        exact decide_eq_true (Classical.byContradiction fun k => z ⟨p, hp, k⟩)
      obtain ⟨j, hj⟩ := List.getElem?_of_mem hp
      have hj' := hj
      rw [at_] at hj'
      have jl : j < rest.length := (List.getElem?_eq_some_iff.mp hj).1
      by_cases ej : j = m
      · subst ej
        rw [el] at hj'
        have e3 := Option.some.inj hj'
        have : isER ps[q + 1 + j] = false := by
          unfold isER
          rw [e3, decide_eq_false hw, Bool.false_and]
        rw [this, Bool.false_and]
      · have : backP ps (q + 1 + m) = false := by
          cases e2 : backP ps (q + 1 + m) with
          | false => rfl
          | true => exact absurd (bi.mp e2 (q + 1 + j) p (by omega) (by omega) hj').1 hw
        rw [this, Bool.and_false]
/-! ### equal data -/
theorem eqv_nil : ∀ ds : List PyData, PyData.eqvAll ds [] = ds.isEmpty
  | [] => by simp [PyData.eqvAll]
  | d :: ds => by simp [PyData.eqvAll]
theorem eqv_told (t : Option (List PyData)) : PyData.eqv (toldD t) (.tuple []) = noneTold t := by
  cases t with
  | none => simp [toldD, PyData.eqv, noneTold]
  | some ds =>
    cases ds with
    | nil => simp [toldD, PyData.eqv, PyData.eqvAll, noneTold]
    | cons d ds => simp [toldD, PyData.eqv, PyData.eqvAll, noneTold]
theorem eqv_one (is : List Nat) (z : Nat) : PyData.eqv (.list (is.map fun (i : Nat) => PyData.int (i : Int))) (.list [.int (z : Int)]) = decide (is = [z]) := by
  match is with
  | [] =>
    rw [decide_eq_false (by intro h; cases h)]
    simp [PyData.eqv, PyData.eqvAll]
  | [a] =>
    simp only [List.map_cons, List.map_nil, PyData.eqv, PyData.eqvAll, Bool.and_true]
    by_cases h : a = z
    · subst h
      simp
    · rw [decide_eq_false (fun e => h (List.cons.inj e).1)]
      exact beq_eq_false_iff_ne.mpr (by omega)
  | a :: b :: r =>
    rw [decide_eq_false (by intro h; cases h)]
    simp [PyData.eqv, PyData.eqvAll]
mutual
theorem depth_ok : ∀ (d : PyData) (n : Nat), okD d n = true → d.depth ≤ n
  | .list xs, n, h => by
    obtain ⟨m, rfl, _, h2⟩ := ok_seq (.inl rfl) h
    have := depths_ok xs m h2
    simp only [PyData.depth]
    omega
  | .tuple xs, n, h => by
    obtain ⟨m, rfl, _, h2⟩ := ok_seq (.inr rfl) h
    have := depths_ok xs m h2
    simp only [PyData.depth]
    omega
  | .none, n, _ => by simp [PyData.depth]
  | .bool _, n, _ => by simp [PyData.depth]
  | .int _, n, _ => by simp [PyData.depth]
  | .str _, n, _ => by simp [PyData.depth]
  | .dict _, n, h => by simp [okD] at h
theorem depths_ok : ∀ (ds : List PyData) (n : Nat), okDs ds n = true → PyData.depthAll ds ≤ n
  | [], n, _ => by simp [PyData.depthAll]
  | d :: ds, n, h => by
    simp only [okDs, Bool.and_eq_true] at h
    have h1 := depth_ok d n h.1
    have h2 := depths_ok ds n h.2
    simp only [PyData.depthAll]
    omega
end
theorem shaped_of {d : PyData} {n : Nat} (h1 : d.canLay0 = true) (h2 : okD d n = true) (h3 : n ≤ 60) : SeqAt.shaped d = true := by
  have := depth_ok d n h2
  show (d.canLay0 && decide (d.depth ≤ 64)) = true
  rw [h1, decide_eq_true (by omega)]
  rfl
theorem flat_hist {ps : List Pr} (h : ∀ p ∈ ps, GoodP p) : tupD (histD ps) = histD ps := by
  unfold histD
  simp only [tupD, tupDs_map, List.map_map]
  exact congrArg _ (List.map_congr_left fun p hp => (h p hp).flat)
theorem good_hist {ps : List Pr} (h : ∀ p ∈ ps, GoodP p) (hl : ps.length ≤ 20) : fineD (histD ps) = true ∧ okD (histD ps) 9 = true ∧ (histD ps).bulk ≤ 301 * ps.length ∧ nodesD (histD ps) ≤ 60 * ps.length + 1 := by
  have key : ∀ qs : List Pr, (∀ p ∈ qs, GoodP p) → (qs.map prD).all fineD = true ∧ okDs (qs.map prD) 8 = true ∧ PyData.bulkAll (qs.map prD) ≤ 301 * qs.length ∧ nodesDs (qs.map prD) ≤ 60 * qs.length := by
    intro qs
    induction qs with
    | nil => exact fun _ => ⟨rfl, by simp [okDs], by simp [PyData.bulkAll], by simp [nodesDs]⟩
    | cons p qs ih =>
      intro hq
      obtain ⟨i1, i2, i3, i4⟩ := ih fun x hx => hq x (List.mem_cons_of_mem _ hx)
      have g := hq p List.mem_cons_self
      have g4 := g.bulk
      have g5 := g.nodes
      refine ⟨?_, ?_, ?_, ?_⟩
      · rw [List.map_cons, List.all_cons, g.fine, i1]
        rfl
      · simp only [List.map_cons, okDs, g.ok, i2, Bool.and_self]
      · simp only [List.map_cons, PyData.bulkAll, List.length_cons]
        omega
      · simp only [List.map_cons, nodesDs, List.length_cons]
        omega
  obtain ⟨k1, k2, k3, k4⟩ := key ps h
  refine ⟨?_, (ok_mk (by rw [List.length_map]; omega) k2).2, ?_, ?_⟩
  · unfold histD
    rw [fine_tup]
    exact k1
  · unfold histD
    simp only [PyData.bulk]
    exact k3
  · unfold histD
    simp only [nodesD]
    omega
end KV

namespace KV
open PySem PySem.Spec PyProof.Rows L2 RZ
abbrev sShut : Stmt := topS 13
theorem ix_seqK {X : Cx} {K : PySem.W.Frag} (h : X.K = K) : IxR X (rIx K) := by
  subst h
  exact ix_seq
theorem op_eqDK {X : Cx} {K : PySem.W.Frag} (h : X.K = K) (hu : X.A.units + 64 < cLine) : OpR X (compareOp .Eq) (rEqD K) := by
  subst h
  exact op_eqD hu
/-- a comprehension with a test: the data F j of the kept places -/
theorem lc_flt {K : PySem.W.Frag} {J : It} {n : Nat} {G : Hp → Prop} {Y : Nat → Hp → V → Hp → Prop} (w : Walk J n G Y) (hY : ∀ i H x H', Y i H x H' → Same H H') {B : List Addr} {σ : L2.St} {vs : List Nat} {g : TG} {tt : TT} {te : TE} {H1 : Hp} {D : Addr} {Qd : Hp → Prop}
    (hB : Live B H1) (nD : H1 D = none) (hz : n ≤ 1000) (hG : ∀ H, SameX [D] H1 H → G H) (keep : Nat → Bool) (F : Nat → PyData)
    (step : ∀ (j : Nat) (x : V) (H H' : Hp) (K1 : VK) (N : Hp → Prop), j < n → SameX [D] H1 H → Live (D :: B) H → Y j H x H' → (keep j = true → ∀ y H4, Same H H4 → Dp K (hide (D :: B) H4) y (F j) → K1 y H4) → (keep j = false → ∀ H4, Same H H4 → N H4) →
      g x (wipe σ vs) H' fun σ2 H2 => wipe σ2 vs = wipe σ vs ∧ tt σ2 H2 fun b H3 => if b = true then te σ2 H3 K1 else N H3)
    (hd : ∀ H acc, SameX [D] H1 H → Live (D :: B) H → H D = some (.lst acc) → DpAll K (hide (D :: B) H) acc (((List.range n).filter keep).map F) → Qd H) :
    ∃ W : Nat → Nat → Hp → Prop, (∃ m, W 0 m (upd H1 D (.lst []))) ∧ ∀ i' m H, W i' m H →
      (J.stop i' H ∧ Qd H) ∨ (J.go i' H ∧ ∃ Nx : Hp → Prop, (∀ H', Nx H' → ∃ m', m' < m ∧ W (i' + 1) m' H') ∧ ∀ x H', J.yld i' H x H' → g x (wipe σ vs) H' fun σ2 H2 => wipe σ2 vs = wipe σ vs ∧ tt σ2 H2 fun b H3 =>
        if b = true then te σ2 H3 fun y H4 => ∃ acc, H4 D = some (.lst acc) ∧ acc.length < sizeLine ∧ Nx (upd H4 D (.lst (acc ++ [y]))) else Nx H3) := by
  refine lc_it w (fun j H => SameX [D] H1 H ∧ Live (D :: B) H ∧ ∃ acc, H D = some (.lst acc) ∧ acc.length ≤ j ∧ DpAll K (hide (D :: B) H) acc (((List.range j).filter keep).map F)) ?_ (fun j H _ h => hG H h.1) ?_ ?_
  · refine ⟨fun c o n e => ?_, Live.cons hB.upd upd_same, [], upd_same, Nat.le_refl _, .nil⟩
    rw [upd_ne (ne_of_none e nD)]
    exact e
  · rintro j x H H' hj ⟨hs, lv, acc, hD, hacc, ha⟩ hy
    refine step j x H H' _ _ hj hs lv hy (fun hk y H4 s4 dp4 => ?_) fun hk H4 s4 => ?_
    · have hD4 : H4 D = some (.lst acc) := s4 D _ hD
      refine ⟨acc, hD4, small1000 (by omega), hs.trans ((SameX.of s4).trans (sameX_upd List.mem_cons_self)), Live.upd (lv.same s4), acc ++ [y], upd_same, by rw [List.length_append]; exact Nat.succ_le_succ hacc, ?_⟩
      rw [hide_upd_in List.mem_cons_self, List.range_succ, List.filter_append, List.filter_cons, hk, List.map_append]
      exact dps_snoc (dps_same (hide_of_same s4) ha) dp4
    · refine ⟨hs.trans (SameX.of s4), lv.same s4, acc, s4 D _ hD, by omega, ?_⟩
      have e : (List.range (j + 1)).filter keep = (List.range j).filter keep := by
        rw [List.range_succ, List.filter_append, List.filter_cons, hk]
        exact List.append_nil _
      rw [e]
      exact dps_same (hide_of_same s4) ha
  · rintro H ⟨hs, lv, acc, hD, hacc, ha⟩
    exact hd H acc hs lv hD ha
theorem dp_tup {K : PySem.W.Frag} {H : Hp} {v : V} {es : List PyData} (h : Dp K H v (.tuple es)) : ∃ a xs, v = .ref a ∧ SqT K H a xs ∧ DpAll K H xs es := by
  cases h with
  | tup h1 h2 => exact ⟨_, _, rfl, h1, h2⟩
theorem dp_str {K : PySem.W.Frag} {H : Hp} {v : V} {s : Str} (h : Dp K H v (.str s)) : v = .str s := by
  cases h
  rfl
theorem word_dp {K : PySem.W.Frag} {H : Hp} {v : V} {p : Pr} {Q : VK} (h : Dp K H v (prD p)) (q : Q (.str p.word) H) : rIx K v (.int 0) H fun x H1 => rIx K x (.int 0) H1 Q := by
  obtain ⟨a, xs, rfl, hs, hall⟩ := dp_tup (es := [evD p, toldD p.told]) h
  obtain ⟨x0, e0, v0⟩ := dps_get' (i := 0) hall rfl
  obtain ⟨b, ys, rfl, bs, hall2⟩ := dp_tup (es := .str p.word :: p.rest) v0
  obtain ⟨y0, f0, w0⟩ := dps_get' (i := 0) hall2 rfl
  obtain rfl := dp_str w0
  exact ix_vt (i := 0) (.inr hs) e0 (ix_vt (i := 0) (.inr bs) f0 q)
theorem told_dp {K : PySem.W.Frag} {H : Hp} {v : V} {p : Pr} {Q : VK} (h : Dp K H v (prD p)) (q : ∀ x, Dp K H x (toldD p.told) → Q x H) : rIx K v (.int 1) H Q := by
  obtain ⟨a, xs, rfl, hs, hall⟩ := dp_tup (es := [evD p, toldD p.told]) h
  obtain ⟨x1, e1, v1⟩ := dps_get' (i := 1) hall rfl
  exact ix_vt (i := 1) (.inr hs) e1 (q x1 v1)
theorem dps_strs {K : PySem.W.Frag} {H : Hp} : ∀ {acc : List V} {ps : List Pr}, DpAll K H acc (ps.map fun p => .str p.word) → acc = ps.map fun p => .str p.word
  | _, [], .nil => rfl
  | _, p :: ps, .cons h1 h2 => by
    rw [dp_str h1, dps_strs h2]
    rfl
theorem flat_strs (ps : List Pr) : (ps.map fun p => V.str p.word).all flatV = true := by
  rw [List.all_eq_true]
  intro x hx
  obtain ⟨p, _, rfl⟩ := List.mem_map.mp hx
  rfl
theorem in_strs (s : Str) (ps : List Pr) : inV (.str s) (ps.map fun p => V.str p.word) = true ↔ ∃ p ∈ ps, p.word = s := by
  unfold inV
  rw [List.any_eq_true]
  constructor
  · rintro ⟨x, hx, e⟩
    obtain ⟨p, hp, rfl⟩ := List.mem_map.mp hx
    exact ⟨p, hp, by simpa [eqV] using e⟩
  · rintro ⟨p, hp, e⟩
    exact ⟨_, List.mem_map.mpr ⟨p, hp, rfl⟩, by simpa [eqV] using e⟩
theorem all2_words {ps : List Pr} : ∀ {ds' : List PyData}, All2 (fun e e' => ∀ p, e = prD p → e' = PyData.str p.word) (ps.map prD) ds' → ds' = ps.map fun p => .str p.word := by
  induction ps with
  | nil =>
    intro ds' h
    cases h
    rfl
  | cons p ps ih =>
    intro ds' h
    cases h with
    | cons h1 h2 => rw [h1 p rfl, ih h2]; rfl
theorem good_drop {ps : List Pr} {n : Nat} (h : ∀ p ∈ ps, GoodP p) : ∀ p ∈ ps.drop n, GoodP p := fun p hp => h p (List.mem_of_mem_drop hp)
theorem shaped_hist {ps : List Pr} (h : ∀ p ∈ ps, GoodP p) (hl : ps.length ≤ 20) : SeqAt.shaped (histD ps) = true := by
  obtain ⟨h1, h2, _, _⟩ := good_hist h hl
  unfold fineD at h1
  simp only [Bool.and_eq_true] at h1
  exact shaped_of h1.1.1 h2 (by decide)
theorem lay_ints : ∀ is : List Nat, PyData.canLayAll0 (is.map fun (i : Nat) => PyData.int (i : Int)) = true
  | [] => by simp [PyData.canLayAll0]
  | i :: is => by simp [PyData.canLayAll0, PyData.canLay0, lay_ints is]
theorem depth_ints : ∀ is : List Nat, PyData.depthAll (is.map fun (i : Nat) => PyData.int (i : Int)) = 0
  | [] => by simp [PyData.depthAll]
  | i :: is => by simp [PyData.depthAll, PyData.depth, depth_ints is]
theorem shaped_ints (is : List Nat) : SeqAt.shaped (.list (is.map fun (i : Nat) => PyData.int (i : Int))) = true := by
  show (PyData.canLay0 (.list _) && decide (PyData.depth (.list _) ≤ 64)) = true
  simp only [PyData.canLay0, PyData.depth, lay_ints, depth_ints]
  decide
theorem iteBF {b : Bool} {A B : Prop} (h : b = false) (x : B) : if b = true then A else B := by
  subst h
  exact iteF x
theorem iteBT {b : Bool} {A B : Prop} (h : b = true) (x : A) : if b = true then A else B := by
  subst h
  exact iteT x
def atF (rs : List Pr) (j : Nat) : PyData := match rs[j]? with
  | some p => prD p
  | none => .none
def noReap (rs : List Pr) (j : Nat) : Bool := match rs[j]? with
  | some p => !decide (p.word = "reap")
  | none => false
def emptyAt (rs : List Pr) (j : Nat) : Bool := match rs[j]? with
  | some p => noneTold p.told
  | none => false
theorem fine_lay {d : PyData} (h : fineD d = true) : d.canLay0 = true := by
  unfold fineD at h
  simp only [Bool.and_eq_true] at h
  exact h.1.1
theorem atF_ok {rs : List Pr} (h : ∀ p ∈ rs, GoodP p) (j : Nat) : (atF rs j).canLay0 = true ∧ okD (atF rs j) 8 = true := by
  unfold atF
  cases e : rs[j]? with
  | none => exact ⟨by simp [PyData.canLay0], by simp [okD]⟩
  | some p => exact ⟨fine_lay (h p (List.mem_of_getElem? e)).fine, (h p (List.mem_of_getElem? e)).ok⟩
theorem shaped_at {rs : List Pr} (h : ∀ p ∈ rs, GoodP p) (is : List Nat) : SeqAt.shaped (.list (is.map (atF rs))) = true := by
  have key : PyData.canLayAll0 (is.map (atF rs)) = true ∧ okDs (is.map (atF rs)) 8 = true := by
    induction is with
    | nil => exact ⟨by simp [PyData.canLayAll0], by simp [okDs]⟩
    | cons i is ih =>
      have := atF_ok h i
      exact ⟨by simp only [List.map_cons, PyData.canLayAll0, this.1, ih.1, Bool.and_self], by simp only [List.map_cons, okDs, this.2, ih.2, Bool.and_self]⟩
  have hd := depths_ok _ _ key.2
  have h1 : PyData.canLay0 (.list (is.map (atF rs))) = true := by simp only [PyData.canLay0, key.1]
  have h2 : PyData.depth (.list (is.map (atF rs))) ≤ 64 := by
    simp only [PyData.depth]
    omega
  show (PyData.canLay0 (.list (is.map (atF rs))) && decide (PyData.depth (.list (is.map (atF rs))) ≤ 64)) = true
  rw [h1, decide_eq_true h2]
  rfl
theorem shaped_told {p : Pr} (h : GoodP p) : SeqAt.shaped (toldD p.told) = true := by
  have h1 := h.fine
  unfold prD at h1
  rw [fine_tup, List.all_cons, List.all_cons] at h1
  simp only [Bool.and_eq_true] at h1
  have h2 := h.ok
  unfold prD at h2
  obtain ⟨m, hm, _, h3⟩ := ok_seq (.inr rfl) h2
  simp only [okDs, Bool.and_eq_true] at h3
  have em : m = 7 := by omega
  subst em
  exact shaped_of (fine_lay h1.2.1) h3.2.1 (by decide)
theorem shaped_nil : SeqAt.shaped (.tuple []) = true := by decide +kernel
theorem shaped_nilL : SeqAt.shaped (.list []) = true := by decide +kernel
theorem shaped_int1 (i : Int) : SeqAt.shaped (.list [.int i]) = true := by
  show (PyData.canLay0 (.list _) && decide (PyData.depth (.list _) ≤ 64)) = true
  simp [PyData.canLay0, PyData.canLayAll0, PyData.depth, PyData.depthAll]
theorem eqv_hist (rs : List Pr) : PyData.eqv (histD rs) (.tuple []) = decide (rs = []) := by
  cases rs with
  | nil => simp [histD, PyData.eqv, PyData.eqvAll]
  | cons p rs => simp [histD, PyData.eqv, PyData.eqvAll]
theorem eqv_at (rs : List Pr) (is : List Nat) : PyData.eqv (.list (is.map (atF rs))) (.list []) = decide (is = []) := by
  cases is with
  | nil => simp [PyData.eqv, PyData.eqvAll]
  | cons p is => simp [PyData.eqv, PyData.eqvAll]
theorem no_reap (rs : List Pr) : (List.range rs.length).filter (noReap rs) = [] ↔ (rs.all fun p => decide (p.word = "reap")) = true := by
  rw [List.filter_eq_nil_iff, List.all_eq_true]
  constructor
  · intro h p hp
    obtain ⟨j, hj⟩ := List.getElem?_of_mem hp
    have hl := (List.getElem?_eq_some_iff.mp hj).1
    have := h j (List.mem_range.mpr hl)
    unfold noReap at this
    rw [hj] at this
    simpa using this
  · intro h j hj
    have hl := List.mem_range.mp hj
    have e := List.getElem?_eq_getElem hl
    unfold noReap
    rw [e]
    have := h _ (List.getElem_mem hl)
    simpa using this
theorem rev_index {ps : List Pr} {q : Nat} {pq : Pr} (h1 : ps[q]? = some pq) (h2 : pq.word = "quiet") (h3 : NoQ ps q) :
    (ps.map fun p => V.str p.word).reverse[ps.length - 1 - q]? = some (.str pq.word) ∧ eqV (.str pq.word) (.str "quiet") = true ∧
    (∀ (m : Nat) (z : V), m < ps.length - 1 - q → (ps.map fun p => V.str p.word).reverse[m]? = some z → eqV z (.str "quiet") = false) := by
  have hq : q < ps.length := (List.getElem?_eq_some_iff.mp h1).1
  refine ⟨?_, by simp [eqV, h2], fun m z hm hz => ?_⟩
  · rw [List.getElem?_reverse (by rw [List.length_map]; omega), List.length_map, show ps.length - 1 - (ps.length - 1 - q) = q by omega, List.getElem?_map, h1]
    rfl
  · rw [List.getElem?_reverse (by rw [List.length_map]; omega), List.length_map, List.getElem?_map, Option.map_eq_some_iff] at hz
    obtain ⟨p, hp, rfl⟩ := hz
    have := h3 _ p (by omega) hp
    simp [eqV, this]
section
variable {P : Program} {w : World} {K : PySem.W.Frag} {mg : Str → Option Value} {base : Heap}
def spShut (K : PySem.W.Frag) : Sp := fun vs H Q _ => ∃ (v : V) (ps : List Pr), vs = [v] ∧ Dp K H v (histD ps) ∧ (∀ p ∈ ps, GoodP p) ∧ ps.length ≤ 12 ∧ ∀ H', Same H H' → Q (.bl (closedP ps)) H'
theorem scShut : FnScope ["_law_pairs_so", "_law_words", "_law_rest", "_law_pair_so", "_law_at"] ["_law_pairs_so"] (defScope sShut) :=
  ⟨rfl, rfl, rfl, by decide +kernel, rfl, by decide +kernel, by decide +kernel⟩
theorem ok_shut {f : Addr} {fd : FuncData} {k : Nat} (F : Fun K "_law_shut" "_law_shut" sShut f fd) (me : mg "len" = none) (mu : mg "enumerate" = none) : FnOk P w K mg base CX0 (k + 1) f fd ["_law_pairs_so"] (spShut K) := by
  refine F.ok scShut (fun vs H Q E h => ?_) (fun cdv A outer s H vs Q E hr h => ?_)
  · obtain ⟨v, ps, rfl, _⟩ := h
    rfl
  · obtain ⟨v, ps, rfl, hv, hg, hlen, q⟩ := h
    obtain ⟨a, xs, rfl, hS, hall⟩ := dp_tup (es := ps.map prD) hv
    have hl := dps_len hall
    rw [List.length_map] at hl
    refine ⟨_, pss_cons (ps_setLc (i := 1) (own := [("_law_pair_so", 3)]) (g := gName 3) (tt := tYes) rfl scShut.nd rfl rfl (sw_true rfl rfl rfl (by decide +kernel)) (pi_dat [] (pv 0)) (blkOk_by (N := ["_law_pairs_so", "_law_words", "_law_rest", "_law_pair_so", "_law_at"]) (sc := defScope sShut) (by decide +kernel))
          (fun _ _ _ _ _ => pg_name (i := 3) scShut.nd rfl (Or.inl rfl)) (fun _ _ _ _ _ => pts_nil) (fun _ _ _ _ _ => pe_ix (ix_seqK (K := K) rfl) (pe_ix (ix_seqK (K := K) rfl) (pv 3) pe_int (fun _ _ => rfl)) pe_int (fun _ _ => rfl)))
      (pss_cons (ps_if (pt_cmpR op_notIn_seq pe_str (pv 1) (by rfl)) (pss_one (ps_ret pe_bl)) pss_nil)
      (pss_cons (ps_set (i := 2) scShut.nd rfl (.inl rfl) (pe_slice sl_tupA (pv 0) (po_some (pe_op op_sub (pe_callB call_len_seq (by rfl) me PySem.boot_len (pa_cons (pv 1) pa_nil))
          (pe_bm PySem.F.plainAttrs_list PySem.F.slot_list_index PySem.F.type_list_index mt_index (pe_revL (pv 1)) (pa_cons pe_str pa_nil)))) po_none))
      (pss_cons (ps_if (PW.pt (pw_or (pt_cmpR (op_eqD hr.units) (pv 2) (pe_tup pa_nil) (nomark _)) (pw_or1 (pt_cmpR (op_neD hr.units)
          (pe_lc (own := [("_law_pair_so", 3)]) (g := gName 3) rfl scShut.nd (pi_tup (pv 2)) (blkOk_by (N := ["_law_pairs_so", "_law_words", "_law_rest", "_law_pair_so", "_law_at"]) (sc := defScope sShut) (by decide +kernel))
            (fun _ _ _ _ _ => pg_name (i := 3) scShut.nd rfl (Or.inl rfl)) (fun _ _ _ _ _ => pts_one (pt_cmpR op_ne (pe_ix (ix_seqK (K := K) rfl) (pe_ix (ix_seqK (K := K) rfl) (pv 3) pe_int (fun _ _ => rfl)) pe_int (fun _ _ => rfl)) pe_str (nomark _))) (fun _ _ _ _ _ => pv 3))
          (pe_lst pa_nil) (nomark _))))) (pss_one (ps_ret pe_bl)) pss_nil)
      (pss_one (ps_ret (pe_cmpR (op_eqD hr.units)
          (pe_lc (own := [("_law_at", 4), ("_law_pair_so", 3)]) (g := gTup K 2 (gCons (gName 4) (gCons (gName 3) gNil))) rfl scShut.nd (pi_enumT (by rfl) mu (pa_cons (pv 2) pa_nil)) (blkOk_by (N := ["_law_pairs_so", "_law_words", "_law_rest", "_law_pair_so", "_law_at"]) (sc := defScope sShut) (by decide +kernel))
            (fun _ _ _ _ _ => pg_tup rfl (pgs_cons (pg_name (i := 4) scShut.nd rfl (Or.inl rfl)) (pgs_cons (pg_name (i := 3) scShut.nd rfl (Or.inl rfl)) pgs_nil))) (fun _ _ _ _ _ => pts_one (pt_cmpR (op_eqDK (K := K) rfl hr.units) (pe_ix (ix_seqK (K := K) rfl) (pv 3) pe_int (fun _ _ => rfl)) (pe_tup pa_nil) (nomark _))) (fun _ _ _ _ _ => pv 4))
          (pe_lst (pa_cons (pe_op op_sub (pe_callB call_len_seq (by rfl) me PySem.boot_len (pa_cons (pv 2) pa_nil)) pe_int) pa_nil)) (nomark _))))))), ?_⟩
    have hS0 : SqL K (hide [] H) a xs ∨ SqT K (hide [] H) a xs := by
      rw [hide_nil]
      exact .inr hS
    have hall0 : DpAll K (hide [] H) xs (ps.map prD) := by
      rw [hide_nil]
      exact hall
    refine ⟨_, rfl, a, xs, rfl, hS0, fun J G wk hG D nD => lc_dp (K := K) wk (ds := ps.map prD) (B := []) (C := []) (i := 3) hall0 (Live.nil _) (fun b hb => absurd hb List.not_mem_nil) nD (by omega) hG
      (fun _ _ => True) trivial (fun _ _ _ _ _ => trivial) (fun _ _ _ b hb => absurd hb List.not_mem_nil) (fun e e' => ∀ p, e = prD p → e' = PyData.str p.word) ?_ ?_⟩
    · intro j x e H2 Q2 _ he lv2 _ hdp2 k2
      obtain ⟨p, hp, rfl⟩ : ∃ p, ps[j]? = some p ∧ e = prD p := by
        rw [List.getElem?_map, Option.map_eq_some_iff] at he
        obtain ⟨p, h1, h2⟩ := he
        exact ⟨p, h1, h2.symm⟩
      refine ⟨_, rfl, word_dp (dp_same (hide_same _ _) hdp2) (k2 _ _ (.str p.word) (SameX.refl _ _) (fun p' hp' => ?_) (.str _) trivial)⟩
      have h5 : [evD p, toldD p.told] = [evD p', toldD p'.told] := PyData.tuple.inj hp'
      have h6 : PyData.str p.word :: p.rest = PyData.str p'.word :: p'.rest := PyData.tuple.inj (List.cons.inj h5).1
      exact (List.cons.inj h6).1
    intro H1 acc ds' s1 lv1 _ hD1 hacc h2
    rw [all2_words h2] at hacc
    have eacc := dps_strs hacc
    subst eacc
    have base : Same H H1 := fun c o e => s1 c o (fun z => (List.mem_cons.mp z).elim (ne_of_none e nD) (fun z => absurd z List.not_mem_nil)) e
    refine ⟨_, rfl, D, _, rfl, .inl (SqL.of hD1), rfl, flat_strs ps, _, rfl, ?_⟩
    by_cases hq : ∃ p ∈ ps, p.word = "quiet"
    · have hin := (in_strs "quiet" ps).mpr hq
      refine iteBF (by rw [if_pos rfl, hin]; rfl) ?_
      obtain ⟨qi, pq, h1, h2q, h3⟩ := last_quiet ps hq
      obtain ⟨i1, i2, i3⟩ := rev_index h1 h2q h3
      have hqi : qi < ps.length := (List.getElem?_eq_some_iff.mp h1).1
      refine ⟨_, rfl, _, rfl, D, _, rfl, .inl (SqL.of hD1), _, rfl, D, _, rfl, SqL.of hD1, fun R nR => ⟨.inl ⟨rfl, _, SqL.of upd_same⟩, R, _, _, ps.length - 1 - qi, _, rfl, rfl, SqL.of upd_same, rfl, ?_, i1, i2, i3, _, _, rfl, rfl, _, rfl, a, xs, rfl, ?_, ?_, ?_⟩⟩
      · rw [List.all_reverse]
        exact flat_strs ps
      · exact same_seqT (base.trans (same_upd nR)) hS
      · rintro ⟨z, _⟩
        exfalso
        have e1 : (((ps.map fun p => V.str p.word).length : Nat) : Int) - ((ps.length - 1 - qi : Nat) : Int) = ((qi + 1 : Nat) : Int) := by
          rw [List.length_map]
          omega
        simp only [e1] at z
        rw [HT.sIx_nat] at z
        omega
      · intro _ T nT
        have e1 : (((ps.map fun p => V.str p.word).length : Nat) : Int) - ((ps.length - 1 - qi : Nat) : Int) = ((qi + 1 : Nat) : Int) := by
          rw [List.length_map]
          omega
        rw [e1, cut_drop]
        have sH : Same H (upd (upd H1 R (.lst (ps.map fun p => V.str p.word).reverse)) T (.tup (xs.drop (qi + 1)))) := base.trans (same2 nR nT)
        have fT : (upd (upd H1 R (.lst (ps.map fun p => V.str p.word).reverse)) T (.tup (xs.drop (qi + 1)))) T = some (.tup (xs.drop (qi + 1))) := upd_same
        have d2 := dps_drop (qi + 1) (dps_same sH hall)
        rw [← List.map_drop] at d2
        have hgr : ∀ p ∈ ps.drop (qi + 1), GoodP p := good_drop hg
        have ecl := closed_shut h1 h2q h3
        have hlr : (ps.drop (qi + 1)).length ≤ 12 := by
          rw [List.length_drop]
          omega
        generalize upd (upd H1 R (.lst (ps.map fun p => V.str p.word).reverse)) T (.tup (xs.drop (qi + 1))) = H2 at sH fT d2
        generalize xs.drop (qi + 1) = zs at fT d2
        generalize ps.drop (qi + 1) = rs at d2 hgr ecl hlr
        have hzl := dps_len d2
        rw [List.length_map] at hzl
        -- rest == ()
        refine ⟨_, rfl, by show 0 ≤ sizeLine; decide, fun t nt => ⟨histD rs, .tuple [], dp_same (same_upd nt) (.tup (SqT.of fT) d2), .tup (SqT.of upd_same) .nil, shaped_hist hgr (by omega), shaped_nil, _, rfl, ?_⟩⟩
        rw [eqv_hist]
        by_cases hnil : rs = []
        · refine iteD hnil (iteT ?_)
          rw [ecl, if_pos (.inl hnil)] at q
          exact q _ (sH.trans (same_upd nt))
        · refine iteDN hnil ?_
          have s3 := same_upd (o := HO.tup []) nt
          have sH3 := sH.trans s3
          have fT3 := s3 _ _ fT
          have d3 := dps_same s3 d2
          generalize upd H2 t (.tup []) = H3 at sH3 fT3 d3
          have pair_at : ∀ {H' : Hp} {j : Nat} {x : V}, Same H3 H' → zs[j]? = some x → ∃ p, rs[j]? = some p ∧ Dp K H' x (prD p) ∧ p ∈ rs := fun {H' j x} s4 hx => by
            obtain ⟨e, he, hde⟩ := dps_get (dps_same s4 d3) hx
            rw [List.getElem?_map, Option.map_eq_some_iff] at he
            obtain ⟨p, hp, rfl⟩ := he
            exact ⟨p, hp, hde, List.mem_of_getElem? hp⟩
          -- the parts that are no reaps
          refine ⟨_, rfl, T, rfl, ⟨_, SqT.of fT3⟩, fun D2 nD2 => lc_flt (K := K) (walk_tup (xs := zs)) (fun i H' x H'' hy => by obtain ⟨rfl, _⟩ := hy; exact Same.refl _) (B := []) (Live.nil _) nD2 (by omega)
            (fun H' s4 => SqT.of (s4 T _ (fun z => ne_of_none fT3 nD2 (List.mem_singleton.mp z)) fT3)) (noReap rs) (atF rs) ?_ ?_⟩
          · rintro j x H' H'' K1 N hj s4 lv4 ⟨rfl, hx⟩ hk hn
            have s34 : Same H3 H'' := fun c o e => s4 c o (fun z => ne_of_none e nD2 (List.mem_singleton.mp z)) e
            obtain ⟨p, hp, hdp, hmem⟩ := pair_at s34 hx
            refine ⟨rfl, ⟨_, rfl, word_dp hdp ⟨rfl, _, rfl, ?_⟩⟩⟩
            by_cases hw : p.word = "reap"
            · refine iteBF (by rw [hw]; decide +kernel) (hn ?_ _ (Same.refl _))
              unfold noReap
              rw [hp]
              simp [hw]
            · refine iteBT (by rw [decide_eq_false (fun z => hw (V.str.inj z))]; rfl) ⟨_, rfl, hk ?_ _ _ (Same.refl _) ?_⟩
              · unfold noReap
                rw [hp]
                simp [hw]
              · have e2 : atF rs j = prD p := by
                  unfold atF
                  rw [hp]
                rw [e2]
                obtain ⟨e, he, hde⟩ := dps_get (dps_same (SameX.enter (B := []) (C := []) s4 (fun c hc => absurd hc List.not_mem_nil) nD2) (by rw [hide_nil]; exact d3)) hx
                rw [List.getElem?_map, hp] at he
                cases he
                exact hde
          intro H4 acc s4 lv4 hD4 hacc
          have s34 : Same H3 H4 := fun c o e => s4 c o (fun z => ne_of_none e nD2 (List.mem_singleton.mp z)) e
          refine ⟨by show 0 ≤ sizeLine; decide, fun l nl => ⟨_, .list [], .lst (SqL.of (same_upd nl _ _ hD4)) (dps_same ((hide_same _ _).trans (same_upd nl)) hacc), .lst (SqL.of upd_same) .nil, shaped_at hgr _, shaped_nilL, _, rfl, ?_⟩⟩
          rw [hzl, eqv_at]
          by_cases hr : (List.range rs.length).filter (noReap rs) = []
          · refine iteBF (by rw [decide_eq_true hr]; rfl) ?_
            have hall2 := (no_reap rs).mp hr
            rw [if_neg (by
              intro z
              rcases z with z | z
              · exact hnil z
              · exact z hall2)] at ecl
            have s5 := s34.trans (same_upd (o := HO.lst []) nl)
            have sH5 := sH3.trans s5
            have fT5 := s5 _ _ fT3
            generalize upd H4 l (.lst []) = H5 at s5 sH5 fT5
            -- the places at which nothing is told
            refine ⟨_, rfl, T, zs, rfl, SqT.of fT5, fun D3 nD3 => lc_flt (K := K) (walk_enumT (xs := zs)) (fun i H' x H'' hy => by obtain ⟨T', _, _, _, nT', rfl, _⟩ := hy; exact same_upd nT') (B := []) (Live.nil _) nD3 (by omega)
              (fun H' s6 => SqT.of (s6 T _ (fun z => ne_of_none fT5 nD3 (List.mem_singleton.mp z)) fT5)) (emptyAt rs) (fun j => .int (j : Int)) ?_ ?_⟩
            · rintro j v H' H'' K1 N hj s6 lv6 ⟨T', x, y, rfl, nT', rfl, ex, ey⟩ hk hn
              have s56 : Same H5 H' := fun c o e => s6 c o (fun z => ne_of_none e nD3 (List.mem_singleton.mp z)) e
              have ex' : V.int (j : Int) = x := Option.some.inj ex
              subst ex'
              obtain ⟨p, hp, hdp, hmem⟩ := pair_at (s5.trans (s56.trans (same_upd (o := HO.tup [V.int (j : Int), y]) nT'))) ey
              refine ⟨T', [_, y], rfl, SqT.of upd_same, rfl, _, [y], rfl, y, [], rfl, rfl, rfl, ⟨_, rfl, told_dp hdp fun u hu => ⟨by show 0 ≤ sizeLine; decide, fun t2 nt2 => ⟨_, .tuple [], dp_same (same_upd nt2) hu, .tup (SqT.of upd_same) .nil, shaped_told (hgr p hmem), shaped_nil, _, rfl, ?_⟩⟩⟩⟩
              have sm := (same_upd (o := HO.tup [V.int (j : Int), y]) nT').trans (same_upd (o := HO.tup []) nt2)
              have ek : emptyAt rs j = noneTold p.told := by
                unfold emptyAt
                rw [hp]
              rw [eqv_told]
              cases hz : noneTold p.told with
              | true => exact iteT ⟨_, rfl, hk (ek.trans hz) _ _ sm (.int _)⟩
              | false => exact iteF (hn (ek.trans hz) _ sm)
            intro H6 acc6 s6 lv6 hD6 hacc6
            have s56 : Same H5 H6 := fun c o e => s6 c o (fun z => ne_of_none e nD3 (List.mem_singleton.mp z)) e
            refine ⟨_, rfl, T, zs, rfl, .inr (SqT.of (s56 _ _ fT5)), _, _, rfl, rfl, by show 1 ≤ sizeLine; decide, fun l2 nl2 => ⟨_, _, .lst (SqL.of (same_upd nl2 _ _ hD6)) (dps_same ((hide_same _ _).trans (same_upd nl2)) hacc6), .lst (SqL.of upd_same) (.cons (.int _) .nil), shaped_ints _, shaped_int1 _, ?_⟩⟩
            have e7 : ((zs.length : Nat) : Int) - 1 = ((rs.length - 1 : Nat) : Int) := by
              have : rs.length ≠ 0 := fun z => hnil (List.length_eq_zero_iff.mp z)
              omega
            have e8 : PyData.eqv (.list (((List.range zs.length).filter (emptyAt rs)).map fun (j : Nat) => PyData.int (j : Int))) (.list [.int (((zs.length : Nat) : Int) - 1)]) = closedP ps := by
              rw [e7, eqv_one, hzl, ecl]
              rfl
            rw [e8]
            exact q _ (sH5.trans (s56.trans (same_upd nl2)))
          · refine iteBT (by rw [decide_eq_false hr]; rfl) ?_
            rw [ecl, if_pos (.inr fun z => hr ((no_reap rs).mpr z))] at q
            exact q _ (sH3.trans (s34.trans (same_upd nl)))
    · have hin : inV (.str "quiet") (ps.map fun p => V.str p.word) = false := by
        cases e : inV (.str "quiet") (ps.map fun p => V.str p.word) with
        | false => rfl
        | true => exact absurd ((in_strs "quiet" ps).mp e) hq
      refine iteBT (by rw [if_pos rfl, hin]; rfl) ?_
      rw [closed_no fun p hp e => hq ⟨p, hp, e⟩] at q
      exact q _ base
end
end KV

namespace KV
open PySem PySem.Spec PyProof.Rows L2 RZ
abbrev sRight : Stmt := topS 14
abbrev sLaw : Stmt := topS 15
theorem good_last : GoodP (pReap 1 []) := by
  have h := good_reap (n := 1) (k := 0) (r := 0) (by decide) (by decide)
  exact h
theorem box_live {H : Hp} {b : Addr} {n : Nat} (h : BoxAt H b n) : Live [b] H := fun c hc e => by
  obtain ⟨_, _, _, z, _⟩ := h
  rw [List.mem_singleton.mp hc, z] at e
  cases e
theorem all2_evs {ps : List Pr} : ∀ {ds' : List PyData}, All2 (fun e e' => ∀ p, e = prD p → e' = evD p) (ps.map prD) ds' → ds' = ps.map evD := by
  induction ps with
  | nil =>
    intro ds' h
    cases h
    rfl
  | cons p ps ih =>
    intro ds' h
    cases h with
    | cons h1 h2 => rw [h1 p rfl, ih h2]; rfl
theorem ev_inj {p q : Pr} (h : prD p = prD q) : evD p = evD q := by
  have h5 : [evD p, toldD p.told] = [evD q, toldD q.told] := PyData.tuple.inj h
  exact (List.cons.inj h5).1
theorem nodict_lay : ∀ {d : PyData}, d.canLay0 = true → d.hasDict = false := fun h => PyData.hasDict_of_canLay _ h
theorem fine_show {d : PyData} (h : fineD d = true) : d.showable = true ∧ d.leavesShort 13 = true := by
  unfold fineD at h
  simp only [Bool.and_eq_true] at h
  exact ⟨h.2, h.1.2⟩
theorem ok_evs {ps : List Pr} (h : ∀ p ∈ ps, GoodP p) (hl : ps.length ≤ 20) : okD (.tuple (ps.map evD)) 8 = true := by
  refine (ok_mk (m := 7) (by rw [List.length_map]; omega) ?_).2
  rw [okDs_all, List.all_eq_true]
  intro e he
  obtain ⟨p, hp, rfl⟩ := List.mem_map.mp he
  have h2 := (h p hp).ok
  unfold prD at h2
  obtain ⟨m, hm, _, h3⟩ := ok_seq (.inr rfl) h2
  simp only [okDs, Bool.and_eq_true] at h3
  have em : m = 7 := by omega
  subst em
  exact h3.1
section
variable {P : Program} {w : World} {K : PySem.W.Frag} {mg : Str → Option Value} {base : Heap}
structure Defs (K : PySem.W.Frag) (mg : Str → Option Value) where
  fT : Addr
  fM : Addr
  fL : Addr
  fS : Addr
  fP : Addr
  fU : Addr
  fI : Addr
  fC : Addr
  fE : Addr
  fO : Addr
  dT : FuncData
  dM : FuncData
  dL : FuncData
  dS : FuncData
  dP : FuncData
  dU : FuncData
  dI : FuncData
  dC : FuncData
  dE : FuncData
  dO : FuncData
  FT : Fun K "_law_take" "_law_take" sTake fT dT
  FM : Fun K "_law_mixed" "_law_mixed" sMixed fM dM
  FL : Fun K "_law_lists" "_law_lists" sLists fL dL
  FS : Fun K "_law_same" "_law_same" sSame fS dS
  FP : Fun K "_law_pairs" "_law_pairs" sPairs fP dP
  FU : Fun K "_law_shut" "_law_shut" sShut fU dU
  FI : Fun K "in_tuples" "in_tuples" sIn fI dI
  FC : Fun K "is_closed" "is_closed" sClosed fC dC
  FE : Fun K "is_empty_reap" "is_empty_reap" sEmpty fE dE
  FO : Fun K "script_of" "script_of" sScript fO dO
  bT : Binds K dT ["_law_box_here", "_law_below"] []
  bM : Binds K dM ["_law_box_here", "_law_matter"] []
  bL : Binds K dL ["_law_matter"] []
  bS : Binds K dS ["_law_found", "_law_due"] []
  bP : Binds K dP ["_law_box_here", "_law_many_so"] []
  bU : Binds K dU ["_law_pairs_so"] []
  bI : Binds K dI ["thing"] []
  bC : Binds K dC ["history"] []
  bE : Binds K dE ["pair"] []
  bO : Binds K dO ["history"] []
  kC : KBinds K dC ["history"] ["history"] (fun us ws => us ++ ws) (fun vs zs => vs ++ zs)
  kO : KBinds K dO ["history"] ["history"] (fun us ws => us ++ ws) (fun vs zs => vs ++ zs)
  mT : mg "_law_take" = some (.ref fT)
  mM : mg "_law_mixed" = some (.ref fM)
  mL : mg "_law_lists" = some (.ref fL)
  mS : mg "_law_same" = some (.ref fS)
  mP : mg "_law_pairs" = some (.ref fP)
  mU : mg "_law_shut" = some (.ref fU)
  mI : mg "in_tuples" = some (.ref fI)
  mC : mg "is_closed" = some (.ref fC)
  mE : mg "is_empty_reap" = some (.ref fE)
  mO : mg "script_of" = some (.ref fO)
  zInt : mg "int" = none
  zLen : mg "len" = none
  zTuple : mg "tuple" = none
  zList : mg "list" = none
  zRange : mg "range" = none
  zIsi : mg "isinstance" = none
  zEnum : mg "enumerate" = none
  zAll : mg "all" = none
  zZip : mg "zip" = none
  zBool : mg "bool" = none
  zStr : mg "str" = none
  zRepr : mg "repr" = none
  zAbs : mg "abs" = none
  zMin : mg "min" = none
def spRight : Sp := fun vs H Q _ => ∃ (b : Addr) (n : Nat), vs = [.ref b] ∧ BoxAt H b n ∧ n ≤ 2 ^ 20 ∧ ∀ H', SameX [b] H H' → BoxAt H' b (n + 20000) → Q (.bl true) H'
theorem scRight : FnScope ["_law_box_here", "_law_turn", "_law_some", "_law_soft", "_law_due", "_law_shown", "_law_told", "_law_parts_so", "_law_pair_so"] ["_law_box_here"] (defScope sRight) :=
  ⟨rfl, rfl, rfl, by decide +kernel, rfl, by decide +kernel, by decide +kernel⟩
theorem ok_right {f : Addr} {fd : FuncData} (F : Fun K "_law_right" "_law_right" sRight f fd) (T : Defs K mg) : FnG P w K mg base 12 f fd ["_law_box_here"] spRight := by
  have GP : FnOk P w K mg base CX0 2 T.fP T.dP ["_law_box_here", "_law_many_so"] (spPairs K) := ok_pairs T.FP T.FT T.bT T.mT T.zInt T.zLen T.zTuple T.zRange
  have GM : FnOk P w K mg base CX0 11 T.fM T.dM ["_law_box_here", "_law_matter"] (spMixed K 9) := ok_mixed T.FM T.bM T.mM T.FT T.bT T.mT T.zInt T.zIsi T.zList T.zTuple 9
  have GU : FnOk P w K mg base CX0 1 T.fU T.dU ["_law_pairs_so"] (spShut K) := ok_shut T.FU T.zLen T.zEnum
  have GC : FnOk P w K mg base CX0 2 T.fC T.dC ["history"] (spClosed K) := ok_closed T.FC T.FE T.bE T.mE T.zLen
  have GL : FnOk P w K mg base CX0 10 T.fL T.dL ["_law_matter"] (spLists K 9) := ok_lists T.FL T.bL T.mL T.zIsi T.zList T.zTuple 9
  have GS : FnOk P w K mg base CX0 10 T.fS T.dS ["_law_found", "_law_due"] (spSame K 10) := ok_same T.FS T.bS T.mS T.zIsi T.zList T.zTuple T.zLen T.zAll T.zZip T.zBool T.zStr T.zInt 10
  have GO : FnOk P w K mg base CX0 9 T.fO T.dO ["history"] (spScript K) := ok_script T.FO T.FI T.bI T.mI T.zIsi T.zList T.zTuple
  refine okG F scRight (fun vs H Q E h => ?_) (fun cdv A outer s H vs Q E hgd hr h => ?_)
  · obtain ⟨b, n, rfl, _⟩ := h
    rfl
  · obtain ⟨b, n, rfl, hB, hn, q⟩ := h
    have hr2 : Room 2 _ := hr.mono (by decide)
    have hr1 : Room 1 _ := hr.mono (by decide)
    have hr10 : Room 10 _ := hr.mono (by decide)
    have hr9 : Room 9 _ := hr.mono (by decide)
    refine ⟨_, pss_cons (ps_for PassesOwn.never rfl (pi_range1 (by rfl) T.zRange (pa_cons pe_int pa_nil)) (pg_name (i := 1) scRight.nd rfl (.inl rfl))
        (pss_cons (ps_set (i := 2) scRight.nd rfl (.inl rfl) (pe_call GP hr2 (by rfl) T.mP T.FP.kp T.bP .nil pass0 (pa_cons (pv 0) (pa_cons pe_int pa_nil))))
        (pss_cons (ps_set (i := 2) scRight.nd rfl (.inl rfl) (pe_ifExp (pt_cmpR op_eq (pe_op op_mod (pe_callTy call_int1 (by rfl) T.zInt PyProof.Rows.boot_int (pa_cons (pv 1) pa_nil)) pe_int) pe_int (nomark _))
          (pe_op op_catA (pv 2) (pe_tup (pa_cons (pe_tup (pa_cons (pe_tup (pa_cons pe_str pa_nil)) (pa_cons (pe_tup pa_nil) pa_nil))) (pa_cons (pe_tup (pa_cons (pe_tup (pa_cons pe_str (pa_cons pe_int pa_nil))) (pa_cons (pe_tup pa_nil) pa_nil))) pa_nil)))) (pv 2)))
        (pss_cons (ps_par3 (i := 3) (j := 4) (l := 5) rfl scRight.nd rfl rfl rfl (by decide) (by decide) (by decide) rfl rfl rfl
          (pa_cons (pe_call GM hr (by rfl) T.mM T.FM.kp T.bM .nil pass0 (pa_cons (pv 0) (pa_cons (pv 2) pa_nil))) (pa_cons (pe_call GU hr1 (by rfl) T.mU T.FU.kp T.bU .nil pass0 (pa_cons (pv 2) pa_nil))
            (pa_cons (pe_callB (cr_repr hgd hr.units) (by rfl) T.zRepr boot_repr (pa_cons (pv 2) pa_nil)) pa_nil))) (by rfl))
        (pss_cons (ps_set (i := 6) scRight.nd rfl (.inl rfl) (pe_lst (pa_cons (pe_call GC hr2 (by rfl) T.mC T.FC.kp T.bC .nil pass0 (pa_cons (pv 2) pa_nil))
          (pa_cons (pe_callK0 GC hr2 (by rfl) T.mC T.FC.kp T.kC (pk_cons (pe_call GL hr10 (by rfl) T.mL T.FL.kp T.bL .nil pass0 (pa_cons (pv 2) pa_nil)) pk_nil))
          (pa_cons (pe_call GC hr2 (by rfl) T.mC T.FC.kp T.bC .nil pass0 (pa_cons (pv 3) pa_nil)) pa_nil)))))
        (pss_cons (ps_if (PW.pt (pw_or (pt_not (pt_val (pe_call GS hr10 (by rfl) T.mS T.FS.kp T.bS .nil pass0 (pa_cons (pv 6) (pa_cons (pe_op op_rep (pe_lst (pa_cons (pv 4) pa_nil)) pe_int) pa_nil)))))
            (pw_or1 (pt_cmpR op_ne (pe_callB (cr_repr hgd hr.units) (by rfl) T.zRepr boot_repr (pa_cons (pv 2) pa_nil)) (pv 5) (nomark _))))) (pss_one (ps_ret pe_bl)) pss_nil)
        (pss_cons (ps_set (i := 7) scRight.nd rfl (.inl rfl) (pe_callTy call_tuple_of (by rfl) T.zTuple PyProof.Rows.boot_tuple (pa_cons
          (pe_lc (own := [("_law_pair_so", 8)]) (g := gName 8) (tt := tYes) rfl scRight.nd (pi_dat [b] (pv 2)) (blkOk_by (N := ["_law_box_here", "_law_turn", "_law_some", "_law_soft", "_law_due", "_law_shown", "_law_told", "_law_parts_so", "_law_pair_so"]) (sc := defScope sRight) (by decide +kernel))
            (fun _ _ _ _ _ => pg_name (i := 8) scRight.nd rfl (Or.inl rfl)) (fun _ _ _ _ _ => pts_nil) (fun _ _ _ _ _ => pe_ix (ix_seqK (K := K) rfl) (pv 8) pe_int (fun _ _ => rfl))) pa_nil)))
        (pss_one (ps_if (pt_not (pt_val (pe_call GS hr10 (by rfl) T.mS T.FS.kp T.bS .nil pass0 (pa_cons (pe_lst (pa_cons (pe_call GO hr9 (by rfl) T.mO T.FO.kp T.bO .nil pass0 (pa_cons (pv 2) pa_nil))
            (pa_cons (pe_callK0 GO hr9 (by rfl) T.mO T.FO.kp T.kO (pk_cons (pv 3) pk_nil)) pa_nil))) (pa_cons (pe_lst (pa_cons (pv 7) (pa_cons (pv 7) pa_nil))) pa_nil))))) (pss_one (ps_ret pe_bl)) pss_nil)))))))))
      (pss_one (ps_ret (pe_call GS hr10 (by rfl) T.mS T.FS.kp T.bS .nil pass0 (pa_cons (pe_lst (pa_cons (pe_call GC hr2 (by rfl) T.mC T.FC.kp T.bC .nil pass0 (pa_cons (pe_tup pa_nil) pa_nil))
          (pa_cons (pe_call GO hr9 (by rfl) T.mO T.FO.kp T.bO .nil pass0 (pa_cons (pe_tup pa_nil) pa_nil)) pa_nil))) (pa_cons (pe_lst (pa_cons pe_bl (pa_cons (pe_tup pa_nil) pa_nil))) pa_nil))))), ?_⟩
    refine ⟨10, rfl, by decide, by decide, for_range (lo := 0) (n := 10) (fun i σ H' => ∃ y1 y2 y3 y4 y5 y6 y7, σ = [some (.ref b), y1, y2, y3, y4, y5, y6, y7, none] ∧ SameX [b] H H' ∧ BoxAt H' b (n + 900 * i))
      ⟨none, none, none, none, none, none, none, rfl, SameX.refl _ _, hB⟩ ?_ ?_⟩
    · rintro i σ H' hi ⟨y1, y2, y3, y4, y5, y6, y7, rfl, sx, bx⟩
      -- some
      refine ⟨_, rfl, [b], b, _, rfl, List.mem_singleton.mpr rfl, box_live bx, bx, by omega, fun v2 ps2 H2 hne l2 g2 s2 b2 d2 => ?_⟩
      have hl2 : ps2.length ≤ 12 := by omega
      refine ⟨_, rfl, .inl ⟨_, rfl, _, _, rfl, rfl, (by show (0 : Int) < 3; decide), rfl, _, rfl, ite2 (fun _ => ?_) (fun _ => ?_)⟩⟩
      · obtain ⟨a, xs, rfl, hS, hall⟩ := dp_tup (es := ps2.map prD) d2
        have hxl := dps_len hall
        rw [List.length_map] at hxl
        have hx0 : xs ≠ [] := fun z => by
          rw [z] at hxl
          exact hne (List.length_eq_zero_iff.mp hxl.symm)
        refine ⟨_, rfl, by show 1 ≤ sizeLine; decide, fun p1 n1 => ⟨by show 0 ≤ sizeLine; decide, fun p2 n2 => ⟨by show 2 ≤ sizeLine; decide, fun p3 n3 => ⟨by show 2 ≤ sizeLine; decide, fun p4 n4 => ⟨by show 0 ≤ sizeLine; decide, fun p5 n5 => ⟨by show 2 ≤ sizeLine; decide, fun p6 n6 => ⟨by show 2 ≤ sizeLine; decide, fun p7 n7 => ?_⟩⟩⟩⟩⟩⟩⟩
        have t1 : Same H2 (upd H2 p1 (.tup [.str "quiet"])) := same_upd n1
        have t2 := t1.trans (same_upd (o := HO.tup []) n2)
        have u3 := same_upd (o := HO.tup [.ref p1, .ref p2]) n3
        have t3 := t2.trans u3
        have u4 := same_upd (o := HO.tup [.str "reap", .int 1]) n4
        have u5 := same_upd (o := HO.tup []) n5
        have u6 := same_upd (o := HO.tup [.ref p4, .ref p5]) n6
        have u7 := same_upd (o := HO.tup [.ref p3, .ref p6]) n7
        have lv := box_live b2
        have k1 := dp_new (K := K) lv n1 (.cons (.str "quiet") .nil)
        have k2 := dp_new (K := K) (lv.same t1) n2 .nil
        have k3 := dp_new (K := K) (lv.same t2) n3 (.cons (dp_same (hide_grow (lv.same t1) n2) k1) (.cons k2 .nil))
        have k4 := dp_new (K := K) (lv.same t3) n4 (.cons (.str "reap") (.cons (.int 1) .nil))
        have k5 := dp_new (K := K) (lv.same (t3.trans u4)) n5 .nil
        have k6 := dp_new (K := K) (lv.same ((t3.trans u4).trans u5)) n6 (.cons (dp_same (hide_grow (lv.same (t3.trans u4)) n5) k4) (.cons k5 .nil))
        have t7 := (((t3.trans u4).trans u5).trans u6).trans u7
        have k3' : Dp K (hide [b] _) (.ref p3) (prD pQuiet) := dp_same (hide_of_same (((u4.trans u5).trans u6).trans u7)) k3
        have k6' : Dp K (hide [b] _) (.ref p6) (prD (pReap 1 [])) := dp_same (hide_of_same u7) k6
        have hall7 := dps_same (hide_of_same t7) hall
        have hS7 := same_seqT ((hide_same _ _).trans t7) hS
        have lv7 := lv.same t7
        have b7 := b2.same t7
        have f7 : (upd (upd (upd (upd (upd (upd (upd H2 p1 (.tup [.str "quiet"])) p2 (.tup [])) p3 (.tup [.ref p1, .ref p2])) p4 (.tup [.str "reap", .int 1])) p5 (.tup [])) p6 (.tup [.ref p4, .ref p5])) p7 (.tup [.ref p3, .ref p6])) p7 = some (.tup [.ref p3, .ref p6]) := upd_same
        generalize upd (upd (upd (upd (upd (upd (upd H2 p1 (.tup [.str "quiet"])) p2 (.tup [])) p3 (.tup [.ref p1, .ref p2])) p4 (.tup [.str "reap", .int 1])) p5 (.tup [])) p6 (.tup [.ref p4, .ref p5])) p7 (.tup [.ref p3, .ref p6]) = H7 at t7 k3' k6' hall7 hS7 lv7 b7 f7
        refine ⟨a, p7, xs, _, rfl, rfl, hS7, SqT.of f7, Nat.le_of_lt (small1000 (by show xs.length + 2 ≤ 1000; omega)), fun z => absurd z hx0, (fun _ z => by cases z), fun _ _ p8 n8 => ?_⟩
        have d8 : Dp K (hide [b] (upd H7 p8 (.tup (xs ++ [.ref p3, .ref p6])))) (.ref p8) (histD (ps2 ++ [pQuiet, pReap 1 []])) := by
          unfold histD
          rw [List.map_append]
          exact dp_new lv7 n8 (dps_app hall7 (.cons k3' (.cons k6' .nil)))
        have s8 := s2.trans (SameX.of (B := [b]) (t7.trans (same_upd (o := HO.tup (xs ++ [.ref p3, .ref p6])) n8)))
        have b8 := b7.same (same_upd (o := HO.tup (xs ++ [.ref p3, .ref p6])) n8)
        have g8 : ∀ p ∈ ps2 ++ [pQuiet, pReap 1 []], GoodP p := fun p hp => by
          rcases List.mem_append.mp hp with z | z
          · exact g2 p z
          · rcases List.mem_cons.mp z with z | z
            · rw [z]; exact good_quiet
            · rw [List.mem_singleton.mp z]; exact good_last
        have l8 : (ps2 ++ [pQuiet, pReap 1 []]).length ≤ 12 := by
          rw [List.length_append]
          show ps2.length + 2 ≤ 12
          omega
        generalize upd H7 p8 (HO.tup (xs ++ [V.ref p3, V.ref p6])) = H2 at d8 s8 b8
        generalize ps2 ++ [pQuiet, pReap 1 []] = ps2 at d8 g8 l8
        generalize V.ref p8 = v2 at d8
        obtain ⟨hfine, hok9, hbulk, hnod⟩ := good_hist g8 (by omega)
        have hflat := flat_hist g8
        have hfit : ∀ p ∈ ps2, p.fit := fun p hp => (g8 p hp).fit
        have hshow : (histD ps2).showable = true := (fine_show hfine).1
        have hnd : (histD ps2).hasDict = false := nodict_lay (fine_lay hfine)
        have hdep : (histD ps2).depth ≤ 60 := Nat.le_trans (depth_ok _ _ hok9) (by decide)
        have hsz : (histD ps2).shown.length ≤ sizeLine := PyData.shown_fits_bulk (B := 13) (by decide) (by decide) (fine_show hfine).2 (by omega)
        obtain ⟨a, xs, rfl, hS, hall⟩ := dp_tup (es := ps2.map prD) d8
        have memb : ∀ c ∈ [b], c ∈ [b] := fun c hc => hc
        -- soft, due, shown
        refine ⟨_, rfl, _, rfl, [b], b, _, .ref a, histD ps2, rfl, List.mem_singleton.mpr rfl, box_live b8, b8, by omega, d8, hok9, fun v3 d3 H3 et eo s3 b3 hd3 => ?_⟩
        have d83 := dp_same (s3.hide memb) d8
        refine ⟨_, rfl, .ref a, ps2, rfl, dp_same (hide_same _ _) d83, g8, l8, fun H4 s4 => ?_⟩
        have d84 := dp_same (hide_of_same s4) d83
        have hd4 := dp_same (hide_of_same s4) hd3
        have b4 := b3.same s4
        have sx4 := s8.trans (s3.trans (SameX.of (B := [b]) s4))
        refine ⟨_, rfl, .ref a, histD ps2, rfl, ⟨a, rfl⟩, dp_same (hide_same _ _) d84, hshow, hnd, hdep, hsz, _, _, _, rfl, ?_⟩
        -- told
        refine ⟨_, rfl, .ref a, ps2, rfl, ⟨_, dp_same (hide_same _ _) d84, hflat⟩, hfit, by omega, ?_⟩
        refine ⟨_, rfl, [b], .ref a, histD ps2, rfl, box_live b4, d84, hok9, fun v5 H5 s5 hd5 => ?_⟩
        have d85 := dp_same (hide_of_same s5) d84
        have hd35 := dp_same (hide_of_same s5) hd4
        have b5 := b4.same s5
        refine ⟨v5, ps2, rfl, ⟨_, dp_same (hide_same _ _) hd5, (tup_lst _).trans hflat⟩, hfit, by omega, ?_⟩
        refine ⟨_, rfl, v3, ps2, rfl, ⟨d3, dp_same (hide_same _ _) hd35, et.trans hflat⟩, hfit, by omega, by show 3 ≤ sizeLine; decide, fun l6 nl6 => ?_⟩
        -- the first comparison
        refine ⟨_, rfl, _, rfl, by show 1 ≤ sizeLine; decide, fun l7 nl7 => ⟨l7, 3, [.bl (closedP ps2)], rfl, rfl, upd_same, by decide, by decide, by show 1 * 3 ≤ sizeLine; decide, fun l8' nl8 => ?_⟩⟩
        have w6 := same_upd (o := HO.lst [.bl (closedP ps2), .bl (closedP ps2), .bl (closedP ps2)]) nl6
        have w7 := same_upd (o := HO.lst [.bl (closedP ps2)]) nl7
        have w8 := same_upd (o := HO.lst (List.replicate (3 : Int).toNat [V.bl (closedP ps2)]).flatten) nl8
        have w68 := (w6.trans w7).trans w8
        refine ⟨9, .ref l6, .ref l8', .list [.bool (closedP ps2), .bool (closedP ps2), .bool (closedP ps2)], rfl, rfl, .lst (SqL.of (w8 _ _ (w7 _ _ upd_same))) (.cons (.bl _) (.cons (.bl _) (.cons (.bl _) .nil))), .lst (SqL.of upd_same) (.cons (.bl _) (.cons (.bl _) (.cons (.bl _) .nil))), by simp [okD, okDs], fun H9 s9 => ⟨_, rfl, iteF ?_⟩⟩
        have d89 := dp_same (hide_of_same (w68.trans s9)) d85
        have hd39 := dp_same (hide_of_same (w68.trans s9)) hd35
        have b9 := b5.same (w68.trans s9)
        have sx9 := sx4.trans (SameX.of (B := [b]) (s5.trans (w68.trans s9)))
        refine ⟨_, rfl, .ref a, histD ps2, rfl, ⟨a, rfl⟩, dp_same (hide_same _ _) d89, hshow, hnd, hdep, hsz, _, rfl, rfl, _, rfl, iteNS rfl ?_⟩
        -- the events
        obtain ⟨a', xs', ea, hS9, hall9⟩ := dp_tup (es := ps2.map prD) d89
        cases ea
        have hxl9 := dps_len hall9
        rw [List.length_map] at hxl9
        refine ⟨_, rfl, a, xs', rfl, .inr hS9, fun J G wk hG D nD => lc_dp (K := K) wk (ds := ps2.map prD) (B := [b]) (C := []) (i := 8) hall9 (box_live b9) (fun c hc => absurd hc List.not_mem_nil) nD (by omega) hG
          (fun _ _ => True) trivial (fun _ _ _ _ _ => trivial) (fun _ _ _ c hc => absurd hc List.not_mem_nil) (fun e e' => ∀ p, e = prD p → e' = evD p) ?_ ?_⟩
        · intro j x e H10 Q2 _ he lv2 _ hdp2 k2
          obtain ⟨p, hp, rfl⟩ : ∃ p, ps2[j]? = some p ∧ e = prD p := by
            rw [List.getElem?_map, Option.map_eq_some_iff] at he
            obtain ⟨p, h1, h2⟩ := he
            exact ⟨p, h1, h2.symm⟩
          obtain ⟨c, zs, rfl, hcs, hcall⟩ := dp_tup (es := [evD p, toldD p.told]) hdp2
          obtain ⟨z0, e0, dz0⟩ := dps_get' (i := 0) hcall rfl
          exact ⟨_, rfl, ix_vt (i := 0) (.inr (same_seqT (hide_same _ _) hcs)) e0 (k2 z0 H10 (evD p) (SameX.refl _ _) (fun p' hp' => ev_inj hp') dz0 trivial)⟩
        intro H10 acc ds' s10 lv10 _ hD10 hacc h2
        rw [all2_evs h2] at hacc
        have w10 : Same H9 H10 := fun c o e => s10 c o (fun z => (List.mem_cons.mp z).elim (ne_of_none e nD) (fun z => absurd z List.not_mem_nil)) e
        refine ⟨_, _, rfl, .inl ⟨SqL.of hD10, fun l11 nl11 => ?_⟩⟩
        have w11 := w10.trans (same_upd (o := HO.tup acc) nl11)
        have dp11 := dp_new (K := K) lv10.tail nl11 (dps_same hide_leave hacc)
        have d811 := dp_same (hide_of_same w11) d89
        have hd311 := dp_same (hide_of_same w11) hd39
        have b11 := b9.same w11
        have sx11 := sx9.trans (SameX.of (B := [b]) w11)
        generalize upd H10 l11 (HO.tup acc) = H11 at dp11 d811 hd311 b11 sx11
        -- the second comparison
        refine ⟨_, rfl, [b], .ref a, histD ps2, ps2, rfl, box_live b11, d811, hok9, hflat, fun v12 H12 s12 hd12 => ?_⟩
        refine ⟨_, rfl, [b], v3, d3, ps2, rfl, box_live (b11.same s12), dp_same (hide_of_same s12) hd311, eo, et.trans hflat, fun v13 H13 s13 hd13 => ?_⟩
        refine ⟨by show 2 ≤ sizeLine; decide, fun l14 nl14 => ⟨_, rfl, _, rfl, by show 2 ≤ sizeLine; decide, fun l15 nl15 => ?_⟩⟩
        have w14 := same_upd (o := HO.lst [v12, v13]) nl14
        have w15 := same_upd (o := HO.lst [V.ref l11, V.ref l11]) nl15
        refine ⟨9, .ref l14, .ref l15, .list [.tuple (ps2.map evD), .tuple (ps2.map evD)], rfl, rfl, ?_, ?_, ?_, fun H16 s16 => ⟨_, rfl, iteF ?_⟩⟩
        · exact .lst (SqL.of (w15 _ _ upd_same)) (.cons (dp_same ((hide_same _ _).trans ((s13.trans w14).trans w15)) hd12) (.cons (dp_same ((hide_same _ _).trans (w14.trans w15)) hd13) .nil))
        · have z := dp_same ((hide_same _ _).trans (((s12.trans s13).trans w14).trans w15)) dp11
          exact .lst (SqL.of upd_same) (.cons z (.cons z .nil))
        · exact (ok_mk (m := 8) (by show 2 ≤ 1000; decide) (by simp only [okDs, ok_evs g8 (by omega), Bool.and_self])).1
        · have w16 := (((s12.trans s13).trans w14).trans w15).trans s16
          exact ⟨_, _, _, _, _, _, _, rfl, sx.trans (sx11.trans (SameX.of (B := [b]) w16)), (b11.same w16).le (by omega)⟩
      · refine ⟨_, rfl, ?_⟩
        have d8 := d2
        have s8 := s2
        have b8 := b2
        have g8 := g2
        have l8 := hl2
        obtain ⟨hfine, hok9, hbulk, hnod⟩ := good_hist g8 (by omega)
        have hflat := flat_hist g8
        have hfit : ∀ p ∈ ps2, p.fit := fun p hp => (g8 p hp).fit
        have hshow : (histD ps2).showable = true := (fine_show hfine).1
        have hnd : (histD ps2).hasDict = false := nodict_lay (fine_lay hfine)
        have hdep : (histD ps2).depth ≤ 60 := Nat.le_trans (depth_ok _ _ hok9) (by decide)
        have hsz : (histD ps2).shown.length ≤ sizeLine := PyData.shown_fits_bulk (B := 13) (by decide) (by decide) (fine_show hfine).2 (by omega)
        obtain ⟨a, xs, rfl, hS, hall⟩ := dp_tup (es := ps2.map prD) d8
        have memb : ∀ c ∈ [b], c ∈ [b] := fun c hc => hc
        -- soft, due, shown
        refine ⟨_, rfl, _, rfl, [b], b, _, .ref a, histD ps2, rfl, List.mem_singleton.mpr rfl, box_live b8, b8, by omega, d8, hok9, fun v3 d3 H3 et eo s3 b3 hd3 => ?_⟩
        have d83 := dp_same (s3.hide memb) d8
        refine ⟨_, rfl, .ref a, ps2, rfl, dp_same (hide_same _ _) d83, g8, l8, fun H4 s4 => ?_⟩
        have d84 := dp_same (hide_of_same s4) d83
        have hd4 := dp_same (hide_of_same s4) hd3
        have b4 := b3.same s4
        have sx4 := s8.trans (s3.trans (SameX.of (B := [b]) s4))
        refine ⟨_, rfl, .ref a, histD ps2, rfl, ⟨a, rfl⟩, dp_same (hide_same _ _) d84, hshow, hnd, hdep, hsz, _, _, _, rfl, ?_⟩
        -- told
        refine ⟨_, rfl, .ref a, ps2, rfl, ⟨_, dp_same (hide_same _ _) d84, hflat⟩, hfit, by omega, ?_⟩
        refine ⟨_, rfl, [b], .ref a, histD ps2, rfl, box_live b4, d84, hok9, fun v5 H5 s5 hd5 => ?_⟩
        have d85 := dp_same (hide_of_same s5) d84
        have hd35 := dp_same (hide_of_same s5) hd4
        have b5 := b4.same s5
        refine ⟨v5, ps2, rfl, ⟨_, dp_same (hide_same _ _) hd5, (tup_lst _).trans hflat⟩, hfit, by omega, ?_⟩
        refine ⟨_, rfl, v3, ps2, rfl, ⟨d3, dp_same (hide_same _ _) hd35, et.trans hflat⟩, hfit, by omega, by show 3 ≤ sizeLine; decide, fun l6 nl6 => ?_⟩
        -- the first comparison
        refine ⟨_, rfl, _, rfl, by show 1 ≤ sizeLine; decide, fun l7 nl7 => ⟨l7, 3, [.bl (closedP ps2)], rfl, rfl, upd_same, by decide, by decide, by show 1 * 3 ≤ sizeLine; decide, fun l8' nl8 => ?_⟩⟩
        have w6 := same_upd (o := HO.lst [.bl (closedP ps2), .bl (closedP ps2), .bl (closedP ps2)]) nl6
        have w7 := same_upd (o := HO.lst [.bl (closedP ps2)]) nl7
        have w8 := same_upd (o := HO.lst (List.replicate (3 : Int).toNat [V.bl (closedP ps2)]).flatten) nl8
        have w68 := (w6.trans w7).trans w8
        refine ⟨9, .ref l6, .ref l8', .list [.bool (closedP ps2), .bool (closedP ps2), .bool (closedP ps2)], rfl, rfl, .lst (SqL.of (w8 _ _ (w7 _ _ upd_same))) (.cons (.bl _) (.cons (.bl _) (.cons (.bl _) .nil))), .lst (SqL.of upd_same) (.cons (.bl _) (.cons (.bl _) (.cons (.bl _) .nil))), by simp [okD, okDs], fun H9 s9 => ⟨_, rfl, iteF ?_⟩⟩
        have d89 := dp_same (hide_of_same (w68.trans s9)) d85
        have hd39 := dp_same (hide_of_same (w68.trans s9)) hd35
        have b9 := b5.same (w68.trans s9)
        have sx9 := sx4.trans (SameX.of (B := [b]) (s5.trans (w68.trans s9)))
        refine ⟨_, rfl, .ref a, histD ps2, rfl, ⟨a, rfl⟩, dp_same (hide_same _ _) d89, hshow, hnd, hdep, hsz, _, rfl, rfl, _, rfl, iteNS rfl ?_⟩
        -- the events
        obtain ⟨a', xs', ea, hS9, hall9⟩ := dp_tup (es := ps2.map prD) d89
        cases ea
        have hxl9 := dps_len hall9
        rw [List.length_map] at hxl9
        refine ⟨_, rfl, a, xs', rfl, .inr hS9, fun J G wk hG D nD => lc_dp (K := K) wk (ds := ps2.map prD) (B := [b]) (C := []) (i := 8) hall9 (box_live b9) (fun c hc => absurd hc List.not_mem_nil) nD (by omega) hG
          (fun _ _ => True) trivial (fun _ _ _ _ _ => trivial) (fun _ _ _ c hc => absurd hc List.not_mem_nil) (fun e e' => ∀ p, e = prD p → e' = evD p) ?_ ?_⟩
        · intro j x e H10 Q2 _ he lv2 _ hdp2 k2
          obtain ⟨p, hp, rfl⟩ : ∃ p, ps2[j]? = some p ∧ e = prD p := by
            rw [List.getElem?_map, Option.map_eq_some_iff] at he
            obtain ⟨p, h1, h2⟩ := he
            exact ⟨p, h1, h2.symm⟩
          obtain ⟨c, zs, rfl, hcs, hcall⟩ := dp_tup (es := [evD p, toldD p.told]) hdp2
          obtain ⟨z0, e0, dz0⟩ := dps_get' (i := 0) hcall rfl
          exact ⟨_, rfl, ix_vt (i := 0) (.inr (same_seqT (hide_same _ _) hcs)) e0 (k2 z0 H10 (evD p) (SameX.refl _ _) (fun p' hp' => ev_inj hp') dz0 trivial)⟩
        intro H10 acc ds' s10 lv10 _ hD10 hacc h2
        rw [all2_evs h2] at hacc
        have w10 : Same H9 H10 := fun c o e => s10 c o (fun z => (List.mem_cons.mp z).elim (ne_of_none e nD) (fun z => absurd z List.not_mem_nil)) e
        refine ⟨_, _, rfl, .inl ⟨SqL.of hD10, fun l11 nl11 => ?_⟩⟩
        have w11 := w10.trans (same_upd (o := HO.tup acc) nl11)
        have dp11 := dp_new (K := K) lv10.tail nl11 (dps_same hide_leave hacc)
        have d811 := dp_same (hide_of_same w11) d89
        have hd311 := dp_same (hide_of_same w11) hd39
        have b11 := b9.same w11
        have sx11 := sx9.trans (SameX.of (B := [b]) w11)
        generalize upd H10 l11 (HO.tup acc) = H11 at dp11 d811 hd311 b11 sx11
        -- the second comparison
        refine ⟨_, rfl, [b], .ref a, histD ps2, ps2, rfl, box_live b11, d811, hok9, hflat, fun v12 H12 s12 hd12 => ?_⟩
        refine ⟨_, rfl, [b], v3, d3, ps2, rfl, box_live (b11.same s12), dp_same (hide_of_same s12) hd311, eo, et.trans hflat, fun v13 H13 s13 hd13 => ?_⟩
        refine ⟨by show 2 ≤ sizeLine; decide, fun l14 nl14 => ⟨_, rfl, _, rfl, by show 2 ≤ sizeLine; decide, fun l15 nl15 => ?_⟩⟩
        have w14 := same_upd (o := HO.lst [v12, v13]) nl14
        have w15 := same_upd (o := HO.lst [V.ref l11, V.ref l11]) nl15
        refine ⟨9, .ref l14, .ref l15, .list [.tuple (ps2.map evD), .tuple (ps2.map evD)], rfl, rfl, ?_, ?_, ?_, fun H16 s16 => ⟨_, rfl, iteF ?_⟩⟩
        · exact .lst (SqL.of (w15 _ _ upd_same)) (.cons (dp_same ((hide_same _ _).trans ((s13.trans w14).trans w15)) hd12) (.cons (dp_same ((hide_same _ _).trans (w14.trans w15)) hd13) .nil))
        · have z := dp_same ((hide_same _ _).trans (((s12.trans s13).trans w14).trans w15)) dp11
          exact .lst (SqL.of upd_same) (.cons z (.cons z .nil))
        · exact (ok_mk (m := 8) (by show 2 ≤ 1000; decide) (by simp only [okDs, ok_evs g8 (by omega), Bool.and_self])).1
        · have w16 := (((s12.trans s13).trans w14).trans w15).trans s16
          exact ⟨_, _, _, _, _, _, _, rfl, sx.trans (sx11.trans (SameX.of (B := [b]) w16)), (b11.same w16).le (by omega)⟩
    · rintro σ H' ⟨y1, y2, y3, y4, y5, y6, y7, rfl, sx, bx⟩
      refine ⟨by show 0 ≤ sizeLine; decide, fun p1 n1 => ⟨_, [], rfl, ⟨.tuple [], .tup (SqT.of upd_same) .nil, by simp [tupD, tupDs, histD]⟩, fun p hp => absurd hp List.not_mem_nil, by decide, ?_⟩⟩
      refine ⟨by show 0 ≤ sizeLine; decide, fun p2 n2 => ⟨[], _, .tuple [], [], rfl, Live.nil _, .tup (SqT.of (by rw [hide_nil]; exact upd_same)) .nil, by decide +kernel, by simp [tupD, tupDs, histD], fun v3 H3 s3 d3 => ?_⟩⟩
      refine ⟨by show 2 ≤ sizeLine; decide, fun l4 nl4 => ⟨by show 0 ≤ sizeLine; decide, fun p5 n5 => ⟨by show 2 ≤ sizeLine; decide, fun l6 nl6 => ⟨9, .ref l4, .ref l6, .list [.bool false, .tuple []], rfl, rfl, ?_, ?_, by decide +kernel, fun H7 s7 => ?_⟩⟩⟩⟩
      · rw [hide_nil] at d3
        have z := (same_upd (o := HO.tup []) n5).trans (same_upd (o := HO.lst [.bl false, .ref p5]) nl6)
        exact .lst (SqL.of (z _ _ upd_same)) (.cons (.bl false) (.cons (dp_same ((same_upd nl4).trans z) d3) .nil))
      · exact .lst (SqL.of upd_same) (.cons (.bl false) (.cons (.tup (SqT.of (same_upd nl6 _ _ upd_same)) .nil) .nil))
      · have e := (((((same_upd n1).trans (same_upd n2)).trans s3).trans (same_upd nl4)).trans (same_upd n5)).trans ((same_upd nl6).trans s7)
        exact q H7 (sx.trans (SameX.of e)) ((bx.same e).le (by omega))
end
end KV

namespace KV
open PySem PySem.Spec PyProof.Rows L2 RZ
section
variable {P : Program} {w : World} {K : PySem.W.Frag} {mg : Str → Option Value} {base : Heap}
def spLaw (K : PySem.W.Frag) : Sp := fun vs H Q _ => ∃ (a : Addr) (ns : List Int), vs = [.ref a] ∧ SqL K H a (ns.map V.int) ∧ ns.length ≤ 63 ∧ ∀ H', Q (.bl true) H'
theorem scLaw : FnScope ["_law_script", "_law_k", "_law_box_here", "_law_turn"] ["_law_script"] (defScope sLaw) :=
  ⟨rfl, rfl, rfl, by decide +kernel, rfl, by decide +kernel, by decide +kernel⟩
theorem ok_law {f fR fB : Addr} {fd fdR fdB : FuncData} (F : Fun K "law" "law" sLaw f fd) (T : Defs K mg) (FR : Fun K "_law_right" "_law_right" sRight fR fdR) (bR : Binds K fdR ["_law_box_here"] []) (mR : mg "_law_right" = some (.ref fR))
    (FB : Fun K "_law_box" "_law_box" sBox fB fdB) (bB : Binds K fdB ["_law_script", "_law_k"] []) (mB : mg "_law_box" = some (.ref fB)) : FnG P w K mg base 13 f fd ["_law_script"] (spLaw K) := by
  have GR : FnG P w K mg base 12 fR fdR ["_law_box_here"] spRight := ok_right FR T
  have GB : FnOk P w K mg base CX0 1 fB fdB ["_law_script", "_law_k"] (spBox K) := ok_box FB T.zInt T.zLen T.zAbs
  refine okG F scLaw (fun vs H Q E h => ?_) (fun cdv A outer s H vs Q E hgd hr h => ?_)
  · obtain ⟨a, ns, rfl, _⟩ := h
    rfl
  · obtain ⟨a, ns, rfl, hS, hlen, q⟩ := h
    have hr1 : Room 1 _ := hr.mono (by decide)
    refine ⟨_, pss_cons (ps_for PassesOwn.never rfl (pi_range1 (by rfl) T.zRange (pa_cons (pe_op op_add pe_int (pe_callB (call_min2 rfl) (by rfl) T.zMin boot_min (pa_cons pe_int (pa_cons (pe_callB call_len_seq (by rfl) T.zLen PySem.boot_len (pa_cons (pv 0) pa_nil)) pa_nil)))) pa_nil)) (pg_name (i := 1) scLaw.nd rfl (.inl rfl))
        (pss_cons (ps_set (i := 2) scLaw.nd rfl (.inr rfl) (pe_call GB hr1 (by rfl) mB FB.kp bB .nil pass0 (pa_cons (pv 0) (pa_cons (pv 1) pa_nil))))
        (pss_one (ps_if (pt_not (pt_val (pe_callB (cr_all rfl) (by rfl) T.zAll boot_all (pa_cons
          (pe_lc (own := [("_law_turn", 3)]) (g := gName 3) (tt := tYes) rfl scLaw.nd (pi_range1 (by rfl) T.zRange (pa_cons pe_int pa_nil)) (blkOk_by (N := ["_law_script", "_law_k", "_law_box_here", "_law_turn"]) (sc := defScope sLaw) (by decide +kernel))
            (fun _ _ _ _ _ => pg_name (i := 3) scLaw.nd rfl (Or.inl rfl)) (fun _ _ _ _ _ => pts_nil) (fun _ _ _ _ _ => pe_callG GR hgd hr (by rfl) mR FR.kp bR (pa_cons (pv 2) pa_nil))) pa_nil)))) (pss_one (ps_ret pe_bl)) pss_nil))))
      (pss_one (ps_ret pe_bl)), ?_⟩
    refine ⟨_, rfl, a, _, rfl, .inl hS, _, _, rfl, _, _, rfl, rfl, _, rfl, ?_, ?_, for_range (lo := 0) (n := _) (fun i σ H' => ∃ y1 y2, σ = [some (.ref a), y1, y2, none] ∧ Same H H') ⟨none, none, rfl, Same.refl _⟩ ?_ ?_⟩
    · split <;> omega
    · split <;> omega
    · rintro i σ H' hi ⟨y1, y2, rfl, sm⟩
      have hi10 : i < 10 := by
        rw [List.length_map] at hi
        split at hi <;> omega
      refine ⟨_, rfl, _, rfl, a, ns, i, by rw [Int.zero_add]; rfl, sm.seq hS, hi10, hlen, fun p H2 s2 n2 b2 => ?_⟩
      refine ⟨2, rfl, by decide, by decide, fun D nD => lc_it (walk_range (lo := 0) (n := 2)) (fun j H3 => SameX [D, p] H2 H3 ∧ BoxAt H3 p (20000 * j) ∧ H3 D = some (.lst ((List.replicate j true).map V.bl))) ⟨?_, ?_, upd_same⟩ (fun _ _ _ _ => trivial) ?_ ?_⟩
      · exact sameX_upd List.mem_cons_self
      · have pD : p ≠ D := fun e => by
          obtain ⟨_, _, _, z, _⟩ := b2
          rw [e, nD] at z
          cases z
        obtain ⟨x, y, c, z, z2⟩ := b2
        exact ⟨x, y, c, by rw [upd_ne pD]; exact z, z2⟩
      · rintro j x H3 H3' hj ⟨s3, b3, hD3⟩ ⟨rfl, rfl⟩
        refine ⟨rfl, tYes_ok ⟨_, rfl, p, _, rfl, b3, by omega, fun H4 s4 b4 => ?_⟩⟩
        have pD : D ≠ p := fun e => by
          obtain ⟨_, _, _, z, _⟩ := b2
          rw [← e, nD] at z
          cases z
        have hD4 : H4 D = some (.lst ((List.replicate j true).map V.bl)) := s4 D _ (fun z => pD (List.mem_singleton.mp z)) hD3
        refine ⟨_, hD4, by rw [List.length_map, List.length_replicate]; exact small1000 (by omega), ?_, ?_, ?_⟩
        · exact s3.trans ((s4.sub fun c hc => List.mem_cons_of_mem _ hc).trans (sameX_upd List.mem_cons_self))
        · obtain ⟨x, y, c, z, z2⟩ := b4
          exact ⟨x, y, c, by rw [upd_ne pD.symm]; exact z, by omega⟩
        · rw [upd_same, List.replicate_succ', List.map_append]
          rfl
      · rintro H3 ⟨s3, b3, hD3⟩
        refine ⟨D, List.replicate 2 true, rfl, SqL.of hD3, _, rfl, iteBF (by rw [rep_all]; rfl) ?_⟩
        refine ⟨_, _, rfl, fun c o e => ?_⟩
        have e1 := sm c o e
        have e2 := s2 c o e1
        refine s3 c o (fun z => ?_) e2
        rcases List.mem_cons.mp z with z | z
        · exact ne_of_none e2 nD z
        · exact ne_of_none e1 n2 (List.mem_singleton.mp z)
    · rintro σ H' _
      exact q H'
end
/-! ### the head -/
theorem all_mk {l : PySem.W.OpenLaw} {w : World} {K : PySem.W.Frag} {h : Heap} {mg : Str → Option Value} {fa : Addr} (X : K.In h) (G : h.Ns mainGlobals mg) (hfa : mg "law" = some (.ref fa))
    {f0 : Addr} {od0 an0 : Option Addr} {sl0 : Array (Option Value)} {oc0 kV0 dc0 pm0 cd0 ct0 : Value} {f1 : Addr} {od1 an1 : Option Addr} {sl1 : Array (Option Value)} {oc1 kV1 dc1 pm1 cd1 ct1 : Value} {f2 : Addr} {od2 an2 : Option Addr} {sl2 : Array (Option Value)} {oc2 kV2 dc2 pm2 cd2 ct2 : Value} {f3 : Addr} {od3 an3 : Option Addr} {sl3 : Array (Option Value)} {oc3 kV3 dc3 pm3 cd3 ct3 : Value} {f4 : Addr} {od4 an4 : Option Addr} {sl4 : Array (Option Value)} {oc4 kV4 dc4 pm4 cd4 ct4 : Value} {f5 : Addr} {od5 an5 : Option Addr} {sl5 : Array (Option Value)} {oc5 kV5 dc5 pm5 cd5 ct5 : Value} {f6 : Addr} {od6 an6 : Option Addr} {sl6 : Array (Option Value)} {oc6 kV6 dc6 pm6 cd6 ct6 : Value} {f7 : Addr} {od7 an7 : Option Addr} {sl7 : Array (Option Value)} {oc7 kV7 dc7 pm7 cd7 ct7 : Value} {f8 : Addr} {od8 an8 : Option Addr} {sl8 : Array (Option Value)} {oc8 kV8 dc8 pm8 cd8 ct8 : Value} {f9 : Addr} {od9 an9 : Option Addr} {sl9 : Array (Option Value)} {oc9 kV9 dc9 pm9 cd9 ct9 : Value} {f10 : Addr} {od10 an10 : Option Addr} {sl10 : Array (Option Value)} {oc10 kV10 dc10 pm10 cd10 ct10 : Value} {f11 : Addr} {od11 an11 : Option Addr} {sl11 : Array (Option Value)} {oc11 kV11 dc11 pm11 cd11 ct11 : Value} {f12 : Addr} {od12 an12 : Option Addr} {sl12 : Array (Option Value)} {oc12 kV12 dc12 pm12 cd12 ct12 : Value}
    (a0 : PySem.W.nsIn K mainGlobals "in_tuples" = some (some (.ref f0))) (l0 : K.lookup f0 = some ⟨oc0, od0, .func (PySem.W.fnOf "in_tuples" "in_tuples" (defArgs sIn) (defBody sIn) (defScope sIn) .none kV0 dc0 pm0 an0 cd0 ct0), sl0⟩) (c0 : PySem.W.codeIn K cd0 "in_tuples" = true) (k0 : PySem.W.keepIn K (.ref f0) = true)
    (a1 : PySem.W.nsIn K mainGlobals "script_of" = some (some (.ref f1))) (l1 : K.lookup f1 = some ⟨oc1, od1, .func (PySem.W.fnOf "script_of" "script_of" (defArgs sScript) (defBody sScript) (defScope sScript) .none kV1 dc1 pm1 an1 cd1 ct1), sl1⟩) (c1 : PySem.W.codeIn K cd1 "script_of" = true) (k1 : PySem.W.keepIn K (.ref f1) = true)
    (a2 : PySem.W.nsIn K mainGlobals "is_closed" = some (some (.ref f2))) (l2 : K.lookup f2 = some ⟨oc2, od2, .func (PySem.W.fnOf "is_closed" "is_closed" (defArgs sClosed) (defBody sClosed) (defScope sClosed) .none kV2 dc2 pm2 an2 cd2 ct2), sl2⟩) (c2 : PySem.W.codeIn K cd2 "is_closed" = true) (k2 : PySem.W.keepIn K (.ref f2) = true)
    (a3 : PySem.W.nsIn K mainGlobals "is_empty_reap" = some (some (.ref f3))) (l3 : K.lookup f3 = some ⟨oc3, od3, .func (PySem.W.fnOf "is_empty_reap" "is_empty_reap" (defArgs sEmpty) (defBody sEmpty) (defScope sEmpty) .none kV3 dc3 pm3 an3 cd3 ct3), sl3⟩) (c3 : PySem.W.codeIn K cd3 "is_empty_reap" = true) (k3 : PySem.W.keepIn K (.ref f3) = true)
    (a4 : PySem.W.nsIn K mainGlobals "_law_take" = some (some (.ref f4))) (l4 : K.lookup f4 = some ⟨oc4, od4, .func (PySem.W.fnOf "_law_take" "_law_take" (defArgs sTake) (defBody sTake) (defScope sTake) .none kV4 dc4 pm4 an4 cd4 ct4), sl4⟩) (c4 : PySem.W.codeIn K cd4 "_law_take" = true) (k4 : PySem.W.keepIn K (.ref f4) = true)
    (a5 : PySem.W.nsIn K mainGlobals "_law_mixed" = some (some (.ref f5))) (l5 : K.lookup f5 = some ⟨oc5, od5, .func (PySem.W.fnOf "_law_mixed" "_law_mixed" (defArgs sMixed) (defBody sMixed) (defScope sMixed) .none kV5 dc5 pm5 an5 cd5 ct5), sl5⟩) (c5 : PySem.W.codeIn K cd5 "_law_mixed" = true) (k5 : PySem.W.keepIn K (.ref f5) = true)
    (a6 : PySem.W.nsIn K mainGlobals "_law_lists" = some (some (.ref f6))) (l6 : K.lookup f6 = some ⟨oc6, od6, .func (PySem.W.fnOf "_law_lists" "_law_lists" (defArgs sLists) (defBody sLists) (defScope sLists) .none kV6 dc6 pm6 an6 cd6 ct6), sl6⟩) (c6 : PySem.W.codeIn K cd6 "_law_lists" = true) (k6 : PySem.W.keepIn K (.ref f6) = true)
    (a7 : PySem.W.nsIn K mainGlobals "_law_same" = some (some (.ref f7))) (l7 : K.lookup f7 = some ⟨oc7, od7, .func (PySem.W.fnOf "_law_same" "_law_same" (defArgs sSame) (defBody sSame) (defScope sSame) .none kV7 dc7 pm7 an7 cd7 ct7), sl7⟩) (c7 : PySem.W.codeIn K cd7 "_law_same" = true) (k7 : PySem.W.keepIn K (.ref f7) = true)
    (a8 : PySem.W.nsIn K mainGlobals "_law_box" = some (some (.ref f8))) (l8 : K.lookup f8 = some ⟨oc8, od8, .func (PySem.W.fnOf "_law_box" "_law_box" (defArgs sBox) (defBody sBox) (defScope sBox) .none kV8 dc8 pm8 an8 cd8 ct8), sl8⟩) (c8 : PySem.W.codeIn K cd8 "_law_box" = true) (k8 : PySem.W.keepIn K (.ref f8) = true)
    (a9 : PySem.W.nsIn K mainGlobals "_law_pairs" = some (some (.ref f9))) (l9 : K.lookup f9 = some ⟨oc9, od9, .func (PySem.W.fnOf "_law_pairs" "_law_pairs" (defArgs sPairs) (defBody sPairs) (defScope sPairs) .none kV9 dc9 pm9 an9 cd9 ct9), sl9⟩) (c9 : PySem.W.codeIn K cd9 "_law_pairs" = true) (k9 : PySem.W.keepIn K (.ref f9) = true)
    (a10 : PySem.W.nsIn K mainGlobals "_law_shut" = some (some (.ref f10))) (l10 : K.lookup f10 = some ⟨oc10, od10, .func (PySem.W.fnOf "_law_shut" "_law_shut" (defArgs sShut) (defBody sShut) (defScope sShut) .none kV10 dc10 pm10 an10 cd10 ct10), sl10⟩) (c10 : PySem.W.codeIn K cd10 "_law_shut" = true) (k10 : PySem.W.keepIn K (.ref f10) = true)
    (a11 : PySem.W.nsIn K mainGlobals "_law_right" = some (some (.ref f11))) (l11 : K.lookup f11 = some ⟨oc11, od11, .func (PySem.W.fnOf "_law_right" "_law_right" (defArgs sRight) (defBody sRight) (defScope sRight) .none kV11 dc11 pm11 an11 cd11 ct11), sl11⟩) (c11 : PySem.W.codeIn K cd11 "_law_right" = true) (k11 : PySem.W.keepIn K (.ref f11) = true)
    (a12 : PySem.W.nsIn K mainGlobals "law" = some (some (.ref f12))) (l12 : K.lookup f12 = some ⟨oc12, od12, .func (PySem.W.fnOf "law" "law" (defArgs sLaw) (defBody sLaw) (defScope sLaw) .none kV12 dc12 pm12 an12 cd12 ct12), sl12⟩) (c12 : PySem.W.codeIn K cd12 "law" = true) (k12 : PySem.W.keepIn K (.ref f12) = true)
    (z0 : PySem.W.nsIn K mainGlobals "int" = some none)
    (z1 : PySem.W.nsIn K mainGlobals "len" = some none)
    (z2 : PySem.W.nsIn K mainGlobals "tuple" = some none)
    (z3 : PySem.W.nsIn K mainGlobals "list" = some none)
    (z4 : PySem.W.nsIn K mainGlobals "range" = some none)
    (z5 : PySem.W.nsIn K mainGlobals "isinstance" = some none)
    (z6 : PySem.W.nsIn K mainGlobals "enumerate" = some none)
    (z7 : PySem.W.nsIn K mainGlobals "all" = some none)
    (z8 : PySem.W.nsIn K mainGlobals "zip" = some none)
    (z9 : PySem.W.nsIn K mainGlobals "bool" = some none)
    (z10 : PySem.W.nsIn K mainGlobals "str" = some none)
    (z11 : PySem.W.nsIn K mainGlobals "repr" = some none)
    (z12 : PySem.W.nsIn K mainGlobals "abs" = some none)
    (z13 : PySem.W.nsIn K mainGlobals "min" = some none) :
    ∃ fd : FuncData, (∀ (s : Shared) (v : Value), BindsTo s fd ⟨[v], []⟩ [("_law_script", v)]) ∧ ∀ base : Heap, K.In base → base.Ns mainGlobals mg → FnG l.prog w K mg base 13 fa fd ["_law_script"] (spLaw K) := by
  have e := hfa.symm.trans (PySem.W.mg_of X G a12)
  cases e
  have F0 := fun_mk (st := sIn) l0 c0 k0
  have b0 := F0.binds (ps := ["thing"]) fun _ _ _ _ _ _ us hl => match us, hl with | [_], _ => rfl
  have F1 := fun_mk (st := sScript) l1 c1 k1
  have b1 := F1.binds (ps := ["history"]) fun _ _ _ _ _ _ us hl => match us, hl with | [_], _ => rfl
  have F2 := fun_mk (st := sClosed) l2 c2 k2
  have b2 := F2.binds (ps := ["history"]) fun _ _ _ _ _ _ us hl => match us, hl with | [_], _ => rfl
  have F3 := fun_mk (st := sEmpty) l3 c3 k3
  have b3 := F3.binds (ps := ["pair"]) fun _ _ _ _ _ _ us hl => match us, hl with | [_], _ => rfl
  have F4 := fun_mk (st := sTake) l4 c4 k4
  have b4 := F4.binds (ps := ["_law_box_here", "_law_below"]) fun _ _ _ _ _ _ us hl => match us, hl with | [_, _], _ => rfl
  have F5 := fun_mk (st := sMixed) l5 c5 k5
  have b5 := F5.binds (ps := ["_law_box_here", "_law_matter"]) fun _ _ _ _ _ _ us hl => match us, hl with | [_, _], _ => rfl
  have F6 := fun_mk (st := sLists) l6 c6 k6
  have b6 := F6.binds (ps := ["_law_matter"]) fun _ _ _ _ _ _ us hl => match us, hl with | [_], _ => rfl
  have F7 := fun_mk (st := sSame) l7 c7 k7
  have b7 := F7.binds (ps := ["_law_found", "_law_due"]) fun _ _ _ _ _ _ us hl => match us, hl with | [_, _], _ => rfl
  have F8 := fun_mk (st := sBox) l8 c8 k8
  have b8 := F8.binds (ps := ["_law_script", "_law_k"]) fun _ _ _ _ _ _ us hl => match us, hl with | [_, _], _ => rfl
  have F9 := fun_mk (st := sPairs) l9 c9 k9
  have b9 := F9.binds (ps := ["_law_box_here", "_law_many_so"]) fun _ _ _ _ _ _ us hl => match us, hl with | [_, _], _ => rfl
  have F10 := fun_mk (st := sShut) l10 c10 k10
  have b10 := F10.binds (ps := ["_law_pairs_so"]) fun _ _ _ _ _ _ us hl => match us, hl with | [_], _ => rfl
  have F11 := fun_mk (st := sRight) l11 c11 k11
  have b11 := F11.binds (ps := ["_law_box_here"]) fun _ _ _ _ _ _ us hl => match us, hl with | [_], _ => rfl
  have F12 := fun_mk (st := sLaw) l12 c12 k12
  have kc := kb1 (a := "history") F2 fun _ _ _ _ _ _ _ => ⟨rfl, rfl⟩
  have ko := kb1 (a := "history") F1 fun _ _ _ _ _ _ _ => ⟨rfl, rfl⟩
  have T : Defs K mg := {
    fT := f4,
    fM := f5,
    fL := f6,
    fS := f7,
    fP := f9,
    fU := f10,
    fI := f0,
    fC := f2,
    fE := f3,
    fO := f1,
    dT := _,
    dM := _,
    dL := _,
    dS := _,
    dP := _,
    dU := _,
    dI := _,
    dC := _,
    dE := _,
    dO := _,
    FT := F4,
    FM := F5,
    FL := F6,
    FS := F7,
    FP := F9,
    FU := F10,
    FI := F0,
    FC := F2,
    FE := F3,
    FO := F1,
    bT := b4,
    bM := b5,
    bL := b6,
    bS := b7,
    bP := b9,
    bU := b10,
    bI := b0,
    bC := b2,
    bE := b3,
    bO := b1,
    kC := kc,
    kO := ko,
    mT := PySem.W.mg_of X G a4,
    mM := PySem.W.mg_of X G a5,
    mL := PySem.W.mg_of X G a6,
    mS := PySem.W.mg_of X G a7,
    mP := PySem.W.mg_of X G a9,
    mU := PySem.W.mg_of X G a10,
    mI := PySem.W.mg_of X G a0,
    mC := PySem.W.mg_of X G a2,
    mE := PySem.W.mg_of X G a3,
    mO := PySem.W.mg_of X G a1,
    zInt := PySem.W.mg_none_of X G z0,
    zLen := PySem.W.mg_none_of X G z1,
    zTuple := PySem.W.mg_none_of X G z2,
    zList := PySem.W.mg_none_of X G z3,
    zRange := PySem.W.mg_none_of X G z4,
    zIsi := PySem.W.mg_none_of X G z5,
    zEnum := PySem.W.mg_none_of X G z6,
    zAll := PySem.W.mg_none_of X G z7,
    zZip := PySem.W.mg_none_of X G z8,
    zBool := PySem.W.mg_none_of X G z9,
    zStr := PySem.W.mg_none_of X G z10,
    zRepr := PySem.W.mg_none_of X G z11,
    zAbs := PySem.W.mg_none_of X G z12,
    zMin := PySem.W.mg_none_of X G z13 }
  refine ⟨PySem.W.fnOf "law" "law" (defArgs sLaw) (defBody sLaw) (defScope sLaw) .none kV12 dc12 pm12 an12 cd12 ct12, fun s v => .of_eq rfl, fun base _ _ => ?_⟩
  exact ok_law F12 T F11 b11 (PySem.W.mg_of X G a11) F8 b8 (PySem.W.mg_of X G a8)
end KV
open PySem PySem.W PyProof.Rows
set_option maxRecDepth 100000 in
set_option maxHeartbeats 0 in
theorem PySem.Challenge.cw_endonce_k06_closed_histories_holds : PySem.Challenge.rw_endonce_k06_closed_histories.Holds := by
  w_on; o_law; k_head; (case hw => w_witness2)
  k_fill
  refine KV.walkG (l := PySem.Challenge.rw_endonce_k06_closed_histories) (n := 63) (k := 13) (x := "_law_script") (sp := fun w => KV.spLaw _) rfl (by decide) rfl ⟨rfl, by decide, by decide⟩ (fun w h Y => PySem.W.kIn_of Y) ?F (fun _ _ a ns hl _ hS => ⟨a, ns, rfl, hS, hl, fun _ => rfl⟩)
  case F =>
    intro w mg fa h KX G hmg
    refine' KV.all_mk KX G hmg ?a0 ?l0 ?c0 ?k0 ?a1 ?l1 ?c1 ?k1 ?a2 ?l2 ?c2 ?k2 ?a3 ?l3 ?c3 ?k3 ?a4 ?l4 ?c4 ?k4 ?a5 ?l5 ?c5 ?k5 ?a6 ?l6 ?c6 ?k6 ?a7 ?l7 ?c7 ?k7 ?a8 ?l8 ?c8 ?k8 ?a9 ?l9 ?c9 ?k9 ?a10 ?l10 ?c10 ?k10 ?a11 ?l11 ?c11 ?k11 ?a12 ?l12 ?c12 ?k12 ?z0 ?z1 ?z2 ?z3 ?z4 ?z5 ?z6 ?z7 ?z8 ?z9 ?z10 ?z11 ?z12 ?z13
    (case a0 => k_is)
    (case l0 => k_is)
    (case c0 => k_is)
    (case k0 => k_is)
    (case a1 => k_is)
    (case l1 => k_is)
    (case c1 => k_is)
    (case k1 => k_is)
    (case a2 => k_is)
    (case l2 => k_is)
    (case c2 => k_is)
    (case k2 => k_is)
    (case a3 => k_is)
    (case l3 => k_is)
    (case c3 => k_is)
    (case k3 => k_is)
    (case a4 => k_is)
    (case l4 => k_is)
    (case c4 => k_is)
    (case k4 => k_is)
    (case a5 => k_is)
    (case l5 => k_is)
    (case c5 => k_is)
    (case k5 => k_is)
    (case a6 => k_is)
    (case l6 => k_is)
    (case c6 => k_is)
    (case k6 => k_is)
    (case a7 => k_is)
    (case l7 => k_is)
    (case c7 => k_is)
    (case k7 => k_is)
    (case a8 => k_is)
    (case l8 => k_is)
    (case c8 => k_is)
    (case k8 => k_is)
    (case a9 => k_is)
    (case l9 => k_is)
    (case c9 => k_is)
    (case k9 => k_is)
    (case a10 => k_is)
    (case l10 => k_is)
    (case c10 => k_is)
    (case k10 => k_is)
    (case a11 => k_is)
    (case l11 => k_is)
    (case c11 => k_is)
    (case k11 => k_is)
    (case a12 => k_is)
    (case l12 => k_is)
    (case c12 => k_is)
    (case k12 => k_is)
    (case z0 => k_is)
    (case z1 => k_is)
    (case z2 => k_is)
    (case z3 => k_is)
    (case z4 => k_is)
    (case z5 => k_is)
    (case z6 => k_is)
    (case z7 => k_is)
    (case z8 => k_is)
    (case z9 => k_is)
    (case z10 => k_is)
    (case z11 => k_is)
    (case z12 => k_is)
    (case z13 => k_is)
