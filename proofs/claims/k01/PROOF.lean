import PyProof.Rows.All
import Wide.All
import OpenK.AllK
import Wide.FinOn
import HandS.ForMost
import HandS.Wide
import HandS.IsInst
import HandS.TupAny
import HandS.Style
import HandS.FStr
import HandS.StrMore
import HandS.WordsExc
import HandS.ExcInit
import HandS.ExcField
import HandS.CallSlots
import HandS.Defaults
import KE.KExcIs
import HandS.ExcIs
import KE.GoesMore
import KE.GoesEnum
import HandS.Iter
import HandS.Walk
import HandS.DictComp
import KE.KSortTupUse
import KE.KDictSum
import KE.KDictCopyH
import HandS.SortRule
import HandS.Conv
import HandS.Set
import HandS.Keys
import HandS.DictTup
import KE.KDictPairs
import HandS.WideBits
import HandS.TupLe
import HandS.TupLen
import HandS.Conv
import HandS.DictEq
import HandS.Deep
import KE.DataEq
import HandS.Star
import HandS.RaiseMore
import HandS.StrMore
import HandS.Sort
import HandS.Flow
import HandS.SortInts
import HandS.TupAny
import PySem.Challenge.RW_streetpapers_k01_whole_floors
set_option Elab.async false
set_option linter.all false
set_option maxRecDepth 100000
set_option maxHeartbeats 4000000
namespace Sb
open PySem PySem.Spec PyProof.Rows L2 TL
/-! ### defs of the text, and what they promise -/
structure DefAt (K : PySem.W.Frag) (mg : Str → Option Value) (x : Str) (st : Stmt) (ps : List Str) : Prop where
  ex : ∃ (f : Addr) (fd : FuncData), Fun K x x st f fd ∧ mg x = some (.ref f) ∧ Binds K fd ps []
structure Cal (P : Program) (w : World) (K : PySem.W.Frag) (mg : Str → Option Value) (base : Heap) (CX : CXT) (x : Str) (k : Nat) (ps : List Str) (sp : Sp) : Prop where
  ex : ∃ (f : Addr) (fd : FuncData), FnOk P w K mg base CX k f fd ps sp ∧ mg x = some (.ref f) ∧ PySem.W.keepIn K (.ref f) = true ∧ Binds K fd ps []
section
variable {P : Program} {w : World} {K : PySem.W.Frag} {mg : Str → Option Value} {base : Heap}
theorem Cal.mono {CX : CXT} {x : Str} {j k : Nat} {ps : List Str} {sp : Sp} (C : Cal P w K mg base CX x j ps sp) (h : j ≤ k) : Cal P w K mg base CX x k ps sp := by
  obtain ⟨f, fd, F, m, kp, b⟩ := C.ex
  exact ⟨f, fd, F.mono h, m, kp, b⟩
theorem Cal.imp {CX : CXT} {x : Str} {k : Nat} {ps : List Str} {sp sp' : Sp} (C : Cal P w K mg base CX x k ps sp) (h : ∀ vs H Q E, sp' vs H Q E → sp vs H Q E) : Cal P w K mg base CX x k ps sp' := by
  obtain ⟨f, fd, F, m, kp, b⟩ := C.ex
  exact ⟨f, fd, F.imp h, m, kp, b⟩
theorem DefAt.cal {x : Str} {st : Stmt} {N ps : List Str} {k : Nat} {sp : Sp} (D : DefAt K mg x st ps) (S : FnScope N ps (defScope st)) (len : ∀ vs H Q E, sp vs H Q E → vs.length = ps.length)
    (hbody : ∀ (f : Addr) (cdv : Value) (A : Around) (outer : List Env) (s : Shared) (H : Hp) (vs : List V) (Q : VK) (E : XK), Room k (A.deeper (envOfC x (defScope st) s.heap.objs.size f cdv)) → sp vs H Q E →
      ∃ t, PSs (cxOf CX0 P w K mg base N x (defScope st) f cdv A outer s H E).nox (defBody st) t ∧ t { nx := fun _ H' => Q .non H', rt := Q } (start N vs) H) : Cal P w K mg base CX0 x (k + 1) ps sp := by
  obtain ⟨f, fd, F, m, b⟩ := D.ex
  exact ⟨f, fd, F.ok S len (hbody f), m, F.kp, b⟩
end
section
variable {X : Cx} {CX : CXT} {k j : Nat} {ps : List Str} {sp : Sp} {x : Str} {p pos : Pos} {e : Expr} {es : List Expr} {t : TA}
theorem pe_own (C : Cal X.prog X.w X.K X.mg X.base CX0 x k ps sp) (hr : Room j X.A) (hk : k ≤ j) (ha : PA X (e :: es) t) (hg : Gl X x := by rfl) (hdb : (x == ("__debug__" : Str)) = false := by decide)
    (he : starEach (e :: es) X.env = (false, eval e X.env) :: starEach es X.env := by rfl) (hpl : (backTo pos (starEach es X.env)).any (·.1) = false := by rfl) : PE X (.Call (.Name x p) (e :: es) [] pos) (tCall sp [] E0 t) := by
  obtain ⟨f, fd, F, m, kp, b⟩ := C.ex
  exact pe_call F (hr.mono hk) hg m kp b .nil pass0 ha hdb he hpl
theorem pe_own0 (C : Cal X.prog X.w X.K X.mg X.base CX0 x k ps sp) (hr : Room j X.A) (hk : k ≤ j) (hg : Gl X x := by rfl) (hdb : (x == ("__debug__" : Str)) = false := by decide) : PE X (.Call (.Name x p) [] [] pos) (tCall sp [] E0 tNil) := by
  obtain ⟨f, fd, F, m, kp, b⟩ := C.ex
  exact pe_call0 F (hr.mono hk) hg m kp b .nil pass0 hdb
end
/-- a word that the steps do not enter -/
structure Ok (p : Prop) : Prop where
  o : p
/-! ### heaps -/
def KeepB (r : Addr) (H H' : Hp) : Prop := ∀ b o, b ≠ r → H b = some o → H' b = some o
theorem KeepB.refl (r : Addr) (H : Hp) : KeepB r H H := fun _ _ _ h => h
theorem KeepB.trans {r : Addr} {H H1 H2 : Hp} (a : KeepB r H H1) (b : KeepB r H1 H2) : KeepB r H H2 := fun c o n h => b c o n (a c o n h)
theorem KeepB.put {r : Addr} {H : Hp} {o : HO} : KeepB r H (upd H r o) := fun b u n h => by
  rw [upd_ne n]
  exact h
theorem Same.keepB {r : Addr} {H H' : Hp} (s : Same H H') : KeepB r H H' := fun b o _ h => s b o h
theorem Same.new {H : Hp} {p : Addr} {o : HO} (h : H p = none) : Same H (upd H p o) := fun b u e => by
  rw [upd_ne (ne_of_none e h)]
  exact e
/-- tuples and what is frozen stay -/
structure TK (H H' : Hp) : Prop where
  tup : ∀ b xs, H b = some (.tup xs) → H' b = some (.tup xs)
  frz : ∀ b o u, H b = some (.frz o u) → H' b = some (.frz o u)
theorem TK.refl (H : Hp) : TK H H := ⟨fun _ _ h => h, fun _ _ _ h => h⟩
theorem TK.trans {H H1 H2 : Hp} (a : TK H H1) (b : TK H1 H2) : TK H H2 := ⟨fun c x h => b.tup c x (a.tup c x h), fun c o u h => b.frz c o u (a.frz c o u h)⟩
theorem Same.tk {H H' : Hp} (s : Same H H') : TK H H' := ⟨fun b xs h => s b _ h, fun b o u h => s b _ h⟩
theorem KeepB.tk {r : Addr} {H H' : Hp} {xs : List V} (s : KeepB r H H') (h : H r = some (.lst xs)) : TK H H' :=
  ⟨fun b ys e => s b _ (ne_of e h (by intro z; cases z)) e, fun b o u e => s b _ (ne_of e h (by intro z; cases z)) e⟩
theorem TK.seqT {K : PySem.W.Frag} {H H' : Hp} {a : Addr} {xs : List V} (t : TK H H') (h : SqT K H a xs) : SqT K H' a xs := by
  rcases h with (h | ⟨o, h⟩) | h
  · exact .inl (.inl (t.tup _ _ h))
  · exact .inl (.inr ⟨o, t.frz _ _ _ h⟩)
  · exact .inr h
theorem TK.new {H : Hp} {p : Addr} {o : HO} (h : H p = none) : TK H (upd H p o) := Same.tk (Same.new h)
theorem TK.lst {H : Hp} {p : Addr} {xs : List V} {o : HO} (h : H p = some (.lst xs)) : TK H (upd H p o) := (KeepB.put (r := p)).tk h
theorem KeepB.new {r : Addr} {H : Hp} {p : Addr} {o : HO} (h : H p = none) : KeepB r H (upd H p o) := Same.keepB (Same.new h)
/-- a change at an object that the first heap does not know -/
theorem KeepB.fresh {r : Addr} {H H' : Hp} {p : Addr} {o : HO} (k : KeepB r H H') (h : H p = none) : KeepB r H (upd H' p o) := fun b u n e => by
  rw [upd_ne (ne_of_none e h)]
  exact k b u n e
/-- what the later heap does not know the earlier did not -/
theorem KeepB.back {r : Addr} {H H' : Hp} {p : Addr} (k : KeepB r H H') (h : H' p = none) (n : p ≠ r) : H p = none := by
  cases e : H p with
  | none => rfl
  | some o =>
    rw [k p o n e] at h
    cases h
theorem Same.fresh {H H' : Hp} {p : Addr} {o : HO} (k : Same H H') (h : H p = none) : Same H (upd H' p o) := fun b u e => by
  rw [upd_ne (ne_of_none e h)]
  exact k b u e
/-! ### immutable data -/
mutual
inductive Tp (K : PySem.W.Frag) (H : Hp) : V → PyData → Prop
  | non : Tp K H .non .none
  | bl (b : Bool) : Tp K H (.bl b) (.bool b)
  | int (i : Int) : Tp K H (.int i) (.int i)
  | str (x : Str) : Tp K H (.str x) (.str x)
  | tup {a : Addr} {xs : List V} {ds : List PyData} : SqT K H a xs → TpAll K H xs ds → Tp K H (.ref a) (.tuple ds)
inductive TpAll (K : PySem.W.Frag) (H : Hp) : List V → List PyData → Prop
  | nil : TpAll K H [] []
  | cons {v : V} {vs : List V} {d : PyData} {ds : List PyData} : Tp K H v d → TpAll K H vs ds → TpAll K H (v :: vs) (d :: ds)
end
section
variable {K : PySem.W.Frag} {H H' : Hp}
mutual
theorem Tp.mono (t : TK H H') : ∀ (d : PyData) (v : V), Tp K H v d → Tp K H' v d
  | .none, _, h => by cases h; exact .non
  | .bool b, _, h => by cases h; exact .bl b
  | .int i, _, h => by cases h; exact .int i
  | .str x, _, h => by cases h; exact .str x
  | .list ds, _, h => by cases h
  | .dict _, _, h => by cases h
  | .tuple ds, _, h => by
    cases h with
    | tup hs ha => exact .tup (t.seqT hs) (TpAll.mono t ds _ ha)
theorem TpAll.mono (t : TK H H') : ∀ (ds : List PyData) (vs : List V), TpAll K H vs ds → TpAll K H' vs ds
  | [], _, h => by cases h; exact .nil
  | d :: ds, _, h => by
    cases h with
    | cons h1 h2 => exact .cons (Tp.mono t d _ h1) (TpAll.mono t ds _ h2)
end
mutual
theorem Tp.dp : ∀ (d : PyData) (v : V), Tp K H v d → Dp K H v d
  | .none, _, h => by cases h; exact .non
  | .bool b, _, h => by cases h; exact .bl b
  | .int i, _, h => by cases h; exact .int i
  | .str x, _, h => by cases h; exact .str x
  | .list ds, _, h => by cases h
  | .dict _, _, h => by cases h
  | .tuple ds, _, h => by
    cases h with
    | tup hs ha => exact .tup hs (TpAll.dp ds _ ha)
theorem TpAll.dp : ∀ (ds : List PyData) (vs : List V), TpAll K H vs ds → DpAll K H vs ds
  | [], _, h => by cases h; exact .nil
  | d :: ds, _, h => by
    cases h with
    | cons h1 h2 => exact .cons (Tp.dp d _ h1) (TpAll.dp ds _ h2)
end
mutual
theorem Dp.mono (s : Same H H') : ∀ (d : PyData) (v : V), Dp K H v d → Dp K H' v d
  | .none, _, h => by cases h; exact .non
  | .bool b, _, h => by cases h; exact .bl b
  | .int i, _, h => by cases h; exact .int i
  | .str x, _, h => by cases h; exact .str x
  | .dict _, _, h => by cases h
  | .list ds, _, h => by
    cases h with
    | lst hs ha => exact .lst (s.seq hs) (DpAll.mono s ds _ ha)
  | .tuple ds, _, h => by
    cases h with
    | tup hs ha => exact .tup ((Same.tk s).seqT hs) (DpAll.mono s ds _ ha)
theorem DpAll.mono (s : Same H H') : ∀ (ds : List PyData) (vs : List V), DpAll K H vs ds → DpAll K H' vs ds
  | [], _, h => by cases h; exact .nil
  | d :: ds, _, h => by
    cases h with
    | cons h1 h2 => exact .cons (Dp.mono s d _ h1) (DpAll.mono s ds _ h2)
end
theorem TpAll.length : ∀ {vs : List V} {ds : List PyData}, TpAll K H vs ds → vs.length = ds.length
  | [], [], _ => rfl
  | _ :: _, [], h => by cases h
  | [], _ :: _, h => by cases h
  | v :: vs, d :: ds, h => by
    cases h with
    | cons h1 h2 =>
      show vs.length + 1 = ds.length + 1
      rw [TpAll.length h2]
theorem TpAll.get : ∀ {vs : List V} {ds : List PyData} {i : Nat} {d : PyData}, TpAll K H vs ds → ds[i]? = some d → ∃ v, vs[i]? = some v ∧ Tp K H v d
  | [], [], _, _, _, e => by simp at e
  | _ :: _, [], _, _, h, _ => by cases h
  | [], _ :: _, _, _, h, _ => by cases h
  | v :: vs, d :: ds, 0, _, h, e => by
    cases h with
    | cons h1 h2 =>
      have e : d = _ := Option.some.inj e
      subst e
      exact ⟨v, rfl, h1⟩
  | v :: vs, d :: ds, i + 1, _, h, e => by
    cases h with
    | cons h1 h2 => exact TpAll.get (i := i) h2 e
theorem TpAll.append : ∀ {vs ws : List V} {ds es : List PyData}, TpAll K H vs ds → TpAll K H ws es → TpAll K H (vs ++ ws) (ds ++ es)
  | [], _, [], _, _, h => h
  | _ :: _, _, [], _, h, _ => by cases h
  | [], _, _ :: _, _, h, _ => by cases h
  | v :: vs, _, d :: ds, _, h, h' => by
    cases h with
    | cons h1 h2 => exact .cons h1 (TpAll.append h2 h')
end
/-! ### the draws -/
/-- the script: frozen, or an object of the written part -/
def Scr (K : PySem.W.Frag) (H : Hp) (s : Addr) (ns : List Int) : Prop := (∃ o, H s = some (.frz o (.lst (ns.map V.int)))) ∨ ∃ (o : Obj) (its : Array Value) (n : Nat), K.lookup s = some o ∧ o.cls = .type "list" ∧ o.dict = none ∧ o.data = .seq its n ∧ its.size ≤ sizeLine ∧ Vals (ns.map V.int) its.toList
theorem Scr.sq {K : PySem.W.Frag} {H : Hp} {s : Addr} {ns : List Int} (h : Scr K H s ns) : SqL K H s (ns.map V.int) := by
  rcases h with ⟨o, h⟩ | h
  · exact .inl (.inr ⟨o, h⟩)
  · exact .inr h
theorem Scr.mono {K : PySem.W.Frag} {H H' : Hp} {s : Addr} {ns : List Int} (t : TK H H') (h : Scr K H s ns) : Scr K H' s ns := by
  rcases h with ⟨o, h⟩ | h
  · exact .inl ⟨o, t.frz _ _ _ h⟩
  · exact .inr h
theorem Scr.of {K : PySem.W.Frag} {H : Hp} {s : Addr} {ns : List Int} (o : Only H) (h : SqL K H s (ns.map V.int)) : Scr K H s ns := by
  rcases h with (h | ⟨u, h⟩) | h
  · rcases o s with z | ⟨u, xs, z⟩ <;> (rw [h] at z; cases z)
  · exact .inl ⟨u, h⟩
  · exact .inr h
/-- row: the script, the place in it, the mixed number, the rest of a great cell -/
def Row (K : PySem.W.Frag) (H : Hp) (r : Addr) : Prop := ∃ (s : Addr) (ns : List Int) (i m c : Int), H r = some (.lst [.ref s, .int i, .int m, .int c]) ∧ Scr K H s ns ∧ 0 ≤ i ∧ 0 ≤ m ∧ m < 2147483647 ∧ 0 ≤ c
theorem Row.lst {K : PySem.W.Frag} {H : Hp} {r : Addr} (h : Row K H r) : ∃ xs, H r = some (.lst xs) := by
  obtain ⟨s, ns, i, m, c, e, _⟩ := h
  exact ⟨_, e⟩
theorem Row.keep {K : PySem.W.Frag} {H H' : Hp} {r : Addr} (h : Row K H r) (t : TK H H') (e : H' r = H r) : Row K H' r := by
  obtain ⟨s, ns, i, m, c, e0, hs, q⟩ := h
  exact ⟨s, ns, i, m, c, e.trans e0, hs.mono t, q⟩
theorem Row.same {K : PySem.W.Frag} {H H' : Hp} {r : Addr} (h : Row K H r) (s : Same H H') : Row K H' r := by
  obtain ⟨xs, e⟩ := h.lst
  exact h.keep (Same.tk s) ((s _ _ e).trans e.symm)
theorem Row.new {K : PySem.W.Frag} {H : Hp} {r p : Addr} {o : HO} (h : Row K H r) (n : H p = none) : Row K (upd H p o) r := h.same (Same.new n)
theorem Row.ne {K : PySem.W.Frag} {H : Hp} {r p : Addr} (h : Row K H r) (n : H p = none) : p ≠ r := by
  obtain ⟨xs, e⟩ := h.lst
  exact (ne_of_none e n).symm
/-- another list changes -/
theorem Row.put {K : PySem.W.Frag} {H : Hp} {r p : Addr} {xs : List V} {o : HO} (h : Row K H r) (e : H p = some (.lst xs)) (n : p ≠ r) : Row K (upd H p o) r := h.keep (TK.lst e) (upd_ne n.symm)
theorem KeepB.row {K : PySem.W.Frag} {H H' : Hp} {r : Addr} (k : KeepB r H H') (h : Row K H r) : TK H H' := by
  obtain ⟨xs, e⟩ := h.lst
  exact k.tk e
def spTaken (K : PySem.W.Frag) : Sp := fun vs H Q _ => ∃ (r : Addr) (many : Int), vs = [.ref r, .int many] ∧ Row K H r ∧ 0 < many ∧ many < 2 ^ 250 ∧ ∀ (v : Int) (H' : Hp), 0 ≤ v → v < many → Row K H' r → KeepB r H H' → Q (.int v) H'
section
variable {X : Cx}
theorem CallR.imp {f : Value} {r r' : List V → Hp → VK → Prop} (h : CallR X f r) (i : ∀ xs H Q, r' xs H Q → r xs H Q) : CallR X f r' := fun pins s σ H xs us Q I rv q => h pins s σ H xs us Q I rv (i _ _ _ q)
theorem call_int_i : CallR X (.type "int") (fun xs H Q => ∃ i, xs = [.int i] ∧ Q (.int i) H) := CallR.imp call_int1 fun _ _ _ h => .inl h
theorem call_len_l : CallR X (.builtin "len") (fun xs H Q => ∃ p ys, xs = [.ref p] ∧ SqL X.K H p ys ∧ Q (.int ys.length) H) := CallR.imp call_len_seq fun _ _ _ ⟨p, ys, e, h, q⟩ => ⟨p, ys, e, .inl h, q⟩
theorem call_len_t : CallR X (.builtin "len") (fun xs H Q => ∃ p ys, xs = [.ref p] ∧ SqT X.K H p ys ∧ Q (.int ys.length) H) := CallR.imp call_len_seq fun _ _ _ ⟨p, ys, e, h, q⟩ => ⟨p, ys, e, .inr h, q⟩
theorem call_tuple_l : CallR X (.type "tuple") (fun xs H Q => ∃ p ys, xs = [.ref p] ∧ SqL X.K H p ys ∧ ∀ l, H l = none → Q (.ref l) (upd H l (.tup ys))) := CallR.imp call_tuple_of fun _ _ _ ⟨p, ys, e, h, q⟩ => ⟨p, ys, e, .inl ⟨h, q⟩⟩
theorem call_tuple_t : CallR X (.type "tuple") (fun xs H Q => ∃ p ys, xs = [.ref p] ∧ SqT X.K H p ys ∧ Q (.ref p) H) := CallR.imp call_tuple_of fun _ _ _ ⟨p, ys, e, h, q⟩ => ⟨p, ys, e, .inr ⟨h, q⟩⟩
end
section
variable {X : Cx} {x : Str} {pos : Pos}
theorem pe_gint {i : Int} (hg : Gl X x) (hm : ∃ t, X.mg x = some (.int i t)) (hd : (x == ("__debug__" : Str)) = false := by decide) : PE X (.Name x pos) (tC (.int i)) := by
  obtain ⟨t, h⟩ := hm
  exact pe_glob hg h ⟨t, rfl⟩ hd
theorem pe_gstr {y : Str} (hg : Gl X x) (hm : ∃ t, X.mg x = some (.str y t)) (hd : (x == ("__debug__" : Str)) = false := by decide) : PE X (.Name x pos) (tC (.str y)) := by
  obtain ⟨t, h⟩ := hm
  exact pe_glob hg h ⟨t, rfl⟩ hd
theorem pe_ty (n : String) (hg : Gl X x) (hm : X.mg x = none) (hv : bootBuiltins x = some (.type n)) (hn : x ≠ "__name__" := by decide) (hd : (x == ("__debug__" : Str)) = false := by decide) : PE X (.Name x pos) (tC (.ty n)) := pe_bltn hg hm hv rfl hn hd
/-- isinstance against a built-in class -/
def rIsN (K : PySem.W.Frag) : List V → Hp → VK → Prop := fun xs H Q => ∃ (y : V) (n : String) (t : String) (b : Bool), xs = [y, .ty n] ∧ TyX K H y (.type t) ∧ kitB t n = some b ∧ Q (.bl b) H
theorem call_isN : CallR X (.builtin "isinstance") (rIsN X.K) := CallR.imp call_isi fun _ _ _ ⟨y, n, t, b, e, h, k, q⟩ => ⟨y, .ty n, .type t, .type n, b, e, .ty n, h, kit_ty k, q⟩
/-- against two of them -/
def kitB2 (t m n : String) : Option Bool := match kitB t m with
  | some true => some true
  | some false => kitB t n
  | none => none
def rIsT2 (K : PySem.W.Frag) : List V → Hp → VK → Prop := fun xs H Q => ∃ (y : V) (p : Addr) (m n : String) (t : String) (b : Bool), xs = [y, .ref p] ∧ H p = some (.tup [.ty m, .ty n]) ∧ TyX K H y (.type t) ∧ kitB2 t m n = some b ∧ Q (.bl b) H
theorem kit2 {K : PySem.W.Frag} {t m n : String} {b : Bool} (h : kitB2 t m n = some b) : PySem.W.kitAny K (.type t) [.type m, .type n] = some b := by
  unfold kitB2 at h
  split at h
  · rename_i e
    cases h
    exact kitAny_cons (kit_ty e) (fun z => by cases z) (fun _ => rfl)
  · rename_i e
    refine kitAny_cons (kit_ty e) (fun _ => ?_) (fun z => by cases z)
    exact kitAny_cons (b := b) (kit_ty h) (fun z => by rw [z]; exact kitAny_nil) (fun z => z)
  · cases h
theorem call_isT2 : CallR X (.builtin "isinstance") (rIsT2 X.K) := CallR.imp call_isiT fun _ _ _ ⟨y, p, m, n, t, b, e, hp, h, k, q⟩ => ⟨y, p, [.ty m, .ty n], .type t, [.type m, .type n], b, e, hp, .cons (.ty m) (.cons (.ty n) .nil), h, kit2 k, q⟩
/-- s.index(c), where it is found -/
def rIndexIn : L2.St → V → List V → Hp → VK → Prop := fun _ x xs H Q => ∃ (a b : Str) (k : Nat), x = .str a ∧ xs = [.str b] ∧ Txt.index0 a b = some k ∧ Q (.int (k : Nat)) H
theorem mt_indexIn (hc : X.calm = true) : MtS X "str.index" rIndexIn := fun pins s σ H x xs v us Q I rx rs ⟨a, b, k, e1, e2, e3, q⟩ =>
  mt_indexX hc takes0 pins s σ H x xs v us Q I rx rs ⟨a, b, e1, e2, fun k' h => by rw [e3] at h; cases h; exact q, fun h => by rw [e3] at h; cases h⟩
end
section
variable {K : PySem.W.Frag} {H : Hp}
theorem tyx_tup {a : Addr} {xs : List V} (h : SqT K H a xs) : TyX K H (.ref a) (.type "tuple") := by
  rcases h with (h | ⟨o, h⟩) | ⟨o, its, n, e, c, _⟩
  · exact .base (.tup h)
  · exact .fTuple h
  · exact .kTuple e c
theorem tyx_lst {a : Addr} {xs : List V} (h : SqL K H a xs) : TyX K H (.ref a) (.type "list") := by
  rcases h with (h | ⟨o, h⟩) | ⟨o, its, n, e, c, _⟩
  · exact .base (.lst h)
  · exact .base (.frz h)
  · exact .kList e c
theorem Tp.tupI {v : V} {ds : List PyData} (h : Tp K H v (.tuple ds)) : ∃ (a : Addr) (xs : List V), v = .ref a ∧ SqT K H a xs ∧ TpAll K H xs ds := by
  cases h with
  | tup hs ha => exact ⟨_, _, rfl, hs, ha⟩
theorem Tp.intI {v : V} {i : Int} (h : Tp K H v (.int i)) : v = .int i := by cases h; rfl
theorem Tp.nonI {v : V} (h : Tp K H v .none) : v = .non := by cases h; rfl
theorem Tp.strI {v : V} {x : Str} (h : Tp K H v (.str x)) : v = .str x := by cases h; rfl
theorem Tp.blI {v : V} {b : Bool} (h : Tp K H v (.bool b)) : v = .bl b := by cases h; rfl
theorem TpAll.consI {vs : List V} {d : PyData} {ds : List PyData} (h : TpAll K H vs (d :: ds)) : ∃ v ws, vs = v :: ws ∧ Tp K H v d ∧ TpAll K H ws ds := by
  cases h with
  | cons h1 h2 => exact ⟨_, _, rfl, h1, h2⟩
theorem TpAll.nilI {vs : List V} (h : TpAll K H vs []) : vs = [] := by cases h; rfl
/-- three numbers -/
theorem Tp.int3 {v : V} {i j k : Int} (h : Tp K H v (.tuple [.int i, .int j, .int k])) : ∃ a, v = .ref a ∧ SqT K H a [.int i, .int j, .int k] := by
  obtain ⟨a, xs, rfl, hs, h⟩ := h.tupI
  obtain ⟨x, _, rfl, h1, h⟩ := h.consI
  obtain ⟨y, _, rfl, h2, h⟩ := h.consI
  obtain ⟨z, _, rfl, h3, h⟩ := h.consI
  rw [h1.intI, h2.intI, h3.intI, h.nilI] at hs
  exact ⟨a, rfl, hs⟩
end
theorem at0 {α : Type} {v : α} {r : List α} : atI (v :: r) (0 : Int) = some v := atI_nat (j := 0) rfl
theorem at1 {α : Type} {u v : α} {r : List α} : atI (u :: v :: r) (1 : Int) = some v := atI_nat (j := 1) rfl
theorem at2 {α : Type} {t u v : α} {r : List α} : atI (t :: u :: v :: r) (2 : Int) = some v := atI_nat (j := 2) rfl
theorem at3 {α : Type} {s t u v : α} {r : List α} : atI (s :: t :: u :: v :: r) (3 : Int) = some v := atI_nat (j := 3) rfl
theorem small_le {n : Nat} (h : n ≤ 1000) : n ≤ sizeLine := Nat.le_of_lt (small1000 h)
/-! ### answers read -/
theorem ne_tr {a b : Int} (h : (!decide (V.int a = V.int b)) = true) : a ≠ b := fun e => by
  rw [e, decide_eq_true rfl] at h
  cases h
theorem ne_fl {a b : Int} (h : ¬ (!decide (V.int a = V.int b)) = true) : a = b := by
  by_cases e : a = b
  · exact e
  · exact absurd (by rw [decide_eq_false (fun z => e (V.int.inj z))]; rfl) h
theorem eq_tr {a b : Int} (h : decide (V.int a = V.int b) = true) : a = b := V.int.inj (of_decide_eq_true h)
theorem eq_fl {a b : Int} (h : ¬ decide (V.int a = V.int b) = true) : a ≠ b := fun e => h (decide_eq_true (by rw [e]))
theorem d_fl {p : Prop} [Decidable p] (h : ¬ decide p = true) : ¬ p := fun q => h (decide_eq_true q)
theorem nd_tr {p : Prop} [Decidable p] (h : (!decide p) = true) : ¬ p := fun q => by
  rw [decide_eq_true q] at h
  cases h
theorem nd_fl {p : Prop} [Decidable p] (h : ¬ (!decide p) = true) : p := by
  by_cases e : p
  · exact e
  · exact absurd (by rw [decide_eq_false e]; rfl) h
theorem nb_tr {b : Bool} (h : (!b) = true) : b = false := by cases b <;> simp_all
theorem nb_fl {b : Bool} (h : ¬ (!b) = true) : b = true := by cases b <;> simp_all
theorem take_more {α : Type} {l : List α} {i : Nat} {x : α} (h : l[i]? = some x) : l.take (i + 1) = l.take i ++ [x] := by
  rw [List.take_add_one, h]
  rfl
/-! ### the rules that speak of the written part, with its letter -/
section
variable {X : Cx} {K : PySem.W.Frag}
theorem k_len_l (hK : X.K = K := by rfl) : CallR X (.builtin "len") (fun xs H Q => ∃ p ys, xs = [.ref p] ∧ SqL K H p ys ∧ Q (.int ys.length) H) := hK ▸ call_len_l
theorem k_len_t (hK : X.K = K := by rfl) : CallR X (.builtin "len") (fun xs H Q => ∃ p ys, xs = [.ref p] ∧ SqT K H p ys ∧ Q (.int ys.length) H) := hK ▸ call_len_t
theorem k_tuple_l (hK : X.K = K := by rfl) : CallR X (.type "tuple") (fun xs H Q => ∃ p ys, xs = [.ref p] ∧ SqL K H p ys ∧ ∀ l, H l = none → Q (.ref l) (upd H l (.tup ys))) := hK ▸ call_tuple_l
theorem k_tuple_t (hK : X.K = K := by rfl) : CallR X (.type "tuple") (fun xs H Q => ∃ p ys, xs = [.ref p] ∧ SqT K H p ys ∧ Q (.ref p) H) := hK ▸ call_tuple_t
theorem k_isN (hK : X.K = K := by rfl) : CallR X (.builtin "isinstance") (rIsN K) := hK ▸ call_isN
theorem k_isT2 (hK : X.K = K := by rfl) : CallR X (.builtin "isinstance") (rIsT2 K) := hK ▸ call_isT2
theorem k_all (hc : X.calm = true) (hK : X.K = K := by rfl) : CallR X (.builtin "all") (rAll K) := hK ▸ cr_all hc
theorem k_any (hc : X.calm = true) (hK : X.K = K := by rfl) : CallR X (.builtin "any") (rAny K) := hK ▸ cr_any hc
theorem k_sum (hc : X.calm = true) (hK : X.K = K := by rfl) : CallR X (.builtin "sum") (rSum K) := hK ▸ cr_sum hc
theorem k_max (hc : X.calm = true) (hK : X.K = K := by rfl) : CallR X (.builtin "max") (rMax K) := hK ▸ cr_max hc
theorem k_min (hc : X.calm = true) (hK : X.K = K := by rfl) : CallR X (.builtin "min") (rMin K) := hK ▸ cr_min hc
theorem k_ix_list (hK : X.K = K := by rfl) : IxR X (rIxL K) := hK ▸ ix_list
theorem k_ix_tup (hK : X.K = K := by rfl) : IxR X (rIxT K) := hK ▸ ix_tup
theorem k_len_seq (hK : X.K = K := by rfl) : CallR X (.builtin "len") (fun xs H Q => ∃ p ys, xs = [.ref p] ∧ (SqL K H p ys ∨ SqT K H p ys) ∧ Q (.int ys.length) H) := hK ▸ call_len_seq
theorem IxR.imp {r r' : R2} (h : IxR X r) (i : ∀ x y H Q, r' x y H Q → r x y H Q) : IxR X r' := fun a b pins s σ H x y v u Q I rx ry q e => h a b pins s σ H x y v u Q I rx ry (i _ _ _ _ q) e
/-- an item of a list or of a tuple -/
def rIxA (K : PySem.W.Frag) : R2 := fun x y H Q => ∃ p xs i v, x = .ref p ∧ y = .int i ∧ (SqL K H p xs ∨ SqT K H p xs) ∧ atI xs i = some v ∧ Q v H
theorem k_ix_seq (hK : X.K = K := by rfl) : IxR X (rIxA K) := hK ▸ IxR.imp ix_seq fun x y H Q ⟨p, xs, i, v, e1, e2, h, a, q⟩ => by
  rcases h with h | h
  · exact .inl ⟨p, xs, i, v, e1, e2, h, a, q⟩
  · exact .inr (.inl ⟨p, xs, i, v, e1, e2, h, a, q⟩)
theorem k_sl_list (hK : X.K = K := by rfl) : SlR X (rSlL K) := hK ▸ sl_list
theorem k_sl_tup (hK : X.K = K := by rfl) : SlR X (rSlT K) := hK ▸ sl_tup
theorem k_catA (hK : X.K = K := by rfl) : OpR X (binaryOp .Add) (rCatA K) := hK ▸ op_catA
theorem k_eqD (hu : X.A.units + 64 < cLine) (hK : X.K = K := by rfl) : OpR X (compareOp .Eq) (rEqD K) := hK ▸ op_eqD hu
theorem k_neD (hu : X.A.units + 64 < cLine) (hK : X.K = K := by rfl) : OpR X (compareOp .NotEq) (rNeD K) := hK ▸ op_neD hu
theorem k_pi_list {tg l : Expr} {tl : TE} (hl : PE X l tl) (hK : X.K = K := by rfl) : PI X tg l (iList K tl) := hK ▸ pi_list hl
theorem k_pi_tup {tg l : Expr} {tl : TE} (hl : PE X l tl) (hK : X.K = K := by rfl) : PI X tg l (iTup K tl) := hK ▸ pi_tup hl
theorem k_mt_join (hK : X.K = K := by rfl) : MtR X "str.join" (fun x xs H Q => ∃ a p, ∃ ys : List Str, x = .str a ∧ xs = [.ref p] ∧ (SqL K H p (ys.map V.str) ∨ SqT K H p (ys.map V.str)) ∧ (ys.map (·.length)).sum + ys.length * a.length ≤ 16777216 ∧ Q (.str (Txt.join a ys)) H) := hK ▸ mt_join
end
/-! ### own errors -/
/-- what the written part says of an error's class -/
structure ExcCls (K : PySem.W.Frag) (mg : Str → Option Value) (x : Str) (C : Addr) : Prop where
  gC : mg x = some (.ref C)
  oex : OexC K C
  xf : XfC K C
  ha : PySem.W.findIn K (.ref C) "__class__" = some (some (.builtin "object.__class__"))
  hn : PySem.W.specialIn K (.builtin "object.__class__") "__get__" = some (some (.builtin "getset_descriptor.__get__"))
  ht : PySem.W.takesIn K (.builtin "object.__class__") = some true
  hm : PySem.W.mroIn K C (.type "object") = some true
/-- the error's own dict -/
def DOk (d : Option Addr) (H : Hp) : Prop := d = none ∨ ∃ dd fs, d = some dd ∧ H dd = some (.xd fs)
section
variable {X : Cx} {a : Addr} {oe : Obj} {cls : Value} {d : Option Addr} {pn : List (Addr × Obj)}
def rIsEd (K : PySem.W.Frag) (mg : Str → Option Value) (a : Addr) (cls : Value) (d : Option Addr) : List V → Hp → VK → Prop := fun xs H Q => ∃ (C D : Addr) (x : Str) (b : Bool), xs = [.ref a, .ref D] ∧ cls = .ref C ∧ ExcCls K mg x C ∧ DOk d H ∧ PySem.W.kitOne K (.ref C) (.ref D) = some b ∧ Q (.bl b) H
theorem oex_cls {K : PySem.W.Frag} {C : Addr} (T : OexC K C) : (PySem.W.clsIn K C).isSome = true := by
  obtain ⟨nm, q, N, bs, bm, sn, sub, ab, col, dd, k0, k1, k2, k3, k5, hC, hbm⟩ := T.cls
  unfold PySem.W.clsIn
  rw [hC] <;> rfl
theorem inst_exc {pins : List (Addr × Obj)} {σ : L2.St} {H : Hp} {s : Shared} {C : Addr} (I : Inv (X.suite a ((a, oe) :: pn)) pins σ H s) (hz : Zc (.ref C) d oe) (hf : ∃ vs, oe.data = .fields vs) (hd : DOk d H) : ∃ od, PySem.W.InstAt s.heap a oe C od := by
  obtain ⟨hget, _⟩ := I.pin (a, oe) (List.mem_append_left _ List.mem_cons_self)
  obtain ⟨vs, hv⟩ := hf
  rcases hd with rfl | ⟨dd, fs, rfl, ea⟩
  · exact ⟨none, hget, hz.1, by unfold PySem.W.notCls; rw [hv] <;> rfl, by rw [hz.2]; trivial⟩
  · have hx : ObjOk X.prog X.w H s.heap dd (.xd fs) := I.hok dd _ ea
    obtain ⟨mA, hns, hr⟩ := hx
    obtain ⟨od, ho, hl⟩ := lookIn_ns hns
    exact ⟨some od, hget, hz.1, by unfold PySem.W.notCls; rw [hv] <;> rfl, by rw [hz.2]; exact ho⟩
theorem call_isEd (hz : Zc cls d oe) (hf : ∃ vs, oe.data = .fields vs) : CallR (X.suite a ((a, oe) :: pn)) (.builtin "isinstance") (rIsEd X.K X.mg a cls d) := by
  intro pins s σ H xs us Q I r h
  obtain ⟨C, D, x, b, rfl, rfl, T, hd, e, q⟩ := h
  obtain ⟨od, J⟩ := inst_exc I hz hf hd
  cases r with
  | cons rx rr =>
    cases rr with
    | cons rt rr =>
      cases rr
      cases rx
      cases rt
      exact PySem.W.kia_one (PySem.W.kitx_exc (oex_cls T.oex) T.xf.ga T.xf.gg T.xf.exC T.ha T.hn T.ht T.hm) I.kIn J e (fun z => nomatch z) fun tk => ⟨.bl b, H, I.tok tk, rfl, q⟩
end
/-! ### an error with one field, made by its __init__ -/
def spInit1 (K : PySem.W.Frag) (C : Addr) (f : Str) : Sp := fun vs H Q _ => ∃ (a : Addr) (y : V), vs = [.ref a, y] ∧ H a = some (exo a C none) ∧ ∀ dx, H dx = none → dx ≠ a → Q .non (upd (upd H dx (exd dx [(f, y)])) a (exo a C (some dx)))
/-- the __init__ of the class at C stands -/
structure ExcInit1 (P : Program) (w : World) (K : PySem.W.Frag) (mg : Str → Option Value) (base : Heap) (C : Addr) (f : Str) : Prop where
  no : PySem.W.findIn K (.ref C) f = some none
  init : ∃ (fI : Addr) (fd : FuncData) (ps : List Str), PySem.W.findIn K (.ref C) "__init__" = some (some (.ref fI)) ∧ PySem.W.typeIn K (.ref fI) = some (.type "function") ∧ FnOk P w K mg base CX0 1 fI fd ps (spInit1 K C f) ∧ Binds K fd ps []
theorem raise1 {K : PySem.W.Frag} {C : Addr} {f : Str} {H1 : Hp} {y : V} {Q : XK} (q : ∀ d H', H1 d = none → Same H1 H' → H' d = some (.xd [(f, y)]) → Q (.ref C) (some d) H') :
    ∀ a, H1 a = none → spInit1 K C f (.ref a :: ([y] ++ [])) (upd H1 a (exo a C none)) (fun v H2 => v = .non ∧ ∃ (d : Addr) (fs : List (Str × V)), H2 a = some (exo a C (some d)) ∧ H2 d = some (exd d fs) ∧ H1 d = none ∧ Q (.ref C) (some d) (upd (del H2 a) d (.xd fs))) (fun _ _ _ => False) := fun a na => by
  refine ⟨a, y, rfl, upd_same, fun dx nx ne => ⟨rfl, dx, [(f, y)], upd_same, ?_, ?_, ?_⟩⟩
  · rw [upd_ne ne, upd_same]
  · rw [upd_ne ne] at nx
    exact nx
  · have nx1 : H1 dx = none := by
      rw [upd_ne ne] at nx
      exact nx
    refine q dx _ nx1 (fun b o hb => ?_) upd_same
    have h1 : b ≠ dx := ne_of_none hb nx1
    have h2 : b ≠ a := ne_of_none hb na
    rw [upd_ne h1, del_ne h2, upd_ne h2, upd_ne h1, upd_ne h2]
    exact hb
section
variable {X : Cx} {C : Addr} {f x : Str} {W : WX} {ta : TA} {e : Expr} {p pos pos2 : Pos} {k : Nat}
theorem ps_raise1 (hc : X.calm = true) (tk : Takes X W) (T : ExcCls X.K X.mg x C) (F : ExcInit1 X.prog X.w X.K X.mg X.base C f) (hr : Room k X.A) (hk : 2 ≤ k) (ha : PA X [e] ta) (hg : Gl X x := by rfl) (hdb : (x == ("__debug__" : Str)) = false := by decide)
    (he : starEach (e :: []) X.env = (false, eval e X.env) :: starEach [] X.env := by rfl) (hpl : (backTo pos (starEach [] X.env)).any (·.1) = false := by rfl) :
    PS X (.Raise (some (.Call (.Name x p) [e] [] pos)) none pos2) (fun _ σ H => tMkO C (spInit1 X.K C f) [] ta σ H fun cls d H' => W cls d σ H') := by
  obtain ⟨fI, fd, ps, iC, tI, F1, hb⟩ := F.init
  exact ps_raise hc tk (pmk_oex (dvs := []) T.oex iC tI F1 (hr.mono hk) hb .nil pass0 hg T.gC ha hdb he hpl)
end
/-! ### defs that may raise -/
section
variable {P : Program} {w : World} {K : PySem.W.Frag} {mg : Str → Option Value} {base : Heap}
theorem DefAt.calX {x : Str} {st : Stmt} {N ps : List Str} {k : Nat} {sp : Sp} (D : DefAt K mg x st ps) (S : FnScope N ps (defScope st)) (len : ∀ vs H Q E, sp vs H Q E → vs.length = ps.length)
    (hbody : ∀ (f : Addr) (cdv : Value) (A : Around) (outer : List Env) (s : Shared) (H : Hp) (vs : List V) (Q : VK) (E : XK), Room k (A.deeper (envOfC x (defScope st) s.heap.objs.size f cdv)) → sp vs H Q E →
      ∃ t, PSs (cxOf (L2.CX P w) P w K mg base N x (defScope st) f cdv A outer s H E) (defBody st) t ∧ t { nx := fun _ H' => Q .non H', rt := Q } (start N vs) H) : Cal P w K mg base (L2.CX P w) x (k + 1) ps sp := by
  obtain ⟨f, fd, F, m, b⟩ := D.ex
  exact ⟨f, fd, F.okX S len (hbody f), m, F.kp, b⟩
end
section
variable {X : Cx} {k j : Nat} {ps : List Str} {sp : Sp} {x : Str} {p pos : Pos} {e : Expr} {es : List Expr} {t : TA} {W : WX}
/-- a call of a def that may raise: what it lets out is wished for here -/
theorem pe_ownS (C : Cal X.prog X.w X.K X.mg X.base (L2.CX X.prog X.w) x k ps sp) (tk : Takes X W) (hr : Room j X.A) (hk : k ≤ j) (ha : PA X (e :: es) t) (hg : Gl X x := by rfl) (hdb : (x == ("__debug__" : Str)) = false := by decide)
    (he : starEach (e :: es) X.env = (false, eval e X.env) :: starEach es X.env := by rfl) (hpl : (backTo pos (starEach es X.env)).any (·.1) = false := by rfl) : PE X (.Call (.Name x p) (e :: es) [] pos) (tCallS sp (WE W) t) := by
  obtain ⟨f, fd, F, m, kp, b⟩ := C.ex
  exact pe_callS F (hr.mono hk) hg m kp b (fun σ => passAt tk σ) ha hdb he hpl
end
section
variable {X : Cx} {k j : Nat} {ps : List Str} {sp : Sp} {x : Str} {p pos : Pos} {e : Expr} {es : List Expr} {t : TA}
/-- a call of such a def where it raises nothing -/
theorem pe_ownL (C : Cal X.prog X.w X.K X.mg X.base (L2.CX X.prog X.w) x k ps sp) (hr : Room j X.A) (hk : k ≤ j) (ha : PA X (e :: es) t) (hg : Gl X x := by rfl) (hdb : (x == ("__debug__" : Str)) = false := by decide)
    (he : starEach (e :: es) X.env = (false, eval e X.env) :: starEach es X.env := by rfl) (hpl : (backTo pos (starEach es X.env)).any (·.1) = false := by rfl) : PE X (.Call (.Name x p) (e :: es) [] pos) (tCall sp [] E0 t) := by
  obtain ⟨f, fd, F, m, kp, b⟩ := C.ex
  exact pe_call F (hr.mono hk) hg m kp b .nil passL ha hdb he hpl
end
/-! ### one step at a time -/
theorem asg_lst {t : TA} {g : TG} {D : Ends} {σ : L2.St} {H : Hp} (h : t σ H (fun xs H1 => xs.length ≤ sizeLine ∧ ∀ p, H1 p = none → g (.ref p) σ (upd H1 p (.lst xs)) D.nx)) : tAsg (tLst t) g D σ H := h
theorem asg_op {r : R2} {i : Nat} {v : V} {t : TA} {g : TG} {D : Ends} {σ : L2.St} {H : Hp} (e : σ[i]? = some (some v)) (h : t σ H (fun xs H1 => xs.length ≤ sizeLine ∧ ∀ p, H1 p = none → r v (.ref p) (upd H1 p (.lst xs)) fun z H3 => g z σ H3 D.nx)) : tAsg (tOp r (tVar i) (tLst t)) g D σ H := ⟨v, e, h⟩
theorem seq_of {t u : TS} {D : Ends} {σ : L2.St} {H : Hp} (h : t { D with nx := u D } σ H) : tSeq t u D σ H := h
theorem next_of {D : Ends} {σ : L2.St} {H : Hp} (h : D.nx σ H) : tNext D σ H := h
theorem if_not {A B : Prop} (h : B) : if (!true) = true then A else B := h
/-! ### lists of pairs, a text and a number -/
/-- an expression that gives the text s, laying things at most -/
def Evs (ta : TE) (s : Str) : Prop := ∀ σ H (Q : VK), (∀ H', Same H H' → Q (.str s) H') → ta σ H Q
theorem evs_c {s : Str} : Evs (tC (.str s)) s := fun σ H Q q => q H (Same.refl H)
def tPairs : List (TE × V) → TA
  | [] => tNil
  | p :: r => tCons (tTup (tCons p.1 (tCons (tC p.2) tNil))) (tPairs r)
abbrev PairsAt (H : Hp) : List Addr → List (Str × V) → Prop := Paired fun a q => H a = some (.tup [.str q.1, q.2])
theorem PairsAt.same {H H' : Hp} (s : Same H H') : ∀ {as : List Addr} {qs : List (Str × V)}, PairsAt H as qs → PairsAt H' as qs
  | _, _, .nil => .nil
  | _, _, .cons h r => .cons (s _ _ h) (PairsAt.same s r)
theorem PairsAt.app {H : Hp} : ∀ {as bs : List Addr} {qs rs : List (Str × V)}, PairsAt H as qs → PairsAt H bs rs → PairsAt H (as ++ bs) (qs ++ rs)
  | _, _, _, _, .nil, h => h
  | _, _, _, _, .cons h r, h' => .cons h (PairsAt.app r h')
theorem PairsAt.get {H : Hp} : ∀ {as : List Addr} {qs : List (Str × V)} {i : Nat} {a : Addr}, PairsAt H as qs → as[i]? = some a → ∃ q, qs[i]? = some q ∧ H a = some (.tup [.str q.1, q.2])
  | _, _, _, _, .nil, e => by simp at e
  | _, _, 0, _, .cons h r, e => by
    have e := Option.some.inj e
    subst e
    exact ⟨_, rfl, h⟩
  | _, _, i + 1, _, .cons h r, e => PairsAt.get (i := i) r e
theorem pairs_run : ∀ {ps : List (TE × V)} {qs : List (Str × V)}, Paired (fun p q => Evs p.1 q.1 ∧ p.2 = q.2) ps qs → ∀ (σ : L2.St) (H : Hp) (Q : List V → Hp → Prop), (∀ as H', Same H H' → PairsAt H' as qs → Q (as.map V.ref) H') → tPairs ps σ H Q
  | _, _, .nil, σ, H, Q, q => q [] H (Same.refl H) .nil
  | _, _, @Paired.cons _ _ _ p w ps qs h r, σ, H, Q, q => by
    obtain ⟨h1, h2⟩ := h
    refine h1 σ H _ fun H1 s1 => ?_
    refine ⟨Nat.le_of_ble_eq_true rfl, fun a na => ?_⟩
    refine pairs_run r σ _ _ fun as H2 s2 hp => ?_
    refine q (a :: as) H2 (Same.trans (Same.trans s1 (Same.new na)) s2) (.cons ?_ hp)
    rw [← h2]
    exact s2 _ _ upd_same
theorem rows_first {ps : List (TE × V)} {qs : List (Str × V)} {i : Nat} {D : Ends} {σ : L2.St} {H : Hp} (hp : Paired (fun p q => Evs p.1 q.1 ∧ p.2 = q.2) ps qs) (hl : qs.length ≤ 1000)
    (k : ∀ (as : List Addr) (R : Addr) (H' : Hp), Same H H' → PairsAt H' as qs → H' R = some (.lst (as.map V.ref)) → as.length = qs.length → D.nx (σ.set i (some (.ref R))) H') : tAsg (tLst (tPairs ps)) (gName i) D σ H := by
  refine pairs_run hp σ H _ fun as H1 s1 pa => ?_
  have la : as.length = qs.length := Paired.length pa
  refine ⟨small_le (by rw [List.length_map]; omega), fun R nR => ?_⟩
  exact k as R _ (Same.trans s1 (Same.new nR)) (PairsAt.same (Same.new nR) pa) upd_same la
theorem rows_step {ps : List (TE × V)} {qs qs' : List (Str × V)} {i : Nat} {D : Ends} {σ : L2.St} {H : Hp} {R : Addr} {as : List Addr} (hp : Paired (fun p q => Evs p.1 q.1 ∧ p.2 = q.2) ps qs') (hR : H R = some (.lst (as.map V.ref))) (pa : PairsAt H as qs)
    (hs : σ[i]? = some (some (.ref R))) (hl : as.length + qs'.length ≤ 1000)
    (k : ∀ (as' : List Addr) (R' : Addr) (H' : Hp), Same H H' → PairsAt H' as' (qs ++ qs') → H' R' = some (.lst (as'.map V.ref)) → as'.length = as.length + qs'.length → D.nx (σ.set i (some (.ref R'))) H') : tAsg (tOp rCat (tVar i) (tLst (tPairs ps))) (gName i) D σ H := by
  refine ⟨_, hs, pairs_run hp σ H _ fun bs H1 s1 pb => ?_⟩
  have lb : bs.length = qs'.length := Paired.length pb
  refine ⟨small_le (by rw [List.length_map]; omega), fun B nB => ?_⟩
  refine ⟨R, B, as.map V.ref, bs.map V.ref, rfl, rfl, Same.new nB _ _ (s1 _ _ hR), upd_same, small_le (by rw [List.length_map, List.length_map]; omega), fun R' nR' => ?_⟩
  have s2 : Same H1 (upd (upd H1 B (.lst (bs.map V.ref))) R' (.lst (as.map V.ref ++ bs.map V.ref))) := Same.trans (Same.new nB) (Same.new nR')
  refine k (as ++ bs) R' _ (Same.trans s1 s2) (PairsAt.app (PairsAt.same (Same.trans s1 s2) pa) (PairsAt.same s2 pb)) (by rw [upd_same, List.map_append]) (by rw [List.length_append, lb])
/-! ### __init__: self.f = f -/
/-- the class's __init__, as it stands -/
structure MetAt (K : PySem.W.Frag) (C : Addr) (m qual : Str) (st : Stmt) (ps : List Str) : Prop where
  ex : ∃ (f : Addr) (fd : FuncData), PySem.W.findIn K (.ref C) m = some (some (.ref f)) ∧ PySem.W.typeIn K (.ref f) = some (.type "function") ∧ Fun K m qual st f fd ∧ Binds K fd ps []
/-! ### enumerate over a tuple -/
theorem enNewB {v : Value} {ob : Obj} {Hh : Heap → Prop} (B : Begins v ob Hh) :
    Meets (Builtin.«enumerate.__new__» ⟨[.type "enumerate", v], []⟩) (fun _ R z => Hh z.heap ∧
      R (.ok (.ret (.ref (z.heap.push ob).objs.size))) { z with heap := (z.heap.push ob).push { cls := .type "enumerate", data := .fields #[.none, .bool false, .ref z.heap.objs.size, rawInt 0, .none, .none] } }) :=
  .of_wp fun prog w A R z hz => by
    obtain ⟨hp, gs, dr, tk, os⟩ := z
    obtain ⟨hB, fin⟩ := hz
    have hsub := sub_enumerate
    have begin1 : ∀ {A' : Around} {E : Value → Shared → Prop} {Q : Value → Shared → Prop}, Q (.ref hp.objs.size) ⟨hp.push ob, gs, dr, tk, os⟩ → wpAny (model prog w) A' (pyIter v) Q E ⟨hp, gs, dr, tk, os⟩ :=
      fun q => B.iter prog w _ _ ⟨hp, gs, dr, tk, os⟩ _ hB q
    wp_walk using begin1
    refine wpAny_stack_any fun _ => wpAny_pure ?_
    split
    · rename_i c _ _ _ _ _
      cases (c == Value.type "enumerate") <;> (wp_walk using begin1; exact ⟨_, rfl, fin⟩)
    · wp_walk using begin1
      exact ⟨_, rfl, fin⟩
theorem enCallB {prog : Program} {w : World} {A : Around} {E : Value → Shared → Prop} {z : Shared} {v : Value} {ob : Obj} {Hh : Heap → Prop} {Q : Value → Shared → Prop} (B : Begins v ob Hh) (hB : Hh z.heap)
    (fin : ∀ h', IsEnum h' (z.heap.objs.size + 1) z.heap.objs.size 0 .none → h'.get? z.heap.objs.size = some ob →
      (∀ b o, z.heap.get? b = some o → h'.get? b = some o) → Q (.ref (z.heap.objs.size + 1)) { z with heap := h' }) :
    wpAny (model prog w) A (call (.type "enumerate") [v]) Q E z := by
  refine callType_new F.called_enumerate (by decide) (F.typeCall_enumerate_1 _) (F.newCall_enumerate_1 _) (fun obj => F.args_object_init_2 obj _) F.entry_enumerate_new (enNewB B) ⟨hB, ?_⟩
  have sz : (z.heap.push ob).objs.size = z.heap.objs.size + 1 := Heap.size_push ..
  have top := Heap.get?_push_size (z.heap.push ob) (o := { cls := .type "enumerate", data := .fields #[.none, .bool false, .ref z.heap.objs.size, rawInt 0, .none, .none] }) rfl
  rw [sz] at top
  show _ ∧ _
  rw [sz]
  exact ⟨⟨_, top, rfl⟩, fin _ top (Heap.get?_push_of_some _ (Heap.get?_push_size _ B.free)) fun b o x => Heap.get?_push_of_some _ (Heap.get?_push_of_some _ x)⟩

/-- the tuple at a, each item with its count in a pair of its own -/
def ItEn (K : PySem.W.Frag) (a : Addr) : It where
  go i H := ∃ (xs : List V) (x : V), SqT K H a xs ∧ xs[i]? = some x
  yld i H v H' := ∃ T x, v = .ref T ∧ H T = none ∧ H' = upd H T (.tup [.int (i : Nat), x]) ∧ ∀ xs, SqT K H a xs → xs[i]? = some x
  stop i H := ∃ xs : List V, SqT K H a xs ∧ xs.length ≤ i
theorem turnEn {P : Program} {w : World} {K : PySem.W.Frag} {elts : List Expr} {kk : Nat} {tpos : Pos} (a e it : Addr) :
    Turn P w K (.Tuple elts kk tpos) (ItEn K a) [e, it] e (fun i h => (∃ old, IsEnum h e it ((i : Nat) : Int) old) ∧ h.IsTupleIter it a i ∧ e ≠ it) where
  mem := List.mem_cons_self
  obj i h st b hb := by
    obtain ⟨⟨old, he⟩, ⟨o, ho, hc, hd⟩, _⟩ := st
    rcases List.mem_cons.mp hb with rfl | hb
    · exact ⟨_, he, fun v q => nomatch q⟩
    · cases List.mem_singleton.mp hb
      exact ⟨o, ho, fun v q => by rw [hd] at q; cases q⟩
  keep i h h' st k := by
    obtain ⟨⟨old, he⟩, hi, hne⟩ := st
    exact ⟨⟨old, k e List.mem_cons_self _ he⟩, hi.at fun o q => k it (List.mem_cons_of_mem _ List.mem_cons_self) o q, hne⟩
  item := by
    intro X hP hw hK hc i pins s σ H E I hf st hg
    subst hP hw hK
    obtain ⟨⟨old, he⟩, hit, hne⟩ := st
    obtain ⟨xs, x, hq, hx⟩ := hg
    obtain ⟨its, rv, p, hz⟩ := I.tuple hq
    obtain ⟨u, hu, ru⟩ := rv.get hx
    have ht : s.heap.IsTuple a its.toArray := p
    have tof : it ∈ [e, it] := List.mem_cons_of_mem _ List.mem_cons_self
    have le : e < s.heap.objs.size := Heap.lt_size he
    have li : it < s.heap.objs.size := by obtain ⟨_, q, _⟩ := hit; exact Heap.lt_size q
    have ane : a ≠ it := fun z => by
      obtain ⟨o1, g1, c1, _⟩ := hit
      obtain ⟨o2, g2, c2, _⟩ := ht
      rw [z, g1] at g2
      cases g2
      rw [c1] at c2
      exact absurd c2 (by decide)
    have ane2 : a ≠ e := fun z => by
      obtain ⟨o2, g2, c2, _⟩ := ht
      rw [z, he] at g2
      cases g2
      exact absurd (show Value.type "enumerate" = Value.type "tuple" from c2) (by decide)
    have D := Draws.tuple (prog := X.prog) (w := X.w) (A := X.A.in1) (I.ok.hd hc) it a ane its.toArray
    have hlt : i < its.toArray.size := by
      rw [List.size_toArray]
      exact (List.getElem?_eq_some_iff.mp hu).1
    refine wpAny_pyNext_enum_itemD D he ⟨hit, ht⟩ hlt hne (fun z => ?_) fun u2 h' tk hP ho st' hT hsz hk => ?_
    · rcases List.mem_cons.mp z with z | z
      · exact hne z
      · exact ane2 (List.mem_singleton.mp z).symm
    have eu : u2 = u := by
      have q : its.toArray[i]? = some u2 := hP
      rw [List.getElem?_toArray, hu] at q
      exact (Option.some.inj q).symm
    subst eu
    refine ⟨_, rfl, wpAny_letOwnedTupleGo_enum (s := { s with heap := h', toks := tk + 1 }) ho fun h2 he2 sb => ?_⟩
    have gT : h2.get? s.heap.objs.size = some { cls := .type "tuple", data := .seq #[.int i tk, u2] } := (sb.2 _ (Nat.ne_of_gt le)).trans hT
    have okT : ObjOk X.prog X.w (upd H s.heap.objs.size (.tup [.int (i : Nat), x])) h2 s.heap.objs.size (.tup [.int (i : Nat), x]) :=
      ⟨by show 2 ≤ sizeLine; decide, [.int i tk, u2], .cons ⟨_, rfl⟩ (.cons ru .nil), ⟨_, gT, rfl, _, rfl⟩⟩
    have J : Inv X pins σ (upd H s.heap.objs.size (.tup [.int (i : Nat), x])) { s with heap := h2, toks := tk + 1 } := by
      refine I.turnedNew (ch := [e, it]) (fun b ob hb q => ?_) hf (Nat.le_refl _) okT
      have b1 : b ≠ e := fun z => hb (z ▸ List.mem_cons_self)
      have b2 : b ≠ it := fun z => hb (z ▸ tof)
      exact (sb.2 b b1).trans (hk b ob b1 b2 q)
    refine ⟨.ref s.heap.objs.size, _, J, rfl, ⟨_, x, rfl, I.hok.fresh (Nat.le_refl _), rfl, fun ys hy => ?_⟩, ⟨⟨u2, ?_⟩, st'.1.at fun o q => (sb.2 it (Ne.symm hne)).trans q, hne⟩, fun b hb => ?_⟩
    · rw [I.tuple_inj hy hq]
      exact hx
    · have e1 : ((i + 1 : Nat) : Int) = (i : Int) + 1 := Int.natCast_succ i
      rw [e1]
      exact he2
    · have lb : b < s.heap.objs.size := by
        rcases List.mem_cons.mp hb with z | z
        · exact z ▸ le
        · exact List.mem_singleton.mp z ▸ li
      rw [upd_ne (Nat.ne_of_lt lb)]
      exact (hf b hb).1
  done := by
    intro X hP hw hK hc i pins s σ H E I hf st hg
    subst hP hw hK
    obtain ⟨⟨old, he⟩, hit, hne⟩ := st
    obtain ⟨xs, hq, hx⟩ := hg
    obtain ⟨its, rv, p, hz⟩ := I.tuple hq
    have ht : s.heap.IsTuple a its.toArray := p
    have fit := hf it (List.mem_cons_of_mem _ List.mem_cons_self)
    have hT : s.TypeIs (.ref e) "enumerate" := ⟨_, he, rfl⟩
    have none1 : its.toArray[i]? = none := by
      have := rv.length
      rw [List.getElem?_toArray]
      exact List.getElem?_eq_none (by omega)
    unfold pyNext
    refine wpAny_bind (wpAny_attempt (wpAny_callSpecial?_slot (name := Str.ofString "__next__") hT F.slot_enumerate_next (wpAny_call_entry F.slot_enumerate_next hT F.entry_enumerate_next ?_ (F.args_enumerate_next_1 _))))
    show wpAny _ _ (field (.ref e) 2 >>= _) _ _ _
    refine wpAny_bind (wpAny_field he rfl (x := .ref it) rfl ?_)
    refine wpAny_bind (wpAny_nextOf_tuple_end (I.ok.hd hc) hit ht none1 fun h2 x2 eb ⟨ox, hox, hcx⟩ => ?_)
    refine wpAny_bind (wpAny_isInstance (T := "StopIteration") (b := true) ⟨ox, hox, hcx⟩ isSubtype_stop ?_)
    exact wpAny_pure ⟨rfl, I.turned (t' := s.toks) (fun b o hb q => eb b o hb q) fit.1 fit.2.1 fit.2.2.2.1 fit.2.2.2.2.1 fit.2.2.2.2.2⟩
  self A i s Q E st h := let ⟨⟨_, he⟩, _⟩ := st; wpAny_pyIter_enum he h
def iEnT (K : PySem.W.Frag) (ta : TA) : TI := fun σ H R => ta σ H fun vs H1 => ∃ a xs, vs = [.ref a] ∧ SqT K H1 a xs ∧ R (ItEn K a) H1
theorem pi_enT {X : Cx} {e : Expr} {ta : TA} {p pos tpos : Pos} {elts : List Expr} {kk : Nat} (hg : Gl X "enumerate") (hm : X.mg "enumerate" = none) (ha : PA X [e] ta) (hs : starEach [e] X.env = [(false, eval e X.env)] := by rfl) :
    PI X (.Tuple elts kk tpos) (.Call (.Name "enumerate" p) [e] [] pos) (iEnT X.K ta) := by
  refine ⟨fun pins s σ H R I h => ?_⟩
  refine Call_ (ld_blt I hg hm boot_enumerate (PyProof.Rows.callWith_type1 (thn (ha.run pos pins s σ H _ I h) fun us s1 ⟨vs, H1, I1, r1, q1⟩ => ?_) hs rfl))
  obtain ⟨a, xs, rfl, hq, q⟩ := q1
  obtain ⟨u, rfl, ru⟩ := vals1 r1
  obtain rfl : u = Value.ref a := ru
  obtain ⟨its, rv, p', hz⟩ := I1.tuple hq
  refine enCallB (begins_tuple a its.toArray) p' fun h' he hit hk => wpAny_pyIter_enum he ?_
  have I2 : Inv X pins σ H1 { s1 with heap := h' } := I1.kept (t' := s1.toks) hk
  refine ⟨s1.heap.objs.size + 1, [s1.heap.objs.size + 1, s1.heap.objs.size], _, _, H1, rfl, I2, turnEn a (s1.heap.objs.size + 1) s1.heap.objs.size, ⟨⟨.none, he⟩, ⟨_, hit, rfl, rfl⟩, Nat.succ_ne_self _⟩, fun b hb => ?_, q⟩
  have up : s1.heap.objs.size ≤ b := by
    rcases List.mem_cons.mp hb with z | z
    · rw [z]
      exact Nat.le_succ _
    · rw [List.mem_singleton.mp z]
      exact Nat.le_refl _
  exact I1.fpOk up (I1.hok.fresh up)
theorem walkEn {K : PySem.W.Frag} {a : Addr} {xs : List V} : Walk (ItEn K a) xs.length (fun H => SqT K H a xs) (YPair (fun i => some (.int (i : Nat))) (fun i => xs[i]?)) where
  goes i _ hi q := ⟨xs, xs[i], q, List.getElem?_eq_getElem hi⟩
  stops _ q := ⟨xs, q, Nat.le_refl _⟩
  yields i H v H' _ q y := by
    obtain ⟨T, x, h1, h2, h3, h4⟩ := y
    exact ⟨T, .int (i : Nat), x, h1, h2, h3, rfl, h4 xs q⟩
/-! ### a dict whose keys are tuples, made by a comprehension -/
theorem dsetT {X : Cx} {pins : List (Addr × Obj)} {σ : L2.St} {H : Hp} {z : Shared} {E : Value → Shared → Prop} {D b : Addr} {kvs : List (List Key × V)} {k : List Key} {v : V} {r : Value} {Q : Unit → Shared → Prop}
    (room : X.A.units < cLine) (I : Inv X pins σ H z) (hD : H D = some (.dT kvs)) (hb : H b = some (.tup (k.map kV))) (lt : kvs.length < sizeLine) (rv : RelV v r)
    (fin : ∀ z', Inv X pins σ (upd H D (.dT (putK kvs k v))) z' → Q () z') : wpAny (model X.prog X.w) X.A (dictSet D (.ref b) r) Q E z := by
  obtain ⟨_, hs, xs, kt, dd⟩ := dt_of I.hok hD
  have small : xs.length ≤ sizeLine := by
    rw [← Paired.length kt]
    omega
  have grown : (putK kvs k v).length ≤ sizeLine := by
    have := length_putK kvs k v
    omega
  refine wpAny_dictSet_heap (hsz := small) room (key_of I.hok hb) dd fun h2 d2 sb => fin _ ?_
  obtain ⟨o2, es, ep, g2, c2, t2, e2, _, n2⟩ := d2
  refine d_write I (by rw [hD]; trivial) sb ⟨o2, g2⟩ ⟨grown, hs, _, (kt.put k hb rv).keeps fun c ys ec => ?_, o2, es, ep, g2, c2, t2, e2, n2⟩
  exact (upd_ne (ne_of ec hD (fun z => nomatch z))).trans ec
def tDcT (wi : TI) (g : TG) (tk tv : TE) (own : List Nat) : TE := fun σ H Q => wi σ H fun J H1 => ∀ D, H1 D = none → ∃ W : Nat → Nat → Hp → Prop, (∃ m, W 0 m (upd H1 D (.dT []))) ∧ ∀ i m H, W i m H →
  (J.stop i H ∧ Q (.ref D) H) ∨ (J.go i H ∧ ∃ Nx : Hp → Prop, (∀ H', Nx H' → ∃ m', m' < m ∧ W (i + 1) m' H') ∧ ∀ x H', J.yld i H x H' → g x (wipe σ own) H' fun σ2 H2 => wipe σ2 own = wipe σ own ∧
    tk σ2 H2 fun y H3 => tv σ2 H3 fun c H4 => ∃ kvs k b, y = .ref b ∧ H4 b = some (.tup (k.map kV)) ∧ H4 D = some (.dT kvs) ∧ kvs.length < sizeLine ∧ Nx (upd H4 D (.dT (putK kvs k c))))
theorem pe_dcT {X : Cx} {kx vx tg iter : Expr} {scope : Scope} {own : List (Str × Nat)} {pos : Pos} {wi : TI} {g : TG} {tk tv : TE} (calm : X.calm = true) (room : X.A.units < cLine) (nd : X.N.Nodup) (src : PI X tg iter wi) (blk : BlkOk X.N X.env.scope scope own)
    (aim : ∀ (z : Shared) (Hz : Hp) (cl : List (Str × Addr)) (C : Addr) (fp : List Addr), PG (X.blk z Hz scope (compEnvC scope cl C X.env) fp) tg g)
    (key : ∀ (z : Shared) (Hz : Hp) (cl : List (Str × Addr)) (C : Addr) (fp : List Addr), PE (X.blk z Hz scope (compEnvC scope cl C X.env) fp) kx tk)
    (val : ∀ (z : Shared) (Hz : Hp) (cl : List (Str × Addr)) (C : Addr) (fp : List Addr), PE (X.blk z Hz scope (compEnvC scope cl C X.env) fp) vx tv) (plain : ∀ x, foldedSetIterable iter X.env x = pure x := by intro _; rfl) :
    PE X (.DictComp kx vx [⟨tg, iter, [], 0⟩] scope pos) (tDcT wi g tk tv (own.map (·.2))) := by
  refine ⟨fun pins s σ H Q I want => ?_⟩
  rw [arm_eval_DictComp]
  have outer : ∀ y ∈ scope.names, y.2 = .free → ∃ c, X.env.cells.lookup y.1 = some c := fun y hy e => (blk.free y hy e).elim (fun k => I.ok.has _ (.inl k)) fun k => I.ok.has _ (.inr k)
  refine wpAny_comprehension_free (use := none) rfl plain (closure_ok outer) blk.kind (fun y hy e => by rw [blk.uniq y hy, e]) (thn (src.run pins s σ H _ I want) fun _ _ begun => thn begun fun itv s2 ready => ?_)
  obtain ⟨it, fp, tn, J, H2, rfl, I2, T, at0, out2, rest⟩ := ready
  refine wpAny_newObj_type (newEnv_comp ?_)
  have fresh : H2 s2.heap.objs.size = none := I2.hok.fresh (Nat.le_refl _)
  obtain ⟨W, ⟨m0, w0⟩, turn⟩ := rest _ fresh
  have laid := I2.laid (a := s2.heap.objs.size) (o := .dT []) (t' := s2.toks) (fun b o e => Heap.get?_push_of_some _ e) (Nat.le_refl _) (dt_empty s2.heap I2.big)
  have below : ∀ b ∈ fp, b < s2.heap.objs.size := fun b hb => let ⟨_, e, _⟩ := T.obj _ _ at0 b hb; Heap.lt_size e
  have fp3 : ∀ b ∈ fp, FpOk X pins (upd H2 s2.heap.objs.size (.dT [])) b ∧ b < (s2.heap.push { cls := .type "dict", data := .dict #[] }).objs.size := fun b hb => by
    refine ⟨⟨(upd_ne (Nat.ne_of_lt (below b hb))).trans (out2 b hb).1, (out2 b hb).2⟩, ?_⟩
    rw [Heap.size_push]
    exact Nat.lt_succ_of_lt (below b hb)
  have at3 : tn 0 (s2.heap.push { cls := .type "dict", data := .dict #[] }) := T.keep _ _ _ at0 fun b _ o e => Heap.get?_push_of_some _ e
  generalize hz : ({ s2 with heap := s2.heap.push { cls := .type "dict", data := .dict #[] } } : Shared) = z at laid
  have hzh : z.heap = s2.heap.push { cls := .type "dict", data := .dict #[] } := by rw [← hz]
  rw [← hzh] at fp3 at3
  have inner := block_start laid blk nd fp3
  have aim' := aim z (upd H2 s2.heap.objs.size (.dT [])) (cellsFrom (z.heap.objs.size + 1) scope.names (cloFrom X.env.cells scope.names [])) z.heap.objs.size fp
  have key' := key z (upd H2 s2.heap.objs.size (.dT [])) (cellsFrom (z.heap.objs.size + 1) scope.names (cloFrom X.env.cells scope.names [])) z.heap.objs.size fp
  have val' := val z (upd H2 s2.heap.objs.size (.dT [])) (cellsFrom (z.heap.objs.size + 1) scope.names (cloFrom X.env.cells scope.names [])) z.heap.objs.size fp
  have noFp : ∀ b ∈ fp, upd H2 s2.heap.objs.size (.dT []) b = none := fun b hb => (fp3 b hb).1.1
  have goal2 : codeAny (model X.prog X.w) X.A (.compStart (.DictComp kx vx [⟨tg, iter, [], 0⟩] scope pos) 0 (.ref it) (.ref s2.heap.objs.size) (compEnvC scope (cellsFrom (z.heap.objs.size + 1) scope.names (cloFrom X.env.cells scope.names [])) z.heap.objs.size X.env))
      (compPost (model X.prog X.w) X.A X.xe none (EP X pins σ Q) (.ref s2.heap.objs.size) z.heap.objs.size) { z with heap := pushCells (z.heap.push { cls := .type "dict", data := .dict #[] }) scope.names } := ?_
  · exact goal2
  generalize hce : compEnvC scope (cellsFrom (z.heap.objs.size + 1) scope.names (cloFrom X.env.cells scope.names [])) z.heap.objs.size X.env = ce at inner aim' key' val' ⊢
  have loc : ce.locals = z.heap.objs.size := by rw [← hce]; rfl
  generalize hB : upd H2 s2.heap.objs.size (.dT []) = Hb at laid inner aim' key' val' w0 noFp fp3
  generalize hs4 : ({ z with heap := pushCells (z.heap.push { cls := .type "dict", data := .dict #[] }) scope.names } : Shared) = s4 at inner ⊢
  have at4 : tn 0 s4.heap := T.keep _ _ _ at3 fun b _ o e => by
    rw [← hs4]
    exact pushCells_keeps _ _ _ _ (Heap.get?_push_of_some _ e)
  have apart : ∀ {σ1 : L2.St} {H1 : Hp} {z1 : Shared}, Inv (X.blk z Hb scope ce fp) [] σ1 H1 z1 → (∀ b ∈ fp, H1 b = none) → ∀ b ∈ fp, FpOk (X.blk z Hb scope ce fp) [] H1 b := fun I1 n1 b hb =>
    ⟨n1 b hb, (I1.ok.exf b hb).1, I1.ok.exfs b hb, .inl hb, fun x c e => (I1.ok.exf b hb).2 x c e, fun p hp => nomatch hp⟩
  have loop : codeAny (model X.prog X.w) X.A (.compLoop (.DictComp kx vx [⟨tg, iter, [], 0⟩] scope pos) 0 (.ref it) (.ref s2.heap.objs.size) ce) (compPost (model X.prog X.w) X.A X.xe none (EP X pins σ Q) (.ref s2.heap.objs.size) z.heap.objs.size) s4 := by
    refine compLoop_anyD (fun n z1 => ∃ i H1, Inv (X.blk z Hb scope ce fp) [] (wipe σ (own.map (·.2))) H1 z1 ∧ tn i z1.heap ∧ (∀ b ∈ fp, H1 b = none) ∧ W i n H1) ?_ m0 ⟨0, Hb, inner, at4, noFp, w0⟩
    rintro n z5 ⟨i, H5, I5, at5, n5, w5⟩
    cases turn i n H5 w5 with
    | inl over =>
      obtain ⟨stop, told⟩ := over
      refine thnF (T.done (X.blk z Hb scope ce fp) rfl rfl rfl calm i [] z5 _ H5 (fun _ _ => False) I5 (apart I5 n5) at5 stop) fun r z6 ⟨hr, I6⟩ => ?_
      subst hr
      have back : Inv X pins σ H5 z6 := laid.call' (ch := fp) I6.os I6.base I6.hok I6.bare fun b hb => let f := (fp3 b hb).1; ⟨f.2.2.2.1, f.2.1, f.2.2.2.2.1, f.2.2.2.2.2⟩
      have nL : H5 z.heap.objs.size = none := by rw [← loc]; exact I6.free
      obtain ⟨m, ns, _⟩ := I6.loc
      have ns' : z6.heap.Ns ce.locals m := ns
      rw [loc] at ns'
      refine ⟨m, ns', fun h7 sb => ?_⟩
      have f := laid.fpOk (Nat.le_refl z.heap.objs.size) nL
      exact ⟨.ref s2.heap.objs.size, H5, back.turned (t' := z6.toks) (fun b o hb e => (sb.2 b hb).trans e) f.1 f.2.1 f.2.2.2.1 f.2.2.2.2.1 f.2.2.2.2.2, rfl, told⟩
    | inr more =>
      obtain ⟨go, Nx, after, step⟩ := more
      refine thnF (T.item (X.blk z Hb scope ce fp) rfl rfl rfl calm i [] z5 _ H5 (fun _ _ => False) I5 (apart I5 n5) at5 go) fun r z6 ⟨u, hr, h6⟩ => ?_
      subst hr
      refine thnF h6 fun _ z7 ⟨x, H7, I7, r7, y7, at7, n7⟩ => ?_
      refine thnF (aim'.run _ z7 _ H7 x u _ (I7.pinned (apart I7 n7) (T.obj _ _ at7)) r7 (step x H7 y7)) fun _ z8 ⟨σ8, H8, I8, same8, q8⟩ => ?_
      refine wpAny_pure ?_
      show if true = true then _ else _
      rw [if_pos rfl]
      refine thnF (key'.run _ z8 σ8 H8 _ I8 q8) fun ky z9 ⟨yk, H9, I9, r9, q9⟩ => ?_
      refine thnF (val'.run _ z9 σ8 H9 _ I9 q9) fun vy z10 ⟨yv, H10, I10, r10, kvs, k, b, eb, hb10, hD10, lt10, nx⟩ => ?_
      subst eb
      obtain rfl : ky = Value.ref b := r9
      refine dsetT (X := X.blk z Hb scope ce fp) room I10 hD10 hb10 lt10 r10 fun z11 I11 => ?_
      obtain ⟨m', less, w'⟩ := after _ nx
      have pin : ∀ c ∈ fp, ∀ o, z7.heap.get? c = some o → z11.heap.get? c = some o ∧ upd H10 s2.heap.objs.size (.dT (putK kvs k yv)) c = none := fun c hc o e => by
        have p := I11.pin (c, o) (List.mem_append_right _ (List.mem_append_right _ (mem_pinsAt hc e)))
        exact ⟨p.1, p.2.1⟩
      refine ⟨m', less, i + 1, _, (I11.unpinned (pins := [])).weak ?_ (fun j v e => ?_), T.keep _ _ _ at7 fun c hc o e => (pin c hc o e).1, fun c hc => ?_, w'⟩
      · rw [← same8, wipe_length]
      · rw [← same8] at e
        exact (wipe_some e).1
      · obtain ⟨o, e, _⟩ := T.obj _ _ at7 c hc
        exact (pin c hc o e).2
  exact codeAny_compStart_dict loop (T.self X.A 0 _ _ _ at4 loop)
/-! ### sorting tuples of ints -/
/-- the order of tuples of ints -/
def ltZ : List Int → List Int → Bool
  | [], [] => false
  | [], _ :: _ => true
  | _ :: _, [] => false
  | x :: r, y :: t => decide (x < y) || (!decide (y < x) && ltZ r t)
theorem ltZ_lex : ∀ a b : List Int, lexLt itemOrd (a.map Sum.inl) (b.map Sum.inl) = ltZ a b
  | [], [] => rfl
  | [], _ :: _ => rfl
  | _ :: _, [] => rfl
  | x :: r, y :: t => by
    show lexLt itemOrd (Sum.inl x :: r.map Sum.inl) (Sum.inl y :: t.map Sum.inl) = _
    rw [lex_cons, ltZ_lex r t]
    rfl
def TupI (h : Heap) (u : Value) (ks : List Int) : Prop := ∃ a o its n, u = Value.ref a ∧ h.get? a = some o ∧ o.cls = .type "tuple" ∧ o.data = .seq its n ∧ Vals (ks.map V.int) its.toList
theorem TupI.keep {h h' : Heap} {u : Value} {ks : List Int} (t : TupI h u ks) (k : ∀ b o, h.get? b = some o → h'.get? b = some o) : TupI h' u ks := by
  obtain ⟨a, o, its, n, e, g, r⟩ := t
  exact ⟨a, o, its, n, e, k _ _ g, r⟩
theorem tupItems_ints : ∀ (ks : List Int) (us : List Value) (i : Nat), Vals (ks.map V.int) us → tupItems (fun _ => false) i us = some (ks.map Sum.inl)
  | [], us, i, r => by
    cases r
    rfl
  | k :: ks, us, i, r => by
    cases r with
    | cons r1 r2 =>
      obtain ⟨t, rfl⟩ := r1
      show (if (fun _ : Nat => false) i = true then none else (tupItems (fun _ => false) (i + 1) _).map (Sum.inl k :: ·)) = _
      rw [if_neg (fun z => nomatch z), tupItems_ints ks _ (i + 1) r2]
      rfl
theorem TupI.key {h : Heap} {u : Value} {ks : List Int} (t : TupI h u ks) : G.tupKeyC h (fun _ => false) u = some (ks.map Sum.inl) := by
  obtain ⟨a, o, its, n, rfl, g, c, d, r⟩ := t
  exact G.tupKeyC_of g c d (tupItems_ints ks _ 0 r)
theorem tupsOf_ints {h : Heap} {k : Value → List Int} : ∀ {vs : List Value}, (∀ u ∈ vs, TupI h u (k u) ∧ k u ≠ []) → ∃ fs, TupsOf h (fun _ => false) vs fs
  | [], _ => ⟨[], .nil⟩
  | u :: vs, e => by
    obtain ⟨fs, r⟩ := tupsOf_ints (vs := vs) fun y hy => e y (List.mem_cons_of_mem _ hy)
    obtain ⟨t, ne⟩ := e u List.mem_cons_self
    obtain ⟨a, o, its, n, rfl, g, c, d, rv⟩ := t
    revert ne rv
    generalize k (Value.ref a) = ks
    intro ne rv
    cases ks with
    | nil => exact absurd rfl ne
    | cons k0 kr =>
      generalize hl : its.toList = l at rv
      cases rv with
      | cons r1 r2 =>
        obtain ⟨t, rfl⟩ := r1
        have h0 : its[0]? = some (Value.int k0 t) := by rw [← Array.getElem?_toList, hl]; rfl
        exact ⟨_, .cons ⟨a, o, its, n, rfl, g, c, d, h0, fun _ => ⟨_, _, rfl⟩, fun z => nomatch z⟩ r⟩
/-- what a sort of keyed pairs leaves, told of the values -/
theorem sorted_told {h : Heap} {k : Value → List Int} {vs : List Value} {arr : Array Keyed} (each : ∀ u ∈ vs, TupI h u (k u)) (hp : arr.Perm (PyProof.Rows.pairsOf vs)) (hs : SortedToK (G.tupKindC h fun _ => false) arr (PyProof.Rows.pairsOf vs).size) :
    (arr.map (·.2)).toList.Perm vs ∧ (arr.map (·.2)).toList.Pairwise fun x y => ltZ (k y) (k x) = false := by
  have pl := Array.perm_iff_toList_perm.mp hp
  rw [pairsOf_toList] at pl
  have two : ∀ p ∈ arr.toList, p.1 = p.2 ∧ p.1 ∈ vs := fun p m => mem_zip_self (pl.mem_iff.mp m)
  have e : (arr.map (·.2)).toList = arr.toList.map (·.2) := by simp
  rw [e]
  constructor
  · have z := pl.map (·.2)
    rw [List.map_snd_zip (Nat.le_refl _)] at z
    exact z
  · rw [List.pairwise_map, List.pairwise_iff_getElem]
    intro i j hi hj lt
    have sz : arr.size = (PyProof.Rows.pairsOf vs).size := hp.size_eq
    have q := hs i j (Nat.le_of_lt lt) (by rw [← sz]; simpa using hj)
    have at_ : ∀ (n : Nat) (hn : n < arr.toList.length), KK (G.tupKindC h fun _ => false) arr n = (k (arr.toList[n]).2).map Sum.inl := fun n hn => by
      obtain ⟨e1, m1⟩ := two _ (List.getElem_mem hn)
      have g : arr[n]? = some arr.toList[n] := by rw [← Array.getElem?_toList]; exact List.getElem?_eq_getElem hn
      unfold KK
      rw [g]
      show (G.tupKeyC h (fun _ => false) (arr.toList[n]).1).getD [] = _
      rw [(each _ m1).key, ← e1]
      rfl
    have q2 : lexLt itemOrd (KK (G.tupKindC h fun _ => false) arr j) (KK (G.tupKindC h fun _ => false) arr i) = false := q
    rw [at_ i hi, at_ j hj, ltZ_lex] at q2
    exact q2
section
variable {prog : Program} {w : World} {A : Around} {E : Value → Shared → Prop} {z : Shared}
/-- sorted(v), v's items tuples of ints -/
theorem sort_ints_of {v : Value} {vs : List Value} {k : Value → List Int} {Q : Value → Shared → Prop} (each : ∀ u ∈ vs, TupI z.heap u (k u) ∧ k u ≠ []) (small : vs.length ≤ sizeLine)
    (col : ∀ (A' : Around) (R : List Value → Shared → Prop) (E' : Value → Shared → Prop), A'.handled = A.handled → (∀ h' tk, (∀ b o, z.heap.get? b = some o → h'.get? b = some o) → z.heap.objs.size ≤ h'.objs.size → R vs { z with heap := h', toks := tk }) → wpAny (model prog w) A' (collect v) R E' z)
    (fin : ∀ h' tk p (out : Array Value) n, (∀ b o, z.heap.get? b = some o → h'.get? b = some o) → z.heap.objs.size ≤ p → h'.get? p = some (seqObj "list" out n) → out.toList.Perm vs → (out.toList.Pairwise fun x y => ltZ (k y) (k x) = false) → Q (.ref p) { z with heap := h', toks := tk }) :
    wpAny (model prog w) A (call (.builtin "sorted") [v]) Q E z := by
  refine Calls.call_function_entry kind_sorted plain_sorted entry_sorted (args_sorted1 _) ?_
  unfold Builtin.«sorted»
  refine wpAny_bind (m := checkCount "sorted" 1 1 _) (wpAny_pure ?_)
  refine wpAny_bind (col _ _ _ rfl fun h1 tk kp le => ?_)
  refine wpAny_bind (wpAny_newList ?_)
  have gL : (h1.push (seqObj "list" vs.toArray 0)).get? h1.objs.size = some (seqObj "list" vs.toArray 0) := Heap.get?_push_size _ rfl
  have kp2 : ∀ b o, z.heap.get? b = some o → (h1.push (seqObj "list" vs.toArray 0)).get? b = some o := fun b o e => Heap.get?_push_of_some _ (kp b o e)
  have each2 : ∀ u ∈ vs, TupI (h1.push (seqObj "list" vs.toArray 0)) u (k u) ∧ k u ≠ [] := fun u hu => ⟨(each u hu).1.keep kp2, (each u hu).2⟩
  obtain ⟨fs, tf⟩ := tupsOf_ints each2
  refine wpAny_bind (wpAny_holding (wpAny_call_entry slot_list_sort ⟨_, gL, rfl⟩ entry_list_sort
    (G.list_sort_tups (s := { z with heap := h1.push (seqObj "list" vs.toArray 0), toks := tk }) gL tf (fun u hu => ⟨_, (each2 u hu).1.key⟩) small fun st' a1 a2 a3 => ⟨_, rfl, ?_⟩) (args_list_sort _)))
  obtain ⟨t1, t2⟩ := sorted_told (fun u hu => (each2 u hu).1) a1 a2
  obtain ⟨n, gn⟩ := sortedHeap_at (vs := vs) (out := (arrOf st').map (·.2)) gL
  exact wpAny_pure ⟨_, rfl, fin _ _ _ _ n (fun b o e => (sortedHeap_old (Nat.ne_of_lt (Nat.lt_of_lt_of_le (Heap.lt_size e) le)) (Heap.lt_size (kp2 b o e))).trans (kp2 b o e)) le gn t1 t2⟩
theorem ints_inj : ∀ {ks ls : List Int}, ks.map V.int = ls.map V.int → ks = ls
  | [], [], _ => rfl
  | [], _ :: _, e => nomatch e
  | _ :: _, [], e => nomatch e
  | k :: ks, l :: ls, e => by
    obtain ⟨e1, e2⟩ := List.cons.inj e
    rw [V.int.inj e1, ints_inj e2]
theorem TupI.uniq {h : Heap} {u : Value} {ks ls : List Int} (a : TupI h u ks) (b : TupI h u ls) : ks = ls := by
  obtain ⟨p, o, its, n, e, g, _, d, r⟩ := a
  obtain ⟨p2, o2, its2, n2, e2, g2, _, d2, r2⟩ := b
  obtain rfl : p = p2 := Value.ref.inj (e.symm.trans e2)
  rw [g] at g2
  obtain rfl := Option.some.inj g2
  rw [d] at d2
  obtain ⟨rfl, rfl⟩ := Data.seq.inj d2
  exact ints_inj (r.inj r2)
open Classical in
/-- the ints of a tuple in the heap -/
noncomputable def kOf (h : Heap) (u : Value) : List Int := if e : ∃ ks, TupI h u ks then e.choose else []
theorem kOf_at {h : Heap} {u : Value} {ks : List Int} (t : TupI h u ks) : kOf h u = ks := by
  unfold kOf
  rw [dif_pos ⟨ks, t⟩]
  exact (Exists.choose_spec (⟨ks, t⟩ : ∃ ks, TupI h u ks)).uniq t
end
theorem vals_fun : ∀ (as : List Addr) {us : List Value}, Vals (as.map V.ref) us → us = as.map Value.ref
  | [], _, r => by cases r; rfl
  | a :: as, us, r => by
    cases r with
    | cons r1 r2 =>
      cases r1
      rw [vals_fun as r2]
      rfl
section
variable {X : Cx} {pins : List (Addr × Obj)} {σ : L2.St} {H : Hp} {z : Shared}
theorem tupI_of (I : Inv X pins σ H z) {a : Addr} {ks : List Int} (e : SqT X.K H a (ks.map V.int)) : TupI z.heap (.ref a) ks := by
  obtain ⟨its, r, p, _⟩ := I.tuple e
  obtain ⟨o, g, c, n, d⟩ := p
  exact ⟨a, o, _, n, rfl, g, c, d, r⟩
theorem sort_core {A : Around} {E : Value → Shared → Prop} {v : Value} {bs0 : List (Addr × List Int)} {Q : VK} (I : Inv X pins σ H z) (tups : ∀ b ∈ bs0, SqT X.K H b.1 (b.2.map V.int) ∧ b.2 ≠ []) (small : bs0.length ≤ sizeLine)
    (col : ∀ (A' : Around) (R : List Value → Shared → Prop) (E' : Value → Shared → Prop), A'.handled = A.handled → (∀ h' tk, (∀ b o, z.heap.get? b = some o → h'.get? b = some o) → z.heap.objs.size ≤ h'.objs.size → R (bs0.map fun b => .ref b.1) { z with heap := h', toks := tk }) → wpAny (model X.prog X.w) A' (collect v) R E' z)
    (q : ∀ p (bs : List (Addr × List Int)), H p = none → bs.Perm bs0 → (bs.Pairwise fun x y => ltZ y.2 x.2 = false) → Q (.ref p) (upd H p (.lst (bs.map fun b => .ref b.1)))) :
    wpAny (model X.prog X.w) A (call (.builtin "sorted") [v]) (EP X pins σ Q) E z := by
  have at_ : ∀ b ∈ bs0, kOf z.heap (.ref b.1) = b.2 := fun b hb => kOf_at (tupI_of I (tups b hb).1)
  refine sort_ints_of (k := kOf z.heap) (vs := bs0.map fun b => .ref b.1) (fun u hu => ?_) (by rw [List.length_map]; exact small) col fun h' tk p out n kp le gp pm pw => ?_
  · obtain ⟨b, hb, rfl⟩ := List.mem_map.mp hu
    rw [at_ b hb]
    exact ⟨tupI_of I (tups b hb).1, (tups b hb).2⟩
  · obtain ⟨bs, pb, eb⟩ := L2.perm_lift (fun b : Addr × List Int => Value.ref b.1) pm bs0 rfl
    have none1 : H p = none := I.hok.fresh le
    have rv : Vals (bs.map fun b => V.ref b.1) out.toList := by
      rw [← eb]
      exact vals_maps (fun b : Addr × List Int => V.ref b.1) (fun b => Value.ref b.1) bs fun _ _ => rfl
    have pw2 : bs.Pairwise fun x y => ltZ y.2 x.2 = false := by
      rw [← eb, List.pairwise_map] at pw
      refine List.Pairwise.imp_of_mem (fun {x y} hx hy h => ?_) pw
      rw [at_ x (pb.mem_iff.mp hx), at_ y (pb.mem_iff.mp hy)] at h
      exact h
    refine ⟨.ref p, upd H p (.lst (bs.map fun b => .ref b.1)), I.laid (t' := tk) kp le ⟨?_, out.toList, n, rv, ?_⟩, rfl, q p bs none1 pb pw2⟩
    · rw [List.length_map, pb.length_eq]
      exact small
    · rw [Array.toArray_toList]
      exact gp
/-- sorted(xs), xs a list of tuples of ints -/
def rSortT (K : PySem.W.Frag) : List V → Hp → VK → Prop := fun vs H Q => ∃ (a : Addr) (bs0 : List (Addr × List Int)), vs = [.ref a] ∧ SqL K H a (bs0.map fun b => .ref b.1) ∧ (∀ b ∈ bs0, SqT K H b.1 (b.2.map V.int) ∧ b.2 ≠ []) ∧
  ∀ p (bs : List (Addr × List Int)), H p = none → bs.Perm bs0 → (bs.Pairwise fun x y => ltZ y.2 x.2 = false) → Q (.ref p) (upd H p (.lst (bs.map fun b => .ref b.1)))
theorem cr_sortT : CallR X (.builtin "sorted") (rSortT X.K) := by
  intro pins s σ H vs us Q I r h
  obtain ⟨a, bs0, rfl, hs, tups, q⟩ := h
  obtain ⟨its, rv, pl, hz⟩ := I.list hs
  obtain ⟨u, rfl, ru⟩ := vals1 r
  obtain rfl : u = Value.ref a := ru
  have ei : its = bs0.map fun b => .ref b.1 := by
    have e := vals_fun (bs0.map (·.1)) (by rw [List.map_map]; exact rv)
    rw [e, List.map_map]
    rfl
  rw [List.length_map] at hz
  subst ei
  refine sort_core I tups hz (fun A' R E' _ fin => collect_list pl.isList (fin _ s.toks (fun b o e => ?_) ?_) (by rw [List.length_map]; exact hz)) q
  · rw [Heap.get?_update_ne _ _ _ _ (Nat.ne_of_lt (Heap.lt_size e))]
    exact Heap.get?_push_of_some _ e
  · rw [Heap.size_update, Heap.size_push]
    exact Nat.le_succ _
end
/-! ### sorted(d.keys()), the keys tuples of ints -/
theorem keys_paired {H : Hp} : ∀ {kvs : List (List Key × V)} {xs : List (List Key × Addr × Value)} {ks : List (List Int)}, KT H kvs xs → kvs.map (·.1) = ks.map (fun k => k.map Sum.inl) → xs.length = ks.length ∧ ∀ b ∈ (xs.map (fun x => x.2.1)).zip ks, H b.1 = some (.tup (b.2.map V.int))
  | _, _, ks, .nil, e => by
    cases ks with
    | nil => exact ⟨rfl, fun b hb => nomatch hb⟩
    | cons k kr => exact nomatch (show ([] : List (List Key)) = _ :: _ from e)
  | _, _, ks, .cons (a := p) (b := x) h t, e => by
    cases ks with
    | nil => exact nomatch (show _ :: _ = ([] : List (List Key)) from e)
    | cons k kr =>
      obtain ⟨e1, e2⟩ := List.cons.inj (show p.1 :: _ = k.map Sum.inl :: _ from e)
      obtain ⟨l, r⟩ := keys_paired t e2
      refine ⟨congrArg (· + 1) l, fun b hb => ?_⟩
      rcases List.mem_cons.mp (show b ∈ (x.2.1, k) :: _ from hb) with rfl | hb
      · have q := h.2.1
        rw [e1, List.map_map] at q
        exact q
      · exact r b hb
def tSKT (td : TE) : TE := fun σ H Q => td σ H fun v H1 => ∃ (d : Addr) (kvs : List (List Key × V)) (ks : List (List Int)), v = .ref d ∧ H1 d = some (.dT kvs) ∧ kvs.map (·.1) = ks.map (fun k => k.map Sum.inl) ∧ (∀ k ∈ ks, k ≠ []) ∧
  ∀ p (bs : List (Addr × List Int)), H1 p = none → (bs.map (·.2)).Perm ks → (bs.Pairwise fun x y => ltZ y.2 x.2 = false) → (∀ b ∈ bs, H1 b.1 = some (.tup (b.2.map V.int))) → Q (.ref p) (upd H1 p (.lst (bs.map fun b => .ref b.1)))
theorem pe_sKT {X : Cx} {e : Expr} {td : TE} {p pos apos cpos : Pos} (calm : X.calm = true) (hg : Gl X "sorted") (hm : X.mg "sorted" = none) (hv : bootBuiltins "sorted" = some (.builtin "sorted")) (he : PE X e td) (hbase : attributeBase e "keys" X.env (eval e X.env) = eval e X.env := by rfl)
    (hline : (apos.endLine == cpos.line) = true := by rfl)
    (hs : starEach [.Call (.Attribute e "keys" apos) [] [] cpos] X.env = [(false, eval (.Call (.Attribute e "keys" apos) [] [] cpos) X.env)] := by rfl) (hpl : (backTo pos (starEach [.Call (.Attribute e "keys" apos) [] [] cpos] X.env)) = [(false, eval (.Call (.Attribute e "keys" apos) [] [] cpos) X.env)] := by rfl)
    (hn : ("sorted" : Str) ≠ "__name__" := by decide) (hdb : (("sorted" : Str) == ("__debug__" : Str)) = false := by decide) :
    PE X (.Call (.Name "sorted" p) [.Call (.Attribute e "keys" apos) [] [] cpos] [] pos) (tSKT td) := by
  refine ⟨fun pins s σ H Q I want => ?_⟩
  refine wpAny_Call_Name_kw (ld_blt I hg hm hv ?_ hn hdb)
  rw [hpl]
  refine PySem.callWith_builtin1 ?_
  refine wpAny_Call_method (T := "dict") (id := "dict.keys") hbase rfl hline F.plainAttrs_dict F.slot_dict_keys F.type_dict_keys (thn (he.run pins s σ H _ I want) fun u s1 told => ?_)
  obtain ⟨x, H1, I1, rx, d, kvs, ks, rfl, hd, eks, ne, q⟩ := told
  obtain rfl : u = Value.ref d := rx
  obtain ⟨hz, ns, xs, kt, dd⟩ := dt_of I1.hok hd
  obtain ⟨es, ep, raw, esz, enth⟩ := dd.raw
  refine ⟨raw.typeIs, dictOfH_noDict dd, ?_⟩
  show wpAny _ _ (callWith cpos (.builtin "dict.keys") [.ref d] [] []) _ X.xe s1
  refine method_meetsIn F.slot_dict_keys F.entry_dict_keys rfl (PySem.evalArgs_none ⟨rfl, raw.typeIs, F.args_dict_keys_1 _, _, meets_dict_keys_raw d ns, ⟨es, ep, raw⟩, ?_⟩)
  have I2 : Inv X pins σ H1 { s1 with heap := s1.heap.push { cls := .type "dict_keys", data := .fields #[.ref d] } } := I1.kept (t' := s1.toks) fun b o e => Heap.get?_push_of_some _ e
  obtain ⟨lx, tups⟩ := keys_paired kt eks
  have lk : (xs.map fun x => x.2.1).length = ks.length := by rw [List.length_map]; exact lx
  have n2 : ((xs.map fun x => x.2.1).zip ks).length = es.size := by rw [List.length_zip, lk, Nat.min_self, ← lx, esz]
  have top : (s1.heap.push { cls := .type "dict_keys", data := .fields #[.ref d] }).get? s1.heap.objs.size = some { cls := .type "dict_keys", data := .fields #[.ref d] } := Heap.get?_push_size _ rfl
  refine sort_core (bs0 := (xs.map fun x => x.2.1).zip ks) I2 (fun b hb => ⟨SqT.of (tups b hb), ne b.2 (List.of_mem_zip hb).2⟩) ?_ (fun A' R E' hA fin => ?_) fun p bs hp pm pw => ?_
  · rw [n2, esz, ← Paired.length kt]
    exact hz
  · refine PySem.W.kdu_collect (KdlSrc.rawKeys (r := s1.heap.objs.size) (d := d) (es := es) (ep := ep)) (hA.trans (I1.ok.hd calm)) ⟨⟨_, top, rfl, rfl⟩, raw.at fun o e => Heap.get?_push_of_some _ e⟩ ?_ fun h' tk acc kp it => ?_
    · rw [esz, ← Paired.length kt]
      exact hz
    · have eacc : acc.toList = ((xs.map fun x => x.2.1).zip ks).map fun b => .ref b.1 := by
        have la : acc.toList.length = es.size := by rw [Array.length_toList]; exact it.1
        apply List.ext_getElem (by rw [List.length_map, n2, la])
        intro i h1 h2
        have hi : i < es.size := by omega
        obtain ⟨hi', ev⟩ := it.2 i acc.toList[i] (by rw [← Array.getElem?_toList]; exact List.getElem?_eq_getElem h1)
        obtain ⟨y, hy, ek, _⟩ := enth i hi
        obtain ⟨hx, exy⟩ := List.getElem?_eq_some_iff.mp hy
        rw [ev, ek, List.getElem_map, List.getElem_zip, List.getElem_map, exy]
      rw [eacc]
      refine fin h' tk kp ?_
      have lt : s1.heap.objs.size < h'.objs.size := Heap.lt_size (kp _ _ top)
      show (s1.heap.push _).objs.size ≤ _
      rw [Heap.size_push]
      exact lt
  · refine q p bs hp ?_ pw fun b hb => tups b (pm.mem_iff.mp hb)
    have z := pm.map (·.2)
    rw [List.map_snd_zip (Nat.le_of_eq lk.symm)] at z
    exact z
/-! ### dict(xs), xs a list of pairs (tuple, value) -/
/-- a pair's place, its key's place, the key, the value -/
abbrev PKV := Addr × Addr × List Key × V
def putAllK (acc : List (List Key × V)) (ps : List PKV) : List (List Key × V) := ps.foldl (fun acc x => putK acc x.2.2.1 x.2.2.2) acc
theorem putAllK_len : ∀ (ps : List PKV) (acc : List (List Key × V)), (putAllK acc ps).length ≤ acc.length + ps.length
  | [], _ => Nat.le_refl _
  | x :: ps, acc => by
    have h1 := putAllK_len ps (putK acc x.2.2.1 x.2.2.2)
    have h2 := length_putK acc x.2.2.1 x.2.2.2
    show (putAllK (putK acc x.2.2.1 x.2.2.2) ps).length ≤ _
    rw [List.length_cons]
    omega
def PkOk (H : Hp) (x : PKV) : Prop := H x.1 = some (.tup [.ref x.2.1, x.2.2.2]) ∧ H x.2.1 = some (.tup (x.2.2.1.map kV))
/-- the pairs as they lie in the heap -/
def PkAt (H : Hp) (h : Heap) (x : PKV) (r : List Key × Addr × Value) : Prop := x.2.2.1 = r.1 ∧ x.2.1 = r.2.1 ∧ RelV x.2.2.2 r.2.2 ∧ H r.2.1 = some (.tup (r.1.map kV)) ∧ PairAt h x.1 (.ref r.2.1) r.2.2
section
variable {X : Cx} {pins : List (Addr × Obj)} {σ : L2.St} {H : Hp} {z : Shared}
theorem pk_at (I : Inv X pins σ H z) : ∀ ps : List PKV, (∀ x ∈ ps, PkOk H x) → ∃ rs, Paired (PkAt H z.heap) ps rs
  | [], _ => ⟨[], .nil⟩
  | x :: ps, e => by
    obtain ⟨rs, r⟩ := pk_at I ps fun y hy => e y (List.mem_cons_of_mem _ hy)
    obtain ⟨e1, e2⟩ := e x List.mem_cons_self
    obtain ⟨_, its, rv, o, g, c, n, d⟩ := (show ObjOk X.prog X.w H z.heap x.1 (.tup [.ref x.2.1, x.2.2.2]) from I.hok _ _ e1)
    obtain ⟨u1, u2, rfl, r1, r2⟩ := vals2 rv
    obtain rfl : u1 = Value.ref x.2.1 := r1
    exact ⟨(x.2.2.1, x.2.1, u2) :: rs, .cons ⟨rfl, rfl, r2, e2, .inl ⟨o, g, c, n, d⟩⟩ r⟩
end
theorem pk_kt {H H2 : Hp} {h : Heap} (tk : ∀ b ys, H b = some (.tup ys) → H2 b = some (.tup ys)) : ∀ {ps : List PKV} {rs : List (List Key × Addr × Value)} {kvs : List (List Key × V)} {xs : List (List Key × Addr × Value)}, Paired (PkAt H h) ps rs → KT H2 kvs xs → KT H2 (putAllK kvs ps) (storedAllH xs rs)
  | _, _, _, _, .nil, t => t
  | _, _, _, _, .cons (a := x) (b := r) e p, t => by
    obtain ⟨e1, e2, e3, e4, _⟩ := e
    have t2 := t.put x.2.2.1 (b := r.2.1) (y := x.2.2.2) (u := r.2.2) (by rw [e1]; exact tk _ _ e4) e3
    have q := pk_kt tk p t2
    rw [e1] at q
    have show1 : x.2.2.1 = r.1 := e1
    show KT H2 (putAllK (putK _ x.2.2.1 x.2.2.2) _) _
    rw [show1]
    exact q
theorem pk_get {H : Hp} {h : Heap} : ∀ {ps : List PKV} {rs : List (List Key × Addr × Value)}, Paired (PkAt H h) ps rs → ∀ (j : Nat) (r : List Key × Addr × Value), rs[j]? = some r → ∃ x, ps[j]? = some x ∧ PkAt H h x r
  | _, _, .nil, j, r, e => nomatch (show (none : Option (List Key × Addr × Value)) = some r from e)
  | _, _, .cons (a := x) e p, 0, r, hj => by
    cases hj
    exact ⟨x, rfl, e⟩
  | _, _, .cons e p, j + 1, r, hj => pk_get p j r hj
def rDictP (K : PySem.W.Frag) : List V → Hp → VK → Prop := fun vs H Q => ∃ (a : Addr) (ps : List PKV), vs = [.ref a] ∧ SqL K H a (ps.map fun x => .ref x.1) ∧ (∀ x ∈ ps, PkOk H x) ∧ ∀ p, H p = none → Q (.ref p) (upd H p (.dT (putAllK [] ps)))
theorem cr_dictP {X : Cx} (calm : X.calm = true) (room : X.A.units + 2 < cLine) : CallR X (.type "dict") (rDictP X.K) := by
  intro pins s σ H vs us Q I r h
  obtain ⟨a, ps, rfl, hs, oks, q⟩ := h
  obtain ⟨its, rv, pl, hz⟩ := I.list hs
  obtain ⟨u, rfl, ru⟩ := vals1 r
  obtain rfl : u = Value.ref a := ru
  rw [List.length_map] at hz
  have ei : its = ps.map fun x => Value.ref x.1 := by
    have e := vals_fun (ps.map (·.1)) (by rw [List.map_map]; exact rv)
    rw [e, List.map_map]
    rfl
  obtain ⟨rs, pr⟩ := pk_at I ps oks
  have len : ps.length = rs.length := Paired.length pr
  have ok : PlainSeq "list" s.heap a its.toArray ∧ PairItems s.heap its.toArray (fun j => ((ps[j]?).map (·.1)).getD 0) (rs.map fun r => (Value.ref r.2.1, r.2.2)) := by
    refine ⟨pl, ?_, fun j k v hj => ?_⟩
    · rw [ei, List.length_map, List.size_toArray, List.length_map, len]
    · rw [List.getElem?_map] at hj
      obtain ⟨r, hr, er⟩ := Option.map_eq_some_iff.mp hj
      cases er
      obtain ⟨x, hx, at_⟩ := pk_get pr j r hr
      refine ⟨?_, ?_⟩
      · rw [ei, List.getElem?_toArray, List.getElem?_map, hx]
        show some (Value.ref x.1) = some (Value.ref (((ps[j]?).map (·.1)).getD 0))
        rw [hx]
        rfl
      · show PairAt s.heap (((ps[j]?).map (·.1)).getD 0) _ _
        rw [hx]
        exact at_.2.2.2.2
  have P := PairArg.list (prog := X.prog) (w := X.w) a its.toArray (fun j => ((ps[j]?).map (·.1)).getD 0) (rs.map fun r => (Value.ref r.2.1, r.2.2))
  refine call_dict_pairsH (knd := tupleKind (mixKind X.prog X.w)) (ps := rs) P (I.ok.hd calm) (show X.A.in1.in1.units < cLine from room) ok ⟨by rw [List.length_map], fun j key v hj => ?_⟩ (fun h2 kp x hx => ?_) ?_ fun h2 tk dd kp => ?_
  · have hj' : (rs.map fun r => (Value.ref r.2.1, r.2.2))[j]? = some (key, v) := hj
    rw [List.getElem?_map] at hj'
    obtain ⟨r, hr, er⟩ := Option.map_eq_some_iff.mp hj'
    cases er
    exact ⟨r.1, r.2.1, hr, rfl⟩
  · obtain ⟨j, hj⟩ := List.mem_iff_getElem?.mp hx
    obtain ⟨y, _, at_⟩ := pk_get pr j x hj
    obtain ⟨o, it, n, g, c⟩ := key_of I.hok at_.2.2.2.1
    exact ⟨o, it, n, kp _ o (Nat.ne_of_lt (Heap.lt_size g)) (fun z => nomatch z) g, c⟩
  · rw [List.length_map, ← len]
    exact hz
  · have fresh : H s.heap.objs.size = none := I.hok.fresh (Nat.le_refl _)
    have k2 : ∀ b o, s.heap.get? b = some o → h2.get? b = some o := fun b o e => kp b o (fun z => nomatch z) e
    obtain ⟨o, es, ep, g, c, d, e, _, n⟩ := dd
    have kt : KT (upd H s.heap.objs.size (.dT (putAllK [] ps))) (putAllK [] ps) (storedAllH [] rs) := pk_kt (fun b ys e => by rw [upd_ne (ne_of_none e fresh)]; exact e) pr .nil
    have big : (s.heap.objs.size == sysModules) = false := by
      have := I.big
      exact beq_false_of_ne (Nat.ne_of_gt this)
    have small : (putAllK [] ps).length ≤ sizeLine := by
      have := putAllK_len ps []
      rw [List.length_nil] at this
      omega
    exact ⟨.ref s.heap.objs.size, _, I.laid (t' := tk) (o := .dT (putAllK [] ps)) k2 (Nat.le_refl _) ⟨small, big, _, kt, o, es, ep, g, c, d, e, n⟩, rfl, q _ fresh⟩
theorem hu2_of {A : Around} {k : Nat} (hr : Room k A) : A.units + 2 < cLine := by
  have := hr.units
  omega
section
variable {X : Cx} {K : PySem.W.Frag}
theorem k_sortT (hK : X.K = K := by rfl) : CallR X (.builtin "sorted") (rSortT K) := hK ▸ cr_sortT
theorem k_dictP (calm : X.calm = true) (room : X.A.units + 2 < cLine) (hK : X.K = K := by rfl) : CallR X (.type "dict") (rDictP K) := hK ▸ cr_dictP calm room
theorem k_leT (hu : X.A.units < cLine) (hK : X.K = K := by rfl) : OpR X (compareOp .LtE) (rLeT K) := hK ▸ op_leT hu
theorem k_enT {e : Expr} {ta : TA} {p pos tpos : Pos} {elts : List Expr} {kk : Nat} (hg : Gl X "enumerate") (hm : X.mg "enumerate" = none) (ha : PA X [e] ta) (hs : starEach [e] X.env = [(false, eval e X.env)] := by rfl) (hK : X.K = K := by rfl) :
    PI X (.Tuple elts kk tpos) (.Call (.Name "enumerate" p) [e] [] pos) (iEnT K ta) := hK ▸ pi_enT hg hm ha hs
theorem k_list_of (hK : X.K = K := by rfl) : CallR X (.type "list") (fun xs H Q => ∃ p ys, xs = [.ref p] ∧ (SqL K H p ys ∨ SqT K H p ys) ∧ ∀ l, H l = none → Q (.ref l) (upd H l (.lst ys))) := hK ▸ call_list_of
theorem k_fld {e : Expr} {f : Str} {pos : Pos} {ta : TE} (he : PE X e ta) (hb : attributeBase e f X.env (eval e X.env) = eval e X.env) (hK : X.K = K := by rfl) : PE X (.Attribute e f pos) (tFld K ta f) := hK ▸ pe_fld he hb
theorem k_sfld {o value : Expr} {f : Str} {pos pos' : Pos} {ta tv : TE} (ha : PE X o ta) (hv : PE X value tv) (hs : swapsWith value (some (.Attribute o f pos')) pos.line X.env = pure false) (hK : X.K = K := by rfl) : PS X (.Assign [.Attribute o f pos'] value pos) (sFld K ta tv f) := hK ▸ ps_fld ha hv hs
end
theorem k_pgT {X : Cx} {K : PySem.W.Frag} (n : Nat) {es : List Expr} {k : Nat} {pos : Pos} {t : TGs} (hc : X.calm = true) (h : PGs X es t) (hn : (assignEach es X.env).length = n := by rfl) (hst : (assignEach es X.env).findIdx? (·.1) = none := by rfl) (hK : X.K = K := by rfl) : PG X (.Tuple es k pos) (gTup K n t) := hK ▸ pg_tup hc h hn hst
/-! ### a tuple of the written part -/
def KTu (K : PySem.W.Frag) (a : Addr) (xs : List V) : Prop := ∀ H, SqT K H a xs
def AheadAt (K : PySem.W.Frag) (mg : Str → Option Value) : Prop := ∃ A b0 b1 b2 b3 : Addr, mg "AHEAD" = some (.ref A) ∧ KTu K A [.ref b0, .ref b1, .ref b2, .ref b3] ∧ KTu K b0 [.int 0, .int (-1)] ∧ KTu K b1 [.int 1, .int 0] ∧ KTu K b2 [.int 0, .int 1] ∧ KTu K b3 [.int (-1), .int 0]
theorem ktu_of {K : PySem.W.Frag} {a : Addr} {xs : List V} {its : Array Value} {n : Nat} (e : K.lookup a = some { cls := .type "tuple", data := .seq its n }) (z : its.size ≤ 1000) (r : Vals xs its.toList) : KTu K a xs := fun H => .inr ⟨_, its, n, e, rfl, rfl, small_le z, r⟩
/-! ### objects that may change -/
/-- all stays but what stands at these places -/
def KeepE (E : List Addr) (H H' : Hp) : Prop := ∀ b o, b ∉ E → H b = some o → H' b = some o
theorem KeepE.refl (E : List Addr) (H : Hp) : KeepE E H H := fun _ _ _ h => h
theorem KeepE.trans {E : List Addr} {H H1 H2 : Hp} (a : KeepE E H H1) (b : KeepE E H1 H2) : KeepE E H H2 := fun c o n h => b c o n (a c o n h)
theorem KeepE.new {E : List Addr} {H : Hp} {p : Addr} {o : HO} (h : H p = none) : KeepE E H (upd H p o) := fun b u _ e => by
  rw [upd_ne (ne_of_none e h)]
  exact e
theorem KeepE.put {E : List Addr} {H : Hp} {p : Addr} {o : HO} (h : p ∈ E) : KeepE E H (upd H p o) := fun b u n e => by
  rw [upd_ne (fun z => n (by rw [z]; exact h))]
  exact e
theorem KeepE.fresh {E : List Addr} {H H' : Hp} {p : Addr} {o : HO} (k : KeepE E H H') (h : H p = none) : KeepE E H (upd H' p o) := fun b u n e => by
  rw [upd_ne (ne_of_none e h)]
  exact k b u n e
theorem KeepE.putR {E : List Addr} {H H' : Hp} {p : Addr} {o : HO} (k : KeepE E H H') (h : p ∈ E) : KeepE E H (upd H' p o) := k.trans (KeepE.put h)
theorem Same.keepE {E : List Addr} {H H' : Hp} (s : Same H H') : KeepE E H H' := fun b o _ h => s b o h
theorem KeepE.mono {E F : List Addr} {H H' : Hp} (k : KeepE E H H') (h : ∀ a ∈ E, a ∈ F) : KeepE F H H' := fun b o n e => k b o (fun z => n (h b z)) e
/-- what the first heap did not know may change -/
theorem KeepE.same {E : List Addr} {H H' : Hp} (k : KeepE E H H') (h : ∀ a ∈ E, H a = none) : Same H H' := fun b o e => k b o (fun z => by rw [h b z] at e; cases e) e
/-- no tuple, nothing frozen -/
def Soft (H : Hp) (a : Addr) : Prop := (∀ xs, H a ≠ some (.tup xs)) ∧ ∀ o u, H a ≠ some (.frz o u)
theorem KeepE.tk {E : List Addr} {H H' : Hp} (k : KeepE E H H') (s : ∀ a ∈ E, Soft H a) : TK H H' :=
  ⟨fun b xs e => k b _ (fun z => (s b z).1 xs e) e, fun b o u e => k b _ (fun z => (s b z).2 o u e) e⟩
theorem Soft.none {H : Hp} {a : Addr} (h : H a = none) : Soft H a := ⟨fun xs e => (by rw [h] at e; cases e), fun o u e => (by rw [h] at e; cases e)⟩
theorem Soft.dT {H : Hp} {a : Addr} {kvs : List (List Key × V)} (h : H a = some (.dT kvs)) : Soft H a := ⟨fun xs e => (by rw [h] at e; cases e), fun o u e => (by rw [h] at e; cases e)⟩
theorem Soft.ins {H : Hp} {a C dx : Addr} {fs : List (Str × V)} (h : H a = some (.ins C dx fs)) : Soft H a := ⟨fun xs e => (by rw [h] at e; cases e), fun o u e => (by rw [h] at e; cases e)⟩
theorem Soft.lst {H : Hp} {a : Addr} {xs : List V} (h : H a = some (.lst xs)) : Soft H a := ⟨fun xs e => (by rw [h] at e; cases e), fun o u e => (by rw [h] at e; cases e)⟩
theorem KeepE.back {E : List Addr} {H H' : Hp} {p : Addr} (k : KeepE E H H') (h : H' p = none) (n : p ∉ E) : H p = none := by
  cases e : H p with
  | none => rfl
  | some o =>
    rw [k p o n e] at h
    cases h
theorem Same.back {H H' : Hp} {p : Addr} (k : Same H H') (h : H' p = none) : H p = none := by
  cases e : H p with
  | none => rfl
  | some o =>
    rw [k p o e] at h
    cases h
/-! ### slices -/
theorem sl32 {a b c : V} : ¬ (HT.sIx ([a, b, c] : List V).length 0 none = 0 ∧ HT.sIx ([a, b, c] : List V).length ([a, b, c] : List V).length (some 2) = ([a, b, c] : List V).length) := by
  show ¬ (HT.sIx 3 0 none = 0 ∧ HT.sIx 3 3 (some 2) = 3)
  decide
theorem sl42 {a b c d : V} : ¬ (HT.sIx ([a, b, c, d] : List V).length 0 none = 0 ∧ HT.sIx ([a, b, c, d] : List V).length ([a, b, c, d] : List V).length (some 2) = ([a, b, c, d] : List V).length) := by
  show ¬ (HT.sIx 4 0 none = 0 ∧ HT.sIx 4 4 (some 2) = 4)
  decide
/-! ### readings of tuples -/
section
variable {K : PySem.W.Frag} {H : Hp}
theorem Tp.int4 {v : V} {i j k l : Int} (h : Tp K H v (.tuple [.int i, .int j, .int k, .int l])) : ∃ a, v = .ref a ∧ SqT K H a [.int i, .int j, .int k, .int l] := by
  obtain ⟨a, xs, rfl, hs, h⟩ := h.tupI
  obtain ⟨x, _, rfl, h1, h⟩ := h.consI
  obtain ⟨y, _, rfl, h2, h⟩ := h.consI
  obtain ⟨z, _, rfl, h3, h⟩ := h.consI
  obtain ⟨u, _, rfl, h4, h⟩ := h.consI
  rw [h1.intI, h2.intI, h3.intI, h4.intI, h.nilI] at hs
  exact ⟨a, rfl, hs⟩
theorem Tp.int2 {v : V} {i j : Int} (h : Tp K H v (.tuple [.int i, .int j])) : ∃ a, v = .ref a ∧ SqT K H a [.int i, .int j] := by
  obtain ⟨a, xs, rfl, hs, h⟩ := h.tupI
  obtain ⟨x, _, rfl, h1, h⟩ := h.consI
  obtain ⟨y, _, rfl, h2, h⟩ := h.consI
  rw [h1.intI, h2.intI, h.nilI] at hs
  exact ⟨a, rfl, hs⟩
theorem Tp.of_ints {a : Addr} : ∀ {ks : List Int}, SqT K H a (ks.map V.int) → Tp K H (.ref a) (.tuple (ks.map PyData.int)) := fun {ks} h => by
  refine .tup h ?_
  clear h
  induction ks with
  | nil => exact .nil
  | cons k ks ih => exact .cons (.int k) ih
end
/-! ### cells: places and their colours, as a dict keeps them -/
abbrev Pt := Int × Int
abbrev CM := List (Pt × Int)
def ptK (p : Pt) : List Key := [Sum.inl p.1, Sum.inl p.2]
theorem ptK_inj {p q : Pt} (h : ptK p = ptK q) : p = q := by
  obtain ⟨a, b⟩ := p
  obtain ⟨c, d⟩ := q
  have e1 := List.cons.inj h
  have e2 := List.cons.inj e1.2
  have q1 : a = c := Sum.inl.inj e1.1
  have q2 : b = d := Sum.inl.inj e2.1
  rw [q1, q2]
theorem ptK_v (p : Pt) : (ptK p).map kV = [V.int p.1, V.int p.2] := rfl
def look : CM → Pt → Option Int
  | [], _ => none
  | e :: r, p => if e.1 = p then some e.2 else look r p
def putM : CM → Pt → Int → CM
  | [], p, c => [(p, c)]
  | e :: r, p, c => if e.1 = p then (e.1, c) :: r else e :: putM r p c
def dropM : CM → Pt → CM
  | [], _ => []
  | e :: r, p => if e.1 = p then r else e :: dropM r p
def cellK (m : CM) : List (List Key × V) := m.map fun e => (ptK e.1, V.int e.2)
def col (m : CM) (p : Pt) : Int := (look m p).getD 0
theorem look_none : ∀ {m : CM} {p : Pt}, look m p = none ↔ p ∉ m.map (·.1)
  | [], p => by simp [look]
  | e :: r, p => by
    rw [List.map_cons, List.mem_cons]
    unfold look
    by_cases h : e.1 = p
    · rw [if_pos h]
      simp [h]
    · rw [if_neg h, look_none]
      exact ⟨fun x y => y.elim (fun z => h z.symm) x, fun x y => x (.inr y)⟩
theorem look_mem : ∀ {m : CM} {p : Pt} {c : Int}, look m p = some c → (p, c) ∈ m
  | [], p, c, h => nomatch h
  | e :: r, p, c, h => by
    unfold look at h
    by_cases q : e.1 = p
    · rw [if_pos q] at h
      rw [← q, ← Option.some.inj h]
      exact List.mem_cons_self
    · rw [if_neg q] at h
      exact List.mem_cons_of_mem _ (look_mem h)
theorem mem_look : ∀ {m : CM} {p : Pt} {c : Int}, (m.map (·.1)).Nodup → (p, c) ∈ m → look m p = some c
  | [], p, c, _, h => nomatch h
  | e :: r, p, c, nd, h => by
    rw [List.map_cons, List.nodup_cons] at nd
    unfold look
    rcases List.mem_cons.mp h with rfl | h
    · exact if_pos rfl
    · have q : e.1 ≠ p := fun z => nd.1 (z ▸ List.mem_map.mpr ⟨_, h, rfl⟩)
      rw [if_neg q]
      exact mem_look nd.2 h
theorem look_put : ∀ (m : CM) (p q : Pt) (c : Int), look (putM m p c) q = if q = p then some c else look m q
  | [], p, q, c => by
    show (if p = q then some c else none) = _
    by_cases h : q = p
    · rw [if_pos h, if_pos h.symm]
    · rw [if_neg h, if_neg (fun z => h z.symm)]
      rfl
  | e :: r, p, q, c => by
    unfold putM
    by_cases h : e.1 = p
    · rw [if_pos h]
      unfold look
      by_cases hq : q = p
      · rw [if_pos hq, if_pos (h.trans hq.symm)]
      · rw [if_neg hq, if_neg (fun z => hq (z.symm.trans h)), if_neg (fun z => hq (z.symm.trans h))]
    · rw [if_neg h]
      unfold look
      by_cases he : e.1 = q
      · rw [if_pos he, if_pos he, if_neg (fun z => h (he.trans z))]
      · rw [if_neg he, if_neg he, look_put r p q c]
theorem keys_put : ∀ {m : CM} {p q : Pt} {c : Int}, q ∈ (putM m p c).map (·.1) → q = p ∨ q ∈ m.map (·.1)
  | m, p, q, c, h => by
    by_cases e : q = p
    · exact .inl e
    · refine .inr (Classical.byContradiction fun n => ?_)
      have z := look_put m p q c
      rw [if_neg e, look_none.mpr n] at z
      exact look_none.mp z h
theorem nd_put : ∀ {m : CM} (p : Pt) (c : Int), (m.map (·.1)).Nodup → ((putM m p c).map (·.1)).Nodup
  | [], p, c, _ => List.nodup_cons.mpr ⟨List.not_mem_nil, List.nodup_nil⟩
  | e :: r, p, c, nd => by
    rw [List.map_cons, List.nodup_cons] at nd
    unfold putM
    by_cases h : e.1 = p
    · rw [if_pos h, List.map_cons, List.nodup_cons]
      exact nd
    · rw [if_neg h, List.map_cons, List.nodup_cons]
      exact ⟨fun z => (keys_put z).elim h nd.1, nd_put p c nd.2⟩
theorem len_put : ∀ (m : CM) (p : Pt) (c : Int), (putM m p c).length ≤ m.length + 1
  | [], _, _ => Nat.le_refl _
  | e :: r, p, c => by
    unfold putM
    have := len_put r p c
    split <;> simp only [List.length_cons] <;> omega
theorem look_drop : ∀ {m : CM} (p q : Pt), (m.map (·.1)).Nodup → look (dropM m p) q = if q = p then none else look m q
  | [], p, q, _ => by
    show (none : Option Int) = if q = p then none else none
    split <;> rfl
  | e :: r, p, q, nd => by
    rw [List.map_cons, List.nodup_cons] at nd
    unfold dropM
    by_cases h : e.1 = p
    · rw [if_pos h]
      by_cases hq : q = p
      · rw [if_pos hq, hq]
        exact look_none.mpr (h ▸ nd.1)
      · rw [if_neg hq]
        conv => rhs; unfold look
        rw [if_neg (fun z => hq (z.symm.trans h))]
    · rw [if_neg h]
      unfold look
      by_cases he : e.1 = q
      · rw [if_pos he, if_pos he, if_neg (fun z => h (he.trans z))]
      · rw [if_neg he, if_neg he, look_drop p q nd.2]
theorem keys_drop : ∀ {m : CM} {p q : Pt}, q ∈ (dropM m p).map (·.1) → q ∈ m.map (·.1)
  | e :: r, p, q, h => by
    unfold dropM at h
    by_cases z : e.1 = p
    · rw [if_pos z] at h
      exact List.mem_cons_of_mem _ h
    · rw [if_neg z] at h
      rcases List.mem_cons.mp h with e2 | h
      · exact List.mem_cons.mpr (.inl e2)
      · exact List.mem_cons_of_mem _ (keys_drop h)
theorem nd_drop : ∀ {m : CM} (p : Pt), (m.map (·.1)).Nodup → ((dropM m p).map (·.1)).Nodup
  | [], p, _ => List.nodup_nil
  | e :: r, p, nd => by
    rw [List.map_cons, List.nodup_cons] at nd
    unfold dropM
    by_cases h : e.1 = p
    · rw [if_pos h]
      exact nd.2
    · rw [if_neg h, List.map_cons, List.nodup_cons]
      exact ⟨fun z => nd.1 (keys_drop z), nd_drop p nd.2⟩
theorem len_drop : ∀ (m : CM) (p : Pt), (dropM m p).length ≤ m.length
  | [], _ => Nat.le_refl _
  | e :: r, p => by
    unfold dropM
    have := len_drop r p
    split <;> simp only [List.length_cons] <;> omega
theorem cell_len (m : CM) : (cellK m).length = m.length := List.length_map _
theorem cell_val : ∀ (m : CM) (p : Pt), valV (cellK m) (ptK p) = (look m p).map V.int
  | [], _ => rfl
  | e :: r, p => by
    unfold look
    by_cases h : e.1 = p
    · rw [if_pos h]
      exact valV_pos (p := (ptK e.1, V.int e.2)) (congrArg ptK h)
    · rw [if_neg h]
      exact (valV_neg (p := (ptK e.1, V.int e.2)) (fun z => h (ptK_inj z))).trans (cell_val r p)
theorem cell_map (p : Pt) (c : Int) : ∀ (m : CM), (m.map (·.1)).Nodup → p ∈ m.map (·.1) → (cellK m).map (fun kv => if kv.1 = ptK p then (kv.1, V.int c) else kv) = cellK (putM m p c)
  | [], _, h => nomatch h
  | e :: r, nd, h => by
    rw [List.map_cons, List.nodup_cons] at nd
    show (if ptK e.1 = ptK p then (ptK e.1, V.int c) else (ptK e.1, V.int e.2)) :: (cellK r).map _ = _
    unfold putM
    by_cases q : e.1 = p
    · rw [if_pos q, if_pos (congrArg ptK q)]
      have nin : p ∉ r.map (·.1) := q ▸ nd.1
      have same : (cellK r).map (fun kv => if kv.1 = ptK p then (kv.1, V.int c) else kv) = cellK r := by
        unfold cellK
        rw [List.map_map]
        refine List.map_congr_left fun y hy => ?_
        show (if ptK y.1 = ptK p then _ else _) = _
        rw [if_neg (fun z => nin (by rw [← ptK_inj z]; exact List.mem_map.mpr ⟨y, hy, rfl⟩))]
      rw [same]
      rfl
    · rw [if_neg q, if_neg (fun z => q (ptK_inj z))]
      rcases List.mem_cons.mp (show p ∈ e.1 :: r.map (·.1) from h) with z | z
      · exact absurd z.symm q
      · rw [cell_map p c r nd.2 z]
        rfl
theorem cell_new (p : Pt) (c : Int) : ∀ (m : CM), p ∉ m.map (·.1) → cellK m ++ [(ptK p, V.int c)] = cellK (putM m p c)
  | [], _ => rfl
  | e :: r, h => by
    unfold putM
    rw [if_neg (fun z => h (List.mem_cons.mpr (.inl z.symm)))]
    show (ptK e.1, V.int e.2) :: (cellK r ++ _) = (ptK e.1, V.int e.2) :: cellK (putM r p c)
    rw [cell_new p c r fun z => h (List.mem_cons_of_mem _ z)]
theorem cell_put {m : CM} (p : Pt) (c : Int) (nd : (m.map (·.1)).Nodup) : putK (cellK m) (ptK p) (.int c) = cellK (putM m p c) := by
  unfold putK
  rw [valV_any, cell_val]
  cases e : look m p with
  | none => exact cell_new p c m (look_none.mp e)
  | some x =>
    refine cell_map p c m nd (Classical.byContradiction fun n => ?_)
    rw [look_none.mpr n] at e
    cases e
theorem cell_drop (p : Pt) : ∀ (m : CM), (m.map (·.1)).Nodup → dropK (cellK m) (ptK p) = cellK (dropM m p)
  | [], _ => rfl
  | e :: r, nd => by
    rw [List.map_cons, List.nodup_cons] at nd
    unfold dropM
    show dropK ((ptK e.1, V.int e.2) :: cellK r) (ptK p) = _
    by_cases h : e.1 = p
    · rw [if_pos h, dropK_pos (congrArg ptK h)]
      refine dropK_no fun z => ?_
      obtain ⟨y, hy, ey⟩ := List.mem_map.mp z
      obtain ⟨w, hw, rfl⟩ := List.mem_map.mp hy
      have nin : p ∉ r.map (·.1) := h ▸ nd.1
      have ew : w.1 = p := ptK_inj ey
      exact nin (by rw [← ew]; exact List.mem_map.mpr ⟨w, hw, rfl⟩)
    · rw [if_neg h, dropK_neg (fun z => h (ptK_inj z)), cell_drop p r nd.2]
      rfl
/-! ### floors -/
abbrev Sq := Int × Int × Int
def Sq.pt (s : Sq) : Pt := (s.1, s.2.1)
def sqD (s : Sq) : PyData := .tuple [.int s.1, .int s.2.1, .int s.2.2]
def floorD (F : List Sq) : PyData := .tuple (F.map sqD)
def ltP (p q : Pt) : Prop := p.1 < q.1 ∨ (p.1 = q.1 ∧ p.2 < q.2)
theorem ltP_irr (p : Pt) : ¬ ltP p p := fun h => by
  rcases h with h | h <;> omega
theorem ltP_tr {p q r : Pt} (a : ltP p q) (b : ltP q r) : ltP p r := by
  unfold ltP at *
  omega
theorem ltP_tot {p q : Pt} (h : p ≠ q) : ltP p q ∨ ltP q p := by
  by_cases e1 : p.1 = q.1
  · have e2 : p.2 ≠ q.2 := fun e2 => h (Prod.ext e1 e2)
    unfold ltP
    omega
  · unfold ltP
    omega
/-- the floor that is painted so, its squares in their order -/
structure FloorOf (f : Pt → Int) (F : List Sq) : Prop where
  asc : F.Pairwise fun a b => ltP a.pt b.pt
  mem : ∀ s : Sq, s ∈ F ↔ s.2.2 = f s.pt ∧ s.2.2 ≠ 0
theorem asc_eq : ∀ {F G : List Sq}, (F.Pairwise fun a b => ltP a.pt b.pt) → (G.Pairwise fun a b => ltP a.pt b.pt) → (∀ s, s ∈ F ↔ s ∈ G) → F = G
  | [], [], _, _, _ => rfl
  | [], b :: G, _, _, h => nomatch (h b).mpr List.mem_cons_self
  | a :: F, [], _, _, h => nomatch (h a).mp List.mem_cons_self
  | a :: F, b :: G, hF, hG, h => by
    obtain ⟨a1, a2⟩ := List.pairwise_cons.mp hF
    obtain ⟨b1, b2⟩ := List.pairwise_cons.mp hG
    have e : a = b := by
      rcases List.mem_cons.mp ((h a).mp List.mem_cons_self) with e | ha
      · exact e
      · rcases List.mem_cons.mp ((h b).mpr List.mem_cons_self) with e | hb
        · exact e.symm
        · exact absurd (ltP_tr (b1 a ha) (a1 b hb)) (ltP_irr _)
    subst e
    refine congrArg (a :: ·) (asc_eq a2 b2 fun s => ⟨fun hs => ?_, fun hs => ?_⟩)
    · rcases List.mem_cons.mp ((h s).mp (List.mem_cons_of_mem _ hs)) with e | k
      · exact absurd (e ▸ a1 s hs) (ltP_irr _)
      · exact k
    · rcases List.mem_cons.mp ((h s).mpr (List.mem_cons_of_mem _ hs)) with e | k
      · exact absurd (e ▸ b1 s hs) (ltP_irr _)
      · exact k
theorem FloorOf.uniq {f : Pt → Int} {F G : List Sq} (a : FloorOf f F) (b : FloorOf f G) : F = G := asc_eq a.asc b.asc fun s => (a.mem s).trans (b.mem s).symm
/-- the cells of a floor -/
def cellsOf (F : List Sq) : CM := F.map fun s => (s.pt, s.2.2)
theorem asc_nd {F : List Sq} (h : F.Pairwise fun a b => ltP a.pt b.pt) : ((cellsOf F).map (·.1)).Nodup := by
  unfold cellsOf
  rw [List.map_map, List.Nodup, List.pairwise_map]
  refine h.imp fun {a b} l => ?_
  intro (e : a.pt = b.pt)
  rw [← e] at l
  exact ltP_irr _ l
def colF (F : List Sq) (p : Pt) : Int := col (cellsOf F) p
theorem colF_of {F : List Sq} (asc : F.Pairwise fun a b => ltP a.pt b.pt) (nz : ∀ s ∈ F, s.2.2 ≠ 0) : FloorOf (colF F) F := by
  refine ⟨asc, fun s => ⟨fun h => ⟨?_, nz s h⟩, fun h => ?_⟩⟩
  · have e := mem_look (asc_nd asc) (show (s.pt, s.2.2) ∈ cellsOf F from List.mem_map.mpr ⟨s, h, rfl⟩)
    unfold colF col
    rw [e]
    rfl
  · obtain ⟨h1, h2⟩ := h
    unfold colF col at h1
    cases e : look (cellsOf F) s.pt with
    | none =>
      rw [e] at h1
      exact absurd h1 h2
    | some c =>
      rw [e] at h1
      obtain ⟨t, ht, et⟩ := List.mem_map.mp (look_mem e)
      have e1 : t.pt = s.pt := congrArg Prod.fst et
      have e2 : t.2.2 = c := congrArg Prod.snd et
      have e3 : t = s := by
        obtain ⟨x, y, z⟩ := t
        obtain ⟨x', y', z'⟩ := s
        have q1 : x = x' := congrArg Prod.fst e1
        have q2 : y = y' := congrArg Prod.snd e1
        have q3 : z = c := e2
        have q4 : z' = c := h1
        rw [q1, q2, q3, q4]
      exact e3 ▸ ht
theorem FloorOf.col {f : Pt → Int} {F : List Sq} (h : FloorOf f F) : colF F = f := by
  funext p
  have g := colF_of h.asc fun s hs => ((h.mem s).mp hs).2
  by_cases z : f p = 0
  · by_cases y : colF F p = 0
    · rw [y, z]
    · have m := (g.mem (p.1, p.2, colF F p)).mpr ⟨rfl, y⟩
      have q := ((h.mem _).mp m).1
      exact q
  · have m := (h.mem (p.1, p.2, f p)).mpr ⟨rfl, z⟩
    exact (((g.mem _).mp m).1).symm
local macro_rules | `(tactic| walk_at "cl") => `(tactic| first | assumption | omega | exact rfl | exact SqL.of (by assumption) | exact SqT.of (by assumption) | exact SqL.of upd_same | exact SqT.of upd_same | exact upd_same | exact tyx_tup (by assumption) | exact TyX.base (.int _) | exact TyX.base (.str _) | exact TyX.base .non | exact TyX.base (.bl _) | exact tyx_lst (by first | assumption | exact SqL.of (by assumption)) | exact at0 | exact at1 | exact at2 | exact at3 | exact ⟨_, by assumption⟩ | exact ⟨_, rfl⟩ | exact ⟨_, SqL.of (by assumption)⟩ | exact ⟨_, SqL.of upd_same⟩ | exact ⟨_, SqT.of (by assumption)⟩ | exact Nat.le_of_ble_eq_true rfl | exact Or.inl ⟨rfl, _, SqL.of (by assumption)⟩ | exact Or.inl ⟨rfl, _, SqL.of upd_same⟩ | exact Dp.non | exact Dp.int _ | exact Dp.bl _ | exact Dp.str _ | exact True.intro | solve_by_elim | decide)
local macro_rules | `(tactic| walk_at "lp") => `(tactic| (fail_if_success refine Exists.intro (w := (fun (_ : Nat) (_ : Nat) (_ : L2.St) (_ : Hp) => True)) ?_); (fail_if_success refine Exists.intro (w := (fun (_ : Nat) (_ : L2.St) (_ : Hp) => True)) ?_); (fail_if_success refine Exists.intro (w := (fun (_ : Nat) (_ : Nat) (_ : Hp) => True)) ?_))
local macro_rules | `(tactic| walk_at "st") => `(tactic| repeat (first | (apply And.intro; (· walk_at "cl")) | (walk_at "lp"; apply Exists.intro)))
local macro_rules | `(tactic| walk_at "cl") => `(tactic| first | exact sl32 | exact sl42)
def topS (i : Nat) : Stmt := PySem.Challenge.pw_streetpapers_k01_whole_floors.main.body.getD i (.Pass ⟨0, 0, 0, 0⟩)
abbrev s_is_whole : Stmt := topS 10
theorem sc_is_whole : FnScope ["value", "least", "greatest"] ["value", "least", "greatest"] (defScope s_is_whole) := ⟨rfl, rfl, rfl, by decide +kernel, rfl, by decide +kernel, by decide +kernel⟩
abbrev s_is_place : Stmt := topS 11
theorem sc_is_place : FnScope ["value"] ["value"] (defScope s_is_place) := ⟨rfl, rfl, rfl, by decide +kernel, rfl, by decide +kernel, by decide +kernel⟩
abbrev s_check_number : Stmt := topS 12
theorem sc_check_number : FnScope ["value", "least", "greatest"] ["value", "least", "greatest"] (defScope s_check_number) := ⟨rfl, rfl, rfl, by decide +kernel, rfl, by decide +kernel, by decide +kernel⟩
abbrev s_check_place : Stmt := topS 13
theorem sc_check_place : FnScope ["value"] ["value"] (defScope s_check_place) := ⟨rfl, rfl, rfl, by decide +kernel, rfl, by decide +kernel, by decide +kernel⟩
abbrev s_check_text : Stmt := topS 14
theorem sc_check_text : FnScope ["value"] ["value"] (defScope s_check_text) := ⟨rfl, rfl, rfl, by decide +kernel, rfl, by decide +kernel, by decide +kernel⟩
abbrev s_moved : Stmt := topS 23
theorem sc_moved : FnScope ["floor", "move"] ["floor", "move"] (defScope s_moved) := ⟨rfl, rfl, rfl, by decide +kernel, rfl, by decide +kernel, by decide +kernel⟩
abbrev s_turned : Stmt := topS 24
theorem sc_turned : FnScope ["floor", "quarters", "squares", "_", "x", "y", "colour"] ["floor", "quarters"] (defScope s_turned) := ⟨rfl, rfl, rfl, by decide +kernel, rfl, by decide +kernel, by decide +kernel⟩
abbrev s_box : Stmt := topS 25
theorem sc_box : FnScope ["floor", "square"] ["floor"] (defScope s_box) := ⟨rfl, rfl, rfl, by decide +kernel, rfl, by decide +kernel, by decide +kernel⟩
abbrev s_write_floor : Stmt := topS 26
theorem sc_write_floor : FnScope ["floor", "edges", "left", "top", "right", "bottom", "rows", "x", "y", "colour", "_", "row"] ["floor"] (defScope s_write_floor) := ⟨rfl, rfl, rfl, by decide +kernel, rfl, by decide +kernel, by decide +kernel⟩
abbrev s_read_floor : Stmt := topS 27
theorem sc_read_floor : FnScope ["text", "squares", "x", "y", "at", "sign_at", "many", "taken"] ["text"] (defScope s_read_floor) := ⟨rfl, rfl, rfl, by decide +kernel, rfl, by decide +kernel, by decide +kernel⟩
abbrev s_check_floor : Stmt := topS 28
theorem sc_check_floor : FnScope ["value", "colours", "index", "square"] ["value", "colours"] (defScope s_check_floor) := ⟨rfl, rfl, rfl, by decide +kernel, rfl, by decide +kernel, by decide +kernel⟩
abbrev s_box_of : Stmt := topS 29
theorem sc_box_of : FnScope ["places", "xs", "ys", "x", "_", "y"] ["places"] (defScope s_box_of) := ⟨rfl, rfl, rfl, by decide +kernel, rfl, by decide +kernel, by decide +kernel⟩
abbrev s_u_moved_by : Stmt := topS 30
theorem sc_u_moved_by : FnScope ["floor", "dx", "dy", "x", "y", "colour"] ["floor", "dx", "dy"] (defScope s_u_moved_by) := ⟨rfl, rfl, rfl, by decide +kernel, rfl, by decide +kernel, by decide +kernel⟩
abbrev s_u_is_square : Stmt := topS 31
theorem sc_u_is_square : FnScope ["value", "colours"] ["value", "colours"] (defScope s_u_is_square) := ⟨rfl, rfl, rfl, by decide +kernel, rfl, by decide +kernel, by decide +kernel⟩
abbrev s_u_row_text : Stmt := topS 32
theorem sc_u_row_text : FnScope ["row", "runs", "end", "x", "colour", "many", "sign"] ["row"] (defScope s_u_row_text) := ⟨rfl, rfl, rfl, by decide +kernel, rfl, by decide +kernel, by decide +kernel⟩
abbrev s_u_behind_figures : Stmt := topS 33
theorem sc_u_behind_figures : FnScope ["text", "at"] ["text", "at"] (defScope s_u_behind_figures) := ⟨rfl, rfl, rfl, by decide +kernel, rfl, by decide +kernel, by decide +kernel⟩
abbrev s_u_run_length : Stmt := topS 34
theorem sc_u_run_length : FnScope ["text", "at", "sign_at"] ["text", "at", "sign_at"] (defScope s_u_run_length) := ⟨rfl, rfl, rfl, by decide +kernel, rfl, by decide +kernel, by decide +kernel⟩
abbrev s_u_run_squares : Stmt := topS 35
theorem sc_u_run_squares : FnScope ["x", "y", "sign", "many", "k"] ["x", "y", "sign", "many"] (defScope s_u_run_squares) := ⟨rfl, rfl, rfl, by decide +kernel, rfl, by decide +kernel, by decide +kernel⟩
abbrev s_law_taken : Stmt := topS 37
theorem sc_law_taken : FnScope ["row", "many", "found", "cell"] ["row", "many"] (defScope s_law_taken) := ⟨rfl, rfl, rfl, by decide +kernel, rfl, by decide +kernel, by decide +kernel⟩
abbrev s_law_signed : Stmt := topS 38
theorem sc_law_signed : FnScope ["row", "most"] ["row", "most"] (defScope s_law_signed) := ⟨rfl, rfl, rfl, by decide +kernel, rfl, by decide +kernel, by decide +kernel⟩
abbrev s_law_some_floor : Stmt := topS 39
theorem sc_law_some_floor : FnScope ["row", "colours", "most", "cells", "turn", "place"] ["row", "colours", "most"] (defScope s_law_some_floor) := ⟨rfl, rfl, rfl, by decide +kernel, rfl, by decide +kernel, by decide +kernel⟩
abbrev s_law_alike : Stmt := topS 40
theorem sc_law_alike : FnScope ["found", "due", "k"] ["found", "due"] (defScope s_law_alike) := ⟨rfl, rfl, rfl, by decide +kernel, rfl, by decide +kernel, by decide +kernel⟩
abbrev s_law_runs : Stmt := topS 41
theorem sc_law_runs : FnScope ["signs", "found", "at", "many"] ["signs"] (defScope s_law_runs) := ⟨rfl, rfl, rfl, by decide +kernel, rfl, by decide +kernel, by decide +kernel⟩
abbrev s_law : Stmt := topS 42
theorem sc_law : FnScope ["script", "row", "floor", "move", "far", "quarters", "places", "columns", "lines", "ends", "due", "text", "rows", "y", "there", "some", "place", "told", "error", "wide", "x", "colour", "square", "signs"] ["script"] (defScope s_law) := ⟨rfl, rfl, rfl, by decide +kernel, rfl, by decide +kernel, by decide +kernel⟩
abbrev s_BadFloor_init : Stmt := inClass (topS 2) 0
theorem sc_BadFloor_init : FnScope ["self", "index"] ["self", "index"] (defScope s_BadFloor_init) := ⟨rfl, rfl, rfl, by decide +kernel, rfl, by decide +kernel, by decide +kernel⟩
abbrev s_InvalidText_init : Stmt := inClass (topS 6) 0
theorem sc_InvalidText_init : FnScope ["self", "place"] ["self", "place"] (defScope s_InvalidText_init) := ⟨rfl, rfl, rfl, by decide +kernel, rfl, by decide +kernel, by decide +kernel⟩
abbrev s_TooMany_init : Stmt := inClass (topS 7) 0
theorem sc_TooMany_init : FnScope ["self", "most"] ["self", "most"] (defScope s_TooMany_init) := ⟨rfl, rfl, rfl, by decide +kernel, rfl, by decide +kernel, by decide +kernel⟩
/-- what the top has left of built-in names and constants -/
structure Txt (K : PySem.W.Frag) (mg : Str → Option Value) : Prop where
  m_ValueError : mg "ValueError" = none
  m_bool : mg "bool" = none
  m_dict : mg "dict" = none
  m_enumerate : mg "enumerate" = none
  m_int : mg "int" = none
  m_isinstance : mg "isinstance" = none
  m_len : mg "len" = none
  m_list : mg "list" = none
  m_max : mg "max" = none
  m_min : mg "min" = none
  m_range : mg "range" = none
  m_sorted : mg "sorted" = none
  m_str : mg "str" = none
  m_tuple : mg "tuple" = none
  far : ∃ t, mg "FAR" = some (.int 1000000000000000000000000000000000000000000000000000000000000 t)
  most_colours : ∃ t, mg "MOST_COLOURS" = some (.int 6 t)
  figures : ∃ t, mg "FIGURES" = some (.str "0123456789" t)
  most_squares : ∃ t, mg "MOST_SQUARES" = some (.int 4000 t)
  longest_side : ∃ t, mg "LONGEST_SIDE" = some (.int 9999 t)
  most_rows : ∃ t, mg "MOST_ROWS" = some (.int 10000 t)
  most_figures : ∃ t, mg "MOST_FIGURES" = some (.int 4 t)
  signs : ∃ t, mg "SIGNS" = some (.str ".abcde" t)
section
variable {P : Program} {w : World} {K : PySem.W.Frag} {mg : Str → Option Value} {base : Heap}
theorem ok_law_taken (T : Txt K mg) (D : DefAt K mg "_law_taken" s_law_taken ["row", "many"]) : Cal P w K mg base CX0 "_law_taken" 1 ["row", "many"] (spTaken K) := by
  refine D.cal sc_law_taken (fun vs H Q E h => ?_) (fun f cdv A outer s H vs Q E hr h => ?_)
  · obtain ⟨r, many, rfl, _⟩ := h
    rfl
  · obtain ⟨r, many, rfl, ⟨t, ns, i, m, c, hrow, hS, hi, hm0, hm1, hc⟩, hp, hb, q⟩ := h
    refine ⟨_, (pss_cons (ps_if (pt_cmpR op_gt (pe_ix (k_ix_list (K := K)) (pv 0) pe_int (fun _ _ => rfl)) pe_int (nomark _)) (pss_cons (ps_set (i := 2) sc_law_taken.nd rfl (Or.inl rfl) (pe_op op_mod (pe_callTy call_int_i (by rfl) T.m_int (by decide +kernel) (pa_cons (pe_ix (k_ix_list (K := K)) (pv 0) pe_int (fun _ _ => rfl)) pa_nil)) (pv 1)))
      (pss_cons (ps_asg (pe_op op_fdivW (pe_ix (k_ix_list (K := K)) (pv 0) pe_int (fun _ _ => rfl)) (pv 1)) (pg_sub (pv 0) pe_int set_list))
      (pss_one (ps_ret (pv 2))))) pss_nil)
      (pss_cons (ps_asg (pe_op op_add (pe_ix (k_ix_list (K := K)) (pv 0) pe_int (fun _ _ => rfl)) pe_int) (pg_sub (pv 0) pe_int set_list))
      (pss_cons (ps_if (pt_cmpR op_gt (pe_ix (k_ix_list (K := K)) (pv 0) pe_int (fun _ _ => rfl)) (pe_callB (k_len_l (K := K)) (by rfl) T.m_len (by decide +kernel) (pa_cons (pe_ix (k_ix_list (K := K)) (pv 0) pe_int (fun _ _ => rfl)) pa_nil)) (nomark _)) (pss_cons (ps_asg (pe_op op_mod (pe_callTy call_int_i (by rfl) T.m_int (by decide +kernel) (pa_cons (pe_op op_add (pe_op op_mul (pe_ix (k_ix_list (K := K)) (pv 0) pe_int (fun _ _ => rfl)) pe_int) pe_int) pa_nil)) pe_int) (pg_sub (pv 0) pe_int set_list))
      (pss_one (ps_ret (pe_op op_mod (pe_callTy call_int_i (by rfl) T.m_int (by decide +kernel) (pa_cons (pe_op op_fdivW (pe_ix (k_ix_list (K := K)) (pv 0) pe_int (fun _ _ => rfl)) pe_int) pa_nil)) (pv 1))))) pss_nil)
      (pss_cons (ps_set (i := 3) sc_law_taken.nd rfl (Or.inl rfl) (pe_ix (k_ix_list (K := K)) (pe_ix (k_ix_list (K := K)) (pv 0) pe_int (fun _ _ => rfl)) (pe_op op_sub (pe_ix (k_ix_list (K := K)) (pv 0) pe_int (fun _ _ => rfl)) pe_int) (fun _ _ => rfl)))
      (pss_cons (ps_asg (pe_op op_mod (pe_callTy call_int_i (by rfl) T.m_int (by decide +kernel) (pa_cons (pe_op op_add (pe_op op_add (pe_op op_mul (pe_ix (k_ix_list (K := K)) (pv 0) pe_int (fun _ _ => rfl)) pe_int) (pv 3)) pe_int) pa_nil)) pe_int) (pg_sub (pv 0) pe_int set_list))
      (pss_cons (ps_if (pt_cmpR op_ge (pv 3) (pe_op op_pow pe_int pe_int) (nomark _)) (pss_one (ps_asg (pe_op op_fdivW (pv 3) (pv 1)) (pg_sub (pv 0) pe_int set_list))) pss_nil)
      (pss_one (ps_ret (pe_op op_mod (pe_callTy call_int_i (by rfl) T.m_int (by decide +kernel) (pa_cons (pv 3) pa_nil)) (pv 1)))))))))), ?_⟩
    have hdiv : ∀ c, CDivW c many := fun c => wide_div hp (show many.natAbs < 2 ^ 250 by omega) (by decide) (by decide)
    have hdiv7 : ∀ c, CDivW c 7 := fun c => ⟨by decide, by decide⟩
    have hmul : ∀ c, CMul c 48271 := fun c => .inr ⟨by decide, by decide⟩
    have hpow : CPow 10 18 := ⟨by decide, by decide, by decide⟩
    have hk : ∀ o, KeepB r H (upd H r o) := fun o => KeepB.put
    have hs := hS.sq
    have hS1 : ∀ o, Scr K (upd H r o) t ns := fun o => hS.mono (TK.lst hrow)
    have hs1 : ∀ o, SqL K (upd H r o) t (ns.map V.int) := fun o => (hS1 o).sq
    have hs2 : ∀ o o', SqL K (upd (upd H r o) r o') t (ns.map V.int) := fun o o' => by rw [upd_upd]; exact hs1 _
    have hmod : ∀ x : Int, 0 ≤ x % 2147483647 ∧ x % 2147483647 < 2147483647 := fun x => ⟨Int.emod_nonneg _ (by decide), Int.emod_lt_of_pos _ (by decide)⟩
    have fin : ∀ (x i' m' c' : Int), 0 ≤ i' → 0 ≤ m' → m' < 2147483647 → 0 ≤ c' → Q (.int (x % many)) (upd H r (.lst [.ref t, .int i', .int m', .int c'])) := fun x i' m' c' h1 h2 h3 h4 =>
      q _ _ (Int.emod_nonneg _ (by omega)) (Int.emod_lt_of_pos _ hp) ⟨t, ns, i', m', c', upd_same, hS1 _, h1, h2, h3, h4⟩ (hk _)
    walk_at "st"
    refine ite2 (fun e => ?_) (fun e => ?_)
    · have e := of_decide_eq_true e
      walk_at "st"
      exact fin c i m (c / many) hi hm0 hm1 (Int.ediv_nonneg hc (by omega))
    · walk_at "st"
      refine ite2 (fun e => ?_) (fun e => ?_)
      · walk_at "st"
        simp only [upd_upd]
        exact fin _ (i + 1) _ c (by omega) (hmod _).1 (hmod _).2 hc
      · have e2 : ¬ ((i + 1 : Int) > ((ns.map V.int).length : Int)) := fun z => e (decide_eq_true z)
        rw [List.length_map] at e2
        have hat : ∃ z, atI (ns.map V.int) (i + 1 - 1) = some (.int z) := by
          obtain ⟨j, rfl⟩ : ∃ j : Nat, i = (j : Int) := ⟨i.toNat, by omega⟩
          have hj : j < ns.length := by omega
          refine ⟨ns[j], ?_⟩
          rw [show ((j : Int) + 1 - 1) = (j : Int) by omega]
          exact atI_nat (by rw [List.getElem?_map, List.getElem?_eq_getElem hj]; rfl)
        obtain ⟨z, hat⟩ := hat
        walk_at "st"
        refine ite2 (fun e => ?_) (fun e => ?_)
        · have e := of_decide_eq_true e
          walk_at "st"
          simp only [upd_upd]
          have hz : (0 : Int) ≤ z := Int.le_trans (by decide) e
          exact fin _ (i + 1) _ _ (by omega) (hmod _).1 (hmod _).2 (Int.ediv_nonneg hz (by omega))
        · walk_at "st"
          simp only [upd_upd]
          exact fin _ (i + 1) _ c (by omega) (hmod _).1 (hmod _).2 hc
end

/-! ### tables -/
abbrev Ent := Option (Int × Int × Int)
def entD : Ent → PyData
  | none => .none
  | some e => .tuple [.int e.1, .int e.2.1, .int e.2.2]
def rowD (r : List Ent) : PyData := .tuple (r.map entD)
def tabD (T : List (List Ent)) : PyData := .tuple (T.map rowD)
def EntOk (c n : Int) : Ent → Prop
  | none => True
  | some e => (0 ≤ e.1 ∧ e.1 < c) ∧ (0 ≤ e.2.1 ∧ e.2.1 < 4) ∧ (0 ≤ e.2.2 ∧ e.2.2 < n)
def TabOk (c n : Nat) (T : List (List Ent)) : Prop := T.length = n ∧ ∀ r ∈ T, r.length = c ∧ ∀ e ∈ r, EntOk c n e
def spTable (K : PySem.W.Frag) : Sp := fun vs H Q _ => ∃ r : Addr, vs = [.ref r] ∧ Row K H r ∧
  ∀ (v : V) (H' : Hp) (c n : Nat) (T : List (List Ent)), 1 ≤ n → n ≤ 2 → 2 ≤ c → c ≤ 3 → TabOk c n T → Tp K H' v (tabD T) → Row K H' r → KeepB r H H' → Q v H'

/-! ### walks -/
/-- x, y, heading, state -/
abbrev Wk := Int × Int × Int × Int
def wkD (w : Wk) : PyData := .tuple [.int w.1, .int w.2.1, .int w.2.2.1, .int w.2.2.2]
def wPt (w : Wk) : Pt := (w.1, w.2.1)
def dxI (h : Int) : Int := if h = 1 then 1 else if h = 3 then -1 else 0
def dyI (h : Int) : Int := if h = 0 then -1 else if h = 2 then 1 else 0
def entAt (T : List (List Ent)) (s c : Int) : Ent := ((T[s.toNat]?).bind fun r => r[c.toNat]?).getD none
def dab (f : Pt → Int) (p : Pt) (c : Int) : Pt → Int := fun q => if q = p then c else f q
abbrev WSt := (Pt → Int) × Wk
def turnI (w : Wk) (t : Int) : Int := (w.2.2.1 + t) % 4
def behind (w : Wk) (e : Int × Int × Int) : Wk := (w.1 + dxI (turnI w e.2.1), w.2.1 + dyI (turnI w e.2.1), turnI w e.2.1, e.2.2)
def stepW (T : List (List Ent)) (z : WSt) : Option WSt := (entAt T z.2.2.2.2 (z.1 (wPt z.2))).map fun e => (dab z.1 (wPt z.2) e.1, behind z.2 e)
def runW (T : List (List Ent)) : Nat → WSt → Option WSt
  | 0, z => some z
  | n + 1, z => (runW T n z).bind (stepW T)
structure Ends (T : List (List Ent)) (z : WSt) (many i : Nat) (z' : WSt) : Prop where
  run : runW T i z = some z'
  le : i ≤ many
  stop : i = many ∨ stepW T z' = none
section
variable {T : List (List Ent)}
theorem runW_none {z : WSt} {i : Nat} (h : runW T i z = none) : ∀ k, runW T (i + k) z = none
  | 0 => h
  | k + 1 => by
    show (runW T (i + k) z).bind (stepW T) = none
    rw [runW_none h k]
    rfl
theorem runW_add (z : WSt) (i : Nat) : ∀ j, runW T (i + j) z = (runW T i z).bind (runW T j)
  | 0 => by
    show runW T i z = (runW T i z).bind some
    cases runW T i z <;> rfl
  | j + 1 => by
    show (runW T (i + j) z).bind (stepW T) = _
    rw [runW_add z i j]
    cases runW T i z <;> rfl
theorem Ends.stuck {z z' : WSt} {many i j : Nat} (h : Ends T z many i z') (l : i < j) (m : j ≤ many) : runW T j z = none := by
  have st : stepW T z' = none := h.stop.resolve_left (by omega)
  have n : runW T (i + 1) z = none := by
    show (runW T i z).bind (stepW T) = none
    rw [h.run]
    exact st
  have q := runW_none n (j - (i + 1))
  rw [show i + 1 + (j - (i + 1)) = j by omega] at q
  exact q
theorem Ends.uniq {z z1 z2 : WSt} {many i j : Nat} (a : Ends T z many i z1) (b : Ends T z many j z2) : i = j ∧ z1 = z2 := by
  have e : i = j := by
    rcases Nat.lt_trichotomy i j with l | l | l
    · have q := a.stuck l b.le
      rw [b.run] at q
      cases q
    · exact l
    · have q := b.stuck l a.le
      rw [a.run] at q
      cases q
  subst e
  have q := a.run
  rw [b.run] at q
  exact ⟨rfl, (Option.some.inj q).symm⟩
theorem Ends.two {z z1 z2 : WSt} {many more i j : Nat} (a : Ends T z many i z1) (b : Ends T z1 more j z2) : Ends T z (many + more) (i + j) z2 := by
  refine ⟨?_, Nat.add_le_add a.le b.le, ?_⟩
  · rw [runW_add, a.run]
    exact b.run
  · rcases a.stop with e | st
    · exact b.stop.imp (fun e2 => by rw [e, e2]) id
    · have ej : j = 0 := by
        rcases Nat.eq_zero_or_pos j with q | q
        · exact q
        · have n : runW T (0 + 1) z1 = none := st
          have r := runW_none n (j - 1)
          rw [show 0 + 1 + (j - 1) = j by omega, b.run] at r
          cases r
      subst ej
      have e2 : z1 = z2 := Option.some.inj b.run
      exact .inr (e2 ▸ st)
/-- what goes with every step goes with the walk -/
theorem runW_map {φ : WSt → WSt} (h : ∀ z, stepW T (φ z) = (stepW T z).map φ) (z : WSt) : ∀ i, runW T i (φ z) = (runW T i z).map φ
  | 0 => rfl
  | i + 1 => by
    show (runW T i (φ z)).bind (stepW T) = ((runW T i z).bind (stepW T)).map φ
    rw [runW_map h z i]
    cases runW T i z with
    | none => rfl
    | some y => exact h y
theorem Ends.map {φ : WSt → WSt} (h : ∀ z, stepW T (φ z) = (stepW T z).map φ) {z z' : WSt} {many i : Nat} (a : Ends T z many i z') : Ends T (φ z) many i (φ z') := by
  refine ⟨?_, a.le, a.stop.imp id fun st => ?_⟩
  · rw [runW_map h, a.run]
    rfl
  · rw [h, st]
    rfl
/-! ### a quarter turn, a move -/
def rotP (p : Pt) : Pt := (-p.2, p.1)
def unrotP (p : Pt) : Pt := (p.2, -p.1)
theorem rot_iff {p q : Pt} : q = rotP p ↔ unrotP q = p := by
  obtain ⟨a, b⟩ := p
  obtain ⟨c, d⟩ := q
  unfold rotP unrotP
  constructor
  · intro h
    have h1 : c = -b := congrArg Prod.fst h
    have h2 : d = a := congrArg Prod.snd h
    rw [h1, h2, Int.neg_neg]
  · intro h
    have h1 : d = a := congrArg Prod.fst h
    have h2 : -c = b := congrArg Prod.snd h
    rw [← h1, ← h2, Int.neg_neg]
def rotZ (z : WSt) : WSt := (fun q => z.1 (unrotP q), (-z.2.2.1, z.2.1, (z.2.2.2.1 + 1) % 4, z.2.2.2.2))
theorem dab_rot (f : Pt → Int) (p : Pt) (c : Int) : dab (fun q => f (unrotP q)) (rotP p) c = fun q => dab f p c (unrotP q) := by
  funext q
  unfold dab
  by_cases h : q = rotP p
  · rw [if_pos h, if_pos (rot_iff.mp h)]
  · rw [if_neg h, if_neg (fun z => h (rot_iff.mpr z))]
theorem turn_ax {g : Int} (h0 : 0 ≤ g) (h1 : g < 4) : dxI ((g + 1) % 4) = -dyI g ∧ dyI ((g + 1) % 4) = dxI g := by
  obtain ⟨n, rfl⟩ := Int.eq_ofNat_of_zero_le h0
  have h : n = 0 ∨ n = 1 ∨ n = 2 ∨ n = 3 := by omega
  rcases h with rfl | rfl | rfl | rfl <;> decide
theorem behind_rot (f : Pt → Int) (w : Wk) (e : Int × Int × Int) : behind (rotZ (f, w)).2 e = (rotZ (f, behind w e)).2 := by
  have g0 : 0 ≤ turnI w e.2.1 := Int.emod_nonneg _ (by decide)
  have g1 : turnI w e.2.1 < 4 := Int.emod_lt_of_pos _ (by decide)
  have e1 : turnI (rotZ (f, w)).2 e.2.1 = (turnI w e.2.1 + 1) % 4 := by
    show ((w.2.2.1 + 1) % 4 + e.2.1) % 4 = ((w.2.2.1 + e.2.1) % 4 + 1) % 4
    omega
  obtain ⟨a1, a2⟩ := turn_ax g0 g1
  unfold behind
  rw [e1, a1, a2]
  show (-w.2.1 + -dyI (turnI w e.2.1), w.1 + dxI (turnI w e.2.1), _, _) = (-(w.2.1 + dyI (turnI w e.2.1)), w.1 + dxI (turnI w e.2.1), _, _)
  rw [Int.neg_add]
theorem step_rot (z : WSt) : stepW T (rotZ z) = (stepW T z).map rotZ := by
  obtain ⟨f, w⟩ := z
  have e : (rotZ (f, w)).1 (wPt (rotZ (f, w)).2) = f (wPt w) := by
    show f (unrotP (rotP (wPt w))) = f (wPt w)
    rw [rot_iff.mp rfl]
  show ((entAt T w.2.2.2 ((rotZ (f, w)).1 (wPt (rotZ (f, w)).2))).map _) = ((entAt T w.2.2.2 (f (wPt w))).map _).map rotZ
  rw [e]
  cases entAt T w.2.2.2 (f (wPt w)) with
  | none => rfl
  | some en =>
    show some (dab (fun q => f (unrotP q)) (rotP (wPt w)) en.1, behind (rotZ (f, w)).2 en) = some (rotZ (dab f (wPt w) en.1, behind w en))
    rw [dab_rot, behind_rot f w en]
    rfl
def shiftZ (m : Int) (z : WSt) : WSt := (fun q => z.1 (q.1 - m, q.2), (z.2.1 + m, z.2.2.1, z.2.2.2.1, z.2.2.2.2))
theorem step_shift (m : Int) (z : WSt) : stepW T (shiftZ m z) = (stepW T z).map (shiftZ m) := by
  obtain ⟨f, w⟩ := z
  have e : (shiftZ m (f, w)).1 (wPt (shiftZ m (f, w)).2) = f (wPt w) := by
    show f (w.1 + m - m, w.2.1) = f (wPt w)
    rw [show w.1 + m - m = w.1 by omega]
    rfl
  show ((entAt T w.2.2.2 ((shiftZ m (f, w)).1 (wPt (shiftZ m (f, w)).2))).map _) = ((entAt T w.2.2.2 (f (wPt w))).map _).map (shiftZ m)
  rw [e]
  cases entAt T w.2.2.2 (f (wPt w)) with
  | none => rfl
  | some en =>
    have e1 : dab (fun q : Pt => f (q.1 - m, q.2)) (w.1 + m, w.2.1) en.1 = fun q => dab f (wPt w) en.1 (q.1 - m, q.2) := by
      funext q
      obtain ⟨a, b⟩ := q
      unfold dab wPt
      by_cases h : (a, b) = (w.1 + m, w.2.1)
      · have h1 : a = w.1 + m := congrArg Prod.fst h
        have h2 : b = w.2.1 := congrArg Prod.snd h
        rw [if_pos h, if_pos (by rw [h1, h2, show w.1 + m - m = w.1 by omega])]
      · rw [if_neg h, if_neg (fun z => h ?_)]
        have h1 : a - m = w.1 := congrArg Prod.fst z
        have h2 : b = w.2.1 := congrArg Prod.snd z
        rw [← h1, ← h2, show a - m + m = a by omega]
    have e2 : behind (w.1 + m, w.2.1, w.2.2.1, w.2.2.2) en = ((behind w en).1 + m, (behind w en).2.1, (behind w en).2.2.1, (behind w en).2.2.2) := by
      show (w.1 + m + dxI (turnI w en.2.1), _, _, _) = (w.1 + dxI (turnI w en.2.1) + m, _, _, _)
      rw [Int.add_right_comm]
      rfl
    show some (dab (fun q : Pt => f (q.1 - m, q.2)) (w.1 + m, w.2.1) en.1, behind (w.1 + m, w.2.1, w.2.2.1, w.2.2.2) en) = some (shiftZ m (dab f (wPt w) en.1, behind w en))
    rw [e1, e2]
    rfl
/-! ### how far a walk comes -/
def InB (B : Int) (p : Pt) : Prop := (-B ≤ p.1 ∧ p.1 ≤ B) ∧ (-B ≤ p.2 ∧ p.2 ≤ B)
structure Fit (c n : Nat) (B : Int) (z : WSt) : Prop where
  cols : ∀ p, 0 ≤ z.1 p ∧ z.1 p < c
  near : ∀ p, z.1 p ≠ 0 → InB B p
  wk : InB B (wPt z.2)
  hd : 0 ≤ z.2.2.2.1 ∧ z.2.2.2.1 < 4
  st : 0 ≤ z.2.2.2.2 ∧ z.2.2.2.2 < n
theorem entAt_ok {c n : Nat} (ok : TabOk c n T) {s k : Int} (hs : 0 ≤ s ∧ s < n) (hk : 0 ≤ k ∧ k < c) : ∃ r, T[s.toNat]? = some r ∧ r.length = c ∧ r[k.toNat]? = some (entAt T s k) ∧ EntOk c n (entAt T s k) := by
  have l1 : s.toNat < T.length := by rw [ok.1]; omega
  have m1 : T[s.toNat] ∈ T := List.getElem_mem l1
  obtain ⟨r1, r2⟩ := ok.2 _ m1
  have l2 : k.toNat < (T[s.toNat]).length := by rw [r1]; omega
  have e : entAt T s k = (T[s.toNat])[k.toNat] := by
    unfold entAt
    rw [List.getElem?_eq_getElem l1]
    show (((T[s.toNat])[k.toNat]?).getD none) = _
    rw [List.getElem?_eq_getElem l2]
    rfl
  refine ⟨_, List.getElem?_eq_getElem l1, r1, ?_, ?_⟩
  · rw [e]
    exact List.getElem?_eq_getElem l2
  · rw [e]
    exact r2 _ (List.getElem_mem l2)
theorem InB.mono {B C : Int} {p : Pt} (h : InB B p) (l : B ≤ C) : InB C p := by
  unfold InB at *
  omega
theorem ahead1 (h : Int) : (-1 ≤ dxI h ∧ dxI h ≤ 1) ∧ (-1 ≤ dyI h ∧ dyI h ≤ 1) := by
  unfold dxI dyI
  constructor
  · split
    · omega
    · split <;> omega
  · split
    · omega
    · split <;> omega
theorem Fit.step {c n : Nat} {B : Int} {z z' : WSt} (ok : TabOk c n T) (g : Fit c n B z) (h : stepW T z = some z') : Fit c n (B + 1) z' := by
  obtain ⟨r, _, _, _, eo⟩ := entAt_ok ok g.st (g.cols (wPt z.2))
  unfold stepW at h
  generalize he : entAt T z.2.2.2.2 (z.1 (wPt z.2)) = en at h eo
  cases en with
  | none => cases h
  | some e =>
    obtain rfl := (Option.some.inj h).symm
    obtain ⟨o1, o2, o3⟩ := eo
    have w1 := g.wk
    obtain ⟨a1, a2⟩ := ahead1 (turnI z.2 e.2.1)
    refine ⟨fun p => ?_, fun p hp => ?_, ?_, ⟨Int.emod_nonneg _ (by decide), Int.emod_lt_of_pos _ (by decide)⟩, o3⟩
    · show 0 ≤ (if p = wPt z.2 then e.1 else z.1 p) ∧ (if p = wPt z.2 then e.1 else z.1 p) < c
      split
      · exact o1
      · exact g.cols p
    · have hp : (if p = wPt z.2 then e.1 else z.1 p) ≠ 0 := hp
      split at hp
      · rename_i q
        rw [q]
        exact w1.mono (by omega)
      · exact (g.near p hp).mono (by omega)
    · show InB (B + 1) (z.2.1 + dxI (turnI z.2 e.2.1), z.2.2.1 + dyI (turnI z.2 e.2.1))
      unfold InB wPt at *
      omega
theorem Fit.run {c n : Nat} {B : Int} {z : WSt} (ok : TabOk c n T) (g : Fit c n B z) : ∀ {i : Nat} {z' : WSt}, runW T i z = some z' → Fit c n (B + i) z'
  | 0, z', h => by
    obtain rfl := Option.some.inj h
    rw [show B + ((0 : Nat) : Int) = B by omega]
    exact g
  | i + 1, z', h => by
    have h : (runW T i z).bind (stepW T) = some z' := h
    cases e : runW T i z with
    | none =>
      rw [e] at h
      cases h
    | some y =>
      rw [e] at h
      have q := (g.run ok e).step ok h
      rw [show B + ((i + 1 : Nat) : Int) = B + (i : Int) + 1 by omega]
      exact q
end
/-! ### floors that may be handed in -/
structure FlOk (c : Nat) (B : Int) (F : List Sq) : Prop where
  asc : F.Pairwise fun a b => ltP a.pt b.pt
  sq : ∀ s ∈ F, InB B s.pt ∧ 1 ≤ s.2.2 ∧ s.2.2 < c
theorem FlOk.of {c n : Nat} {B : Int} {z : WSt} {F : List Sq} (g : Fit c n B z) (h : FloorOf z.1 F) : FlOk c B F := by
  refine ⟨h.asc, fun s hs => ?_⟩
  obtain ⟨e, nz⟩ := (h.mem s).mp hs
  have c1 := g.cols s.pt
  rw [e] at nz
  refine ⟨g.near _ nz, ?_, ?_⟩ <;> rw [e] <;> omega
theorem FlOk.fl {c : Nat} {B : Int} {F : List Sq} (h : FlOk c B F) : FloorOf (colF F) F := colF_of h.asc fun s hs => by
  have := (h.sq s hs).2
  omega
theorem FlOk.fit {c n : Nat} {B : Int} {F : List Sq} {w : Wk} (h : FlOk c B F) (hc : 1 ≤ c) (hw : InB B (wPt w)) (hh : 0 ≤ w.2.2.1 ∧ w.2.2.1 < 4) (hs : 0 ≤ w.2.2.2 ∧ w.2.2.2 < n) : Fit c n B (colF F, w) := by
  have f := h.fl
  have at_ : ∀ p, colF F p = 0 ∨ (p.1, p.2, colF F p) ∈ F := fun p => by
    by_cases z : colF F p = 0
    · exact .inl z
    · exact .inr ((f.mem (p.1, p.2, colF F p)).mpr ⟨rfl, z⟩)
  refine ⟨fun p => ?_, fun p hp => ?_, hw, hh, hs⟩
  · show 0 ≤ colF F p ∧ colF F p < c
    rcases at_ p with z | z
    · rw [z]
      omega
    · have q := (h.sq _ z).2
      have q1 : 1 ≤ colF F p ∧ colF F p < c := q
      omega
  · rcases at_ p with z | z
    · exact absurd z hp
    · exact (h.sq _ z).1

/-! ### lists -/
theorem nodup_at {α : Type} {l : List α} (nd : l.Nodup) {i j : Nat} {a : α} (h1 : l[i]? = some a) (h2 : l[j]? = some a) : i = j := by
  obtain ⟨l1, q1⟩ := List.getElem?_eq_some_iff.mp h1
  obtain ⟨l2, q2⟩ := List.getElem?_eq_some_iff.mp h2
  have p := List.pairwise_iff_getElem.mp nd
  rcases Nat.lt_trichotomy i j with z | z | z
  · exact absurd (q1.trans q2.symm) (p i j l1 l2 z)
  · exact z
  · exact absurd (q2.trans q1.symm) (p j i l2 l1 z)
theorem TpAll.set {K : PySem.W.Frag} {H : Hp} : ∀ {vs : List V} {ds : List PyData} {k : Nat} {v : V} {d : PyData}, TpAll K H vs ds → Tp K H v d → TpAll K H (vs.set k v) (ds.set k d)
  | [], [], _, _, _, h, _ => .nil
  | [], _ :: _, _, _, _, h, _ => nomatch h
  | _ :: _, [], _, _, _, h, _ => nomatch h
  | u :: us, e :: es, 0, v, d, h, g => by
    cases h with
    | cons h1 h2 => exact .cons g h2
  | u :: us, e :: es, k + 1, v, d, h, g => by
    cases h with
    | cons h1 h2 => exact .cons h1 (TpAll.set h2 g)
theorem ixN_of {n k : Nat} (h : k < n) : ixN n (0 + ((k : Nat) : Int)) = some k := by
  unfold ixN
  rw [if_pos (by omega), if_pos (by omega)]
  congr 1
  omega
theorem le_only {a b : Int} (h : a ≤ b) : a ≤ b := h
theorem lt_only {a b : Int} (h : a < b) : a < b := h
theorem getD_at {T : List (List Ent)} {s : Nat} {r : List Ent} (h : T[s]? = some r) : T.getD s [] = r := by
  rw [List.getD_eq_getElem?_getD, h]
  rfl
theorem entAt_at {T : List (List Ent)} {s k : Nat} {r : List Ent} {e : Ent} (h : T[s]? = some r) (h2 : r[k]? = some e) : entAt T s k = e := by
  unfold entAt
  rw [Int.toNat_natCast, Int.toNat_natCast, h]
  show (r[k]?).getD none = e
  rw [h2]
  rfl

theorem nodup_sub {α : Type} [DecidableEq α] : ∀ {A B : List α}, A.Nodup → (∀ x ∈ A, x ∈ B) → A.length ≤ B.length
  | [], B, _, _ => Nat.zero_le _
  | a :: r, B, nd, h => by
    have nd := List.nodup_cons.mp nd
    have hb : a ∈ B := h a List.mem_cons_self
    have q := nodup_sub (A := r) (B := B.erase a) nd.2 fun x hx => (List.mem_erase_of_ne fun z => nd.1 (by rw [← z]; exact hx)).mpr (h x (List.mem_cons_of_mem _ hx))
    have l := List.length_erase_of_mem hb
    have p : 0 < B.length := List.length_pos_of_mem hb
    show r.length + 1 ≤ _
    omega

-- imports KE.DataEq
/-! ### data of tuples and ints is equal to itself -/
def flatT : Nat → PyData → Prop
  | n + 1, .tuple ds => ∀ d ∈ ds, flatT n d
  | _ + 1, .int _ => True
  | _, _ => False
theorem layAll : ∀ {ds : List PyData}, (∀ d ∈ ds, d.canLay0 = true) → PyData.canLayAll0 ds = true
  | [], _ => by simp only [PyData.canLayAll0]
  | d :: ds, h => by
    simp only [PyData.canLayAll0, h d List.mem_cons_self, layAll fun y hy => h y (List.mem_cons_of_mem _ hy), Bool.and_self]
theorem depAll {n : Nat} : ∀ {ds : List PyData}, (∀ d ∈ ds, d.depth ≤ n) → PyData.depthAll ds ≤ n
  | [], _ => by simp [PyData.depthAll]
  | d :: ds, h => by
    have h1 := h d List.mem_cons_self
    have h2 := depAll fun y hy => h y (List.mem_cons_of_mem _ hy)
    simp only [PyData.depthAll]
    omega
theorem flatT.lay : ∀ {n : Nat} {d : PyData}, flatT n d → d.canLay0 = true ∧ d.depth ≤ n
  | 0, _, h => absurd h (by unfold flatT; simp)
  | n + 1, .tuple ds, h => by
    have h : ∀ d ∈ ds, flatT n d := h
    refine ⟨?_, ?_⟩
    · simp only [PyData.canLay0]
      exact layAll fun d hd => (flatT.lay (h d hd)).1
    · have := depAll fun d hd => (flatT.lay (h d hd)).2
      simp only [PyData.depth]
      omega
  | n + 1, .int _, _ => by simp [PyData.canLay0, PyData.depth]
  | _ + 1, .none, h => nomatch h
  | _ + 1, .bool _, h => nomatch h
  | _ + 1, .str _, h => nomatch h
  | _ + 1, .list _, h => nomatch h
  | _ + 1, .dict _, h => nomatch h
theorem flatT.shp {n : Nat} {d : PyData} (h : flatT n d) (l : n ≤ 64) : SeqAt.shaped d = true ∧ PyData.eqv d d = true := by
  obtain ⟨h1, h2⟩ := h.lay
  refine ⟨?_, SeqAt.eqv_refl_plain d (PyData.plain_of_canLay0 d h1)⟩
  unfold SeqAt.shaped
  rw [h1, decide_eq_true (Nat.le_trans h2 l)]
  rfl

theorem k_star {K : PySem.W.Frag} {X : Cx} {e : Expr} {es : List Expr} {te : TE} {t : TA} {p : Pos} (he : PE X e te) (hr : PA X es t) (hs : starEach (.Starred e p :: es) X.env = (true, eval e X.env) :: starEach es X.env := by rfl) (hK : X.K = K := by rfl) : PA X (.Starred e p :: es) (StX.tStar K te t) := hK ▸ StX.pa_star he hr hs

/-! ### words and the whole numbers that they tell: mathematics -/
def figL : List Nat := tl (Str.ofString "0123456789")
/-- the figures of a word -/
def unS (l : List Nat) : List Nat := if l.head? = some 45 then l.tail else l
def figB (l : List Nat) : Bool := l.all fun c => decide (c ∈ figL)
def wordOk (l : List Nat) : Bool := (decide (1 ≤ (unS l).length) && decide ((unS l).length ≤ 61)) && (figB (unS l) && !(decide ((unS l).head? = some 48) && !decide (l = [48])))
def wordI (l : List Nat) : Int := if l.head? = some 45 then -((NumText.digitsVal (unS l) : Nat) : Int) else ((NumText.digitsVal (unS l) : Nat) : Int)
def wordV (z : Str) : V := if wordOk (tl z) = true then .int (wordI (tl z)) else .non
theorem fig_all {l : List Nat} (h : figB l = true) : NumText.AllDigits l := fun c hc => by
  have m := of_decide_eq_true (List.all_eq_true.mp h c hc)
  have m : c ∈ [48, 49, 50, 51, 52, 53, 54, 55, 56, 57] := m
  simp only [List.mem_cons, List.not_mem_nil, or_false] at m
  omega
theorem all_fig {l : List Nat} (h : NumText.AllDigits l) : figB l = true := List.all_eq_true.mpr fun c hc => by
  have m := h c hc
  refine decide_eq_true ?_
  show c ∈ [48, 49, 50, 51, 52, 53, 54, 55, 56, 57]
  simp only [List.mem_cons, List.not_mem_nil, or_false]
  omega
theorem word_int {z : Str} (h : wordOk (tl z) = true) (hl : z.length ≤ 640) : intText? z = some (wordI (tl z)) := by
  unfold wordOk at h
  rw [Bool.and_eq_true, Bool.and_eq_true, Bool.and_eq_true] at h
  obtain ⟨⟨h1, _⟩, h2, _⟩ := h
  have h1 := of_decide_eq_true h1
  have dg := fig_all h2
  have ne : unS (tl z) ≠ [] := fun e => by
    rw [e] at h1
    exact absurd h1 (by decide)
  have e0 : z.cps.toList = tl z := rfl
  unfold wordI
  by_cases c : (tl z).head? = some 45
  · rw [if_pos c]
    have e : z.cps.toList = 45 :: unS (tl z) := by
      rw [e0]
      unfold unS
      rw [if_pos c]
      cases q : tl z with
      | nil =>
        rw [q] at c
        cases c
      | cons a r =>
        rw [q] at c
        rw [show a = 45 from Option.some.inj c]
        rfl
    exact intText_neg e dg ne (by omega)
  · rw [if_neg c]
    have e : unS (tl z) = z.cps.toList := by
      unfold unS
      rw [if_neg c]
    rw [e]
    exact intText_digits (by rw [← e]; exact dg) (by rw [← e]; exact ne) (by omega)
/-! the text of a number -/
def numS (i : Int) : Str := Str.ofString (toString i)
theorem numS_nat (n : Nat) : tl (numS (n : Int)) = numL n := tl_num n
theorem numS_neg (n : Nat) : tl (numS (-((n + 1 : Nat) : Int))) = 45 :: numL (n + 1) := by
  show (Str.ofString (toString (-((n + 1 : Nat) : Int)))).cps.toList = _
  have e : toString (-((n + 1 : Nat) : Int)) = "-" ++ Nat.repr (n + 1) := rfl
  rw [e, PySem.Str.ofString_eq_toList]
  show (("-" ++ Nat.repr (n + 1)).toList.map Char.toNat) = _
  rw [String.toList_append, List.map_append, Nat.toList_repr]
  rfl
theorem numL_head {n : Nat} (h : 0 < n) : (numL n).head? ≠ some 48 := by
  induction n using Nat.strongRecOn with
  | ind n ih =>
    rcases Nat.lt_or_ge n 10 with c | c
    · rw [numL_lt c]
      intro e
      have e := Option.some.inj e
      omega
    · rw [numL_step c]
      have q := ih (n / 10) (by omega) (by omega)
      have ne := numL_ne (n / 10)
      cases e : numL (n / 10) with
      | nil => exact absurd e ne
      | cons a r =>
        rw [e] at q
        exact q
theorem word_num {i : Int} (h : i.natAbs < 10 ^ 61) : wordOk (tl (numS i)) = true ∧ wordI (tl (numS i)) = i := by
  rcases Int.lt_or_le i 0 with c | c
  · obtain ⟨n, rfl⟩ : ∃ n : Nat, i = -((n + 1 : Nat) : Int) := ⟨i.natAbs - 1, by omega⟩
    have len := numL_len (n := n + 1) (k := 61) (by decide) (by omega)
    have ne := numL_ne (n + 1)
    have hd := numL_head (n := n + 1) (Nat.succ_pos n)
    have u : unS (45 :: numL (n + 1)) = numL (n + 1) := rfl
    unfold wordOk wordI
    rw [numS_neg, u, all_fig (numL_digits (n + 1)), decide_eq_true (show 1 ≤ (numL (n + 1)).length from List.length_pos_iff.mpr ne), decide_eq_true len, decide_eq_false hd, if_pos (show (45 :: numL (n + 1)).head? = some 45 from rfl), numL_val]
    exact ⟨rfl, rfl⟩
  · obtain ⟨n, rfl⟩ := Int.eq_ofNat_of_zero_le c
    have len := numL_len (n := n) (k := 61) (by decide) (by omega)
    have ne := numL_ne n
    have h45 : (numL n).head? ≠ some 45 := fun e => by
      cases q : numL n with
      | nil => exact ne q
      | cons a r =>
        rw [q] at e
        have m := numL_digits n a (by rw [q]; exact List.mem_cons_self)
        have e := Option.some.inj e
        omega
    have u : unS (numL n) = numL n := if_neg h45
    have z : (decide ((numL n).head? = some 48) && !decide (numL n = [48])) = false := by
      rcases Nat.eq_zero_or_pos n with rfl | p
      · decide +kernel
      · rw [decide_eq_false (numL_head p)]
        rfl
    unfold wordOk wordI
    rw [numS_nat, u, all_fig (numL_digits n), decide_eq_true (show 1 ≤ (numL n).length from List.length_pos_iff.mpr ne), decide_eq_true len, z, if_neg h45, numL_val]
    exact ⟨rfl, rfl⟩
theorem numS_len {i : Int} (h : i.natAbs < 10 ^ 61) : (numS i).length ≤ 62 := by
  rw [len_tl]
  rcases Int.lt_or_le i 0 with c | c
  · obtain ⟨n, rfl⟩ : ∃ n : Nat, i = -((n + 1 : Nat) : Int) := ⟨i.natAbs - 1, by omega⟩
    have len := numL_len (n := n + 1) (k := 61) (by decide) (by omega)
    rw [numS_neg, List.length_cons]
    omega
  · obtain ⟨n, rfl⟩ := Int.eq_ofNat_of_zero_le c
    have len := numL_len (n := n) (k := 61) (by decide) (by omega)
    rw [numS_nat]
    omega
theorem numS_free {i : Int} : 32 ∉ tl (numS i) := by
  rcases Int.lt_or_le i 0 with c | c
  · obtain ⟨n, rfl⟩ : ∃ n : Nat, i = -((n + 1 : Nat) : Int) := ⟨i.natAbs - 1, by omega⟩
    rw [numS_neg]
    intro h
    rcases List.mem_cons.mp h with e | e
    · cases e
    · exact numL_free (.inl (by decide)) e
  · obtain ⟨n, rfl⟩ := Int.eq_ofNat_of_zero_le c
    rw [numS_nat]
    exact numL_free (.inl (by decide))
theorem wordV_num {i : Int} (h : i.natAbs < 10 ^ 61) : wordV (numS i) = .int i := by
  obtain ⟨a, b⟩ := word_num h
  unfold wordV
  rw [if_pos a, b]
/-! papers and walkers as they are judged -/
def wholeB : V → Int → Int → Bool
  | .int i, lo, hi => decide (lo ≤ i) && decide (i ≤ hi)
  | _, _, _ => false
/-- what is neither a list nor a tuple -/
def scal : V → Bool
  | .non => true
  | .bl _ => true
  | .int _ => true
  | .str _ => true
  | _ => false
def paperB : List V → Bool
  | [a, b] => wholeB b 0 100000 && decide (a = .str "stops")
  | [a, b, c] => wholeB b 0 100000 && (inV a [.str "round", .str "street"] && wholeB c 1 2000)
  | _ => false
def walkerB : List V → Bool
  | [a, b, c, d] => ((wholeB a (-FarN) FarN && wholeB b (-FarN) FarN) && wholeB c 0 3) && wholeB d 0 9
  | _ => false
where FarN : Int := 1000000000000000000000000000000000000000000000000000000000000

/-! ### a text is wanted (the head of nt2, for laws without papers) -/
def spCheckText (CN : Addr) : Sp := fun vs H Q E => ∃ v : V, vs = [v] ∧ ((∃ z : Str, v = .str z ∧ Q .non H) ∨ ((v = .non ∨ ∃ i, v = .int i) ∧ E (.ref CN) none H))
structure StopCls (K : PySem.W.Frag) (mg : Str → Option Value) (x : Str) (C : Addr) : Prop where
  gP : mg x = some (.ref C)
  xP : PySem.W.excIn K C [.type "ValueError", .type "Exception", .type "BaseException", .type "object"] "ValueError.__new__" = true
  kP : PySem.W.keepIn K (.ref C) = true
  bP : PySem.W.subIn K (.ref C) (.type "BaseException") = some true
  tP : PySem.W.typeIn K (.ref C) = some (.type "type")
section
variable {P : Program} {w : World} {K : PySem.W.Frag} {mg : Str → Option Value} {base : Heap}
local macro_rules | `(tactic| walk_at "cl") => `(tactic| first | (refine le_only ?_; omega) | (refine lt_only ?_; omega) | assumption)
theorem exi_InvalidText {C : Addr} (M : MetAt K C "__init__" "InvalidText.__init__" s_InvalidText_init ["self", "place"]) (T : OexC K C) (no : PySem.W.findIn K (.ref C) "place" = some none) : ExcInit1 P w K mg base C "place" := by
  obtain ⟨f, fd, iC, tI, F, b⟩ := M.ex
  refine ⟨no, f, fd, _, iC, tI, F.ok sc_InvalidText_init (fun vs H Q E h => ?_) (fun cdv A outer s H vs Q E hr h => ?_), b⟩
  · obtain ⟨a, y, rfl, _⟩ := h
    rfl
  · obtain ⟨a, y, rfl, ha, q⟩ := h
    refine ⟨_, (pss_one (ps_ost (pv 0) (pv 1))), ?_⟩
    walk_at "st"
    exact Or.inl ⟨ha, fun dx nd ne => q dx nd ne⟩
theorem ok_check_text (T : Txt K mg) {CN : Addr} (TS : StopCls K mg "NotText" CN) (D : DefAt K mg "check_text" s_check_text ["value"]) : Cal P w K mg base (L2.CX P w) "check_text" 1 ["value"] (spCheckText CN) := by
  refine D.calX sc_check_text (fun vs H Q E h => ?_) (fun f cdv A outer s H vs Q E hr h => ?_)
  · obtain ⟨v, rfl, _⟩ := h
    rfl
  · obtain ⟨v, rfl, h⟩ := h
    refine ⟨_, (pss_one (ps_if (pt_not (pt_val (pe_callB (k_isN (K := K)) (by rfl) T.m_isinstance (by decide +kernel) (pa_cons (pv 0) (pa_cons (pe_ty "str" (by rfl) T.m_str (by decide +kernel)) pa_nil))))) (pss_one (ps_raise rfl (takes_of rfl rfl rfl rfl) (pmk_own PySem.F.excBase_ValueError TS.xP TS.gP TS.kP (raises_own TS.bP TS.tP) (by rfl)))) pss_nil)), ?_⟩
    rcases h with ⟨z, rfl, q⟩ | ⟨rfl | ⟨i, rfl⟩, q⟩
    · walk_at "st"
      exact q
    · walk_at "st"
      exact q
    · walk_at "st"
      exact q
end

section
variable {P : Program} {w : World} {K : PySem.W.Frag} {mg : Str → Option Value} {base : Heap}
theorem exi_TooMany {C : Addr} (M : MetAt K C "__init__" "TooMany.__init__" s_TooMany_init ["self", "most"]) (T : OexC K C) (no : PySem.W.findIn K (.ref C) "most" = some none) : ExcInit1 P w K mg base C "most" := by
  obtain ⟨f, fd, iC, tI, F, b⟩ := M.ex
  refine ⟨no, f, fd, _, iC, tI, F.ok sc_TooMany_init (fun vs H Q E h => ?_) (fun cdv A outer s H vs Q E hr h => ?_), b⟩
  · obtain ⟨a, y, rfl, _⟩ := h
    rfl
  · obtain ⟨a, y, rfl, ha, q⟩ := h
    refine ⟨_, (pss_one (ps_ost (pv 0) (pv 1))), ?_⟩
    walk_at "st"
    exact Or.inl ⟨ha, fun dx nd ne => q dx nd ne⟩
end

/-! ### sequences, cut -/
theorem seq_cutO {t u : TS} {D : L2.Ends} {σ : L2.St} {H : Hp} (Pm : L2.St → Hp → Prop) (h2 : ∀ σ H, Pm σ H → u D σ H) (h1 : ∀ R : L2.St → Hp → Prop, (∀ σ H, Pm σ H → R σ H) → t { D with nx := R } σ H) : tSeq t u D σ H := h1 _ h2
theorem gname_seq {i : Nat} {v : V} {t u : TS} {D : L2.Ends} {rt : VK} {bk ct : L2.St → Hp → Prop} {σ : L2.St} {H : Hp} (h : tSeq t u D (σ.set i (some v)) H) : gName i v σ H ({ nx := tSeq t u D, rt := rt, bk := bk, ct := ct } : L2.Ends).nx := h
theorem gname_of {i : Nat} {v : V} {σ : L2.St} {H : Hp} {k : L2.St → Hp → Prop} (h : k (σ.set i (some v)) H) : gName i v σ H k := h
theorem nx_seq {t u : TS} {D : L2.Ends} {rt : VK} {bk ct : L2.St → Hp → Prop} {σ : L2.St} {H : Hp} (h : tSeq t u D σ H) : ({ nx := tSeq t u D, rt := rt, bk := bk, ct := ct } : L2.Ends).nx σ H := h
theorem seq_assoc {t u v : TS} {D : L2.Ends} {σ : L2.St} {H : Hp} (h : tSeq (tSeq t u) v D σ H) : tSeq t (tSeq u v) D σ H := h
theorem nx_of {D : L2.Ends} {σ : L2.St} {H : Hp} (h : D.nx σ H) : tNext D σ H := h
theorem next_seq {t u : TS} {D : L2.Ends} {rt : VK} {bk ct : L2.St → Hp → Prop} {σ : L2.St} {H : Hp} (h : tSeq t u D σ H) : tNext { nx := tSeq t u D, rt := rt, bk := bk, ct := ct } σ H := h

/-! ### the text of a floor: figures and runs -/
def figS : List Nat := tl (Str.ofString "0123456789")
def sgnS : List Nat := tl (Str.ofString ".abcde/")
/-- how many figures stand ahead -/
def figN : List Nat → Nat
  | [] => 0
  | c :: r => if c ∈ figS then figN r + 1 else 0
theorem figN_le : ∀ l : List Nat, figN l ≤ l.length
  | [] => Nat.le_refl _
  | c :: r => by
    have h := figN_le r
    unfold figN
    split
    · exact Nat.succ_le_succ h
    · exact Nat.zero_le _
theorem figN_step {l : List Nat} {a c : Nat} (h : l[a]? = some c) : figN (l.drop a) = if c ∈ figS then figN (l.drop (a + 1)) + 1 else 0 := by
  have e : l.drop a = c :: l.drop (a + 1) := by
    obtain ⟨lt, e⟩ := List.getElem?_eq_some_iff.mp h
    rw [List.drop_eq_getElem_cons lt, e]
  rw [e]
  rfl
def spBehind : Sp := fun vs H Q _ => ∃ (z : Str) (a : Nat), vs = [.str z, .int (a : Nat)] ∧ z.length ≤ 100000 ∧ a ≤ z.length ∧ Q (.int ((a + figN ((tl z).drop a) : Nat) : Int)) H
section
variable {P : Program} {w : World} {K : PySem.W.Frag} {mg : Str → Option Value} {base : Heap}
local macro_rules | `(tactic| walk_at "cl") => `(tactic| first | (refine le_only ?_; omega) | (refine lt_only ?_; omega) | assumption)
theorem mono_bf {σ : L2.St} {H : Hp} {Q Q' : Bool → Hp → Prop} (hq : ∀ b H1, Q b H1 → Q' b H1) (h : tAnd (tTest (tOp (rI0 fun i j => V.bl (decide (i < j))) (tVar 1) (tCB (fun xs H Q => ∃ z, xs = [V.str z] ∧ z.length ≤ sizeLine ∧ Q (V.int ↑z.length) H) (tCons (tVar 0) tNil)))) (tTest (tOp (fun x y H Q => ∃ c z, x = V.str { cps := #[c] } ∧ y = V.str z ∧ Q (V.bl (decide (c ∈ z.cps.toList))) H) (tOp rIxS (tVar 0) (tVar 1)) (tC (V.str (Str.ofString "0123456789"))))) σ H Q) :
    tAnd (tTest (tOp (rI0 fun i j => V.bl (decide (i < j))) (tVar 1) (tCB (fun xs H Q => ∃ z, xs = [V.str z] ∧ z.length ≤ sizeLine ∧ Q (V.int ↑z.length) H) (tCons (tVar 0) tNil)))) (tTest (tOp (fun x y H Q => ∃ c z, x = V.str { cps := #[c] } ∧ y = V.str z ∧ Q (V.bl (decide (c ∈ z.cps.toList))) H) (tOp rIxS (tVar 0) (tVar 1)) (tC (V.str (Str.ofString "0123456789"))))) σ H Q' := by
  obtain ⟨v1, e1, v0, e0, z, r1, r2, i, j, r3, r4, k, ek, h⟩ := h
  refine ⟨v1, e1, v0, e0, z, r1, r2, i, j, r3, r4, k, ek, ?_⟩
  cases k with
  | false => exact hq _ _ h
  | true =>
    obtain ⟨w0, g0, w1, g1, z2, i2, c2, s1, s2, s3, s4, c, z3, s5, s6, k3, ek3, h⟩ := h
    exact ⟨w0, g0, w1, g1, z2, i2, c2, s1, s2, s3, s4, c, z3, s5, s6, k3, ek3, hq _ _ h⟩
theorem ok_u_behind_figures (T : Txt K mg) (D : DefAt K mg "_behind_figures" s_u_behind_figures ["text", "at"]) : Cal P w K mg base CX0 "_behind_figures" 1 ["text", "at"] spBehind := by
  refine D.cal sc_u_behind_figures (fun vs H Q E h => ?_) (fun f cdv A outer s H vs Q E hr h => ?_)
  · obtain ⟨z, a, rfl, _⟩ := h
    rfl
  · obtain ⟨z, a, rfl, hz, ha, q⟩ := h
    refine ⟨_, (pss_cons (ps_while PassesOwn.never (PW.pt (pw_and (pt_cmpR op_lt (pv 1) (pe_callB call_len_str (by rfl) T.m_len (by decide +kernel) (pa_cons (pv 0) pa_nil)) (nomark _)) (pw_and1 (pt_cmpR op_in_sign (pe_ix ix_str (pv 0) (pv 1) (fun _ _ => rfl)) (pe_gstr (by rfl) T.figures) (by rfl))))) (pss_one (ps_aug (i := 1) sc_u_behind_figures.nd rfl (Or.inl rfl) pe_int ip_add)))
      (pss_one (ps_ret (pv 1)))), ?_⟩
    walk_at "st"
    refine while_by (fun σ H' => ∃ b : Nat, σ = [some (.str z), some (.int (b : Nat))] ∧ H' = H ∧ a ≤ b ∧ b ≤ z.length ∧ b + figN ((tl z).drop b) = a + figN ((tl z).drop a)) (fun σ _ => match σ with | [_, some (.int b)] => z.length - b.toNat | _ => 0) ⟨a, rfl, rfl, Nat.le_refl _, ha, rfl⟩ ?_ ?_
    · rintro σ H' ⟨b, rfl, rfl, hab, hb, he⟩
      have hzs : z.length ≤ sizeLine := Nat.le_trans hz (by decide)
      walk_at "st"
      refine ite2 (fun c1 => ?_) (fun c1 => ?_)
      · have lt : b < (tl z).length := by
          have := of_decide_eq_true c1
          rw [← len_tl]
          omega
        obtain ⟨c, hc⟩ : ∃ c, (tl z)[b]? = some c := ⟨_, List.getElem?_eq_getElem lt⟩
        have hat : atI z.cps.toList (b : Int) = some c := atI_nat hc
        have hs := figN_step hc
        walk_at "st"
        refine ite2 (fun c2 => ?_) (fun c2 => ?_)
        · have c2 : c ∈ figS := of_decide_eq_true c2
          rw [if_pos c2] at hs
          walk_at "st"
          refine ⟨⟨b + 1, rfl, rfl, by omega, by rw [len_tl]; omega, by omega⟩, ?_⟩
          show z.length - ((b : Int) + 1).toNat < z.length - (b : Int).toNat
          rw [len_tl]
          omega
        · have c2 : ¬ c ∈ figS := fun m => c2 (decide_eq_true m)
          rw [if_neg c2] at hs
          walk_at "st"
          rw [show a + figN ((tl z).drop a) = b by omega] at q
          exact q
      · have ge : (tl z).length ≤ b := by
          have c1 : ¬ (b : Int) < (z.length : Int) := fun m => c1 (decide_eq_true m)
          rw [← len_tl]
          omega
        have e0 : (tl z).drop b = [] := List.drop_eq_nil_of_le ge
        rw [e0] at he
        have he : b = a + figN ((tl z).drop a) := he
        walk_at "st"
        rw [← he] at q
        exact q
    · intro σ H' Q Q' hq h
      exact mono_bf hq h
end
/-- a run: how many, its sign, what is left; none where no run can stand -/
def runLen (l : List Nat) : Option (Nat × Nat × List Nat) := match l.drop (figN l) with
  | [] => none
  | s :: r => if s ∈ sgnS then (if figN l = 0 then some (1, s, r) else if 4 < figN l ∨ s = 47 ∨ NumText.digitsVal (l.take (figN l)) = 0 then none else some (NumText.digitsVal (l.take (figN l)), s, r)) else none
theorem runLen_none {l : List Nat} (h : l[figN l]? = none) : runLen l = none := by
  unfold runLen
  rw [List.drop_eq_nil_of_le (List.getElem?_eq_none_iff.mp h)]
theorem runLen_some {l : List Nat} {s : Nat} (h : l[figN l]? = some s) : runLen l = if s ∈ sgnS then (if figN l = 0 then some (1, s, l.drop (figN l + 1)) else if 4 < figN l ∨ s = 47 ∨ NumText.digitsVal (l.take (figN l)) = 0 then none else some (NumText.digitsVal (l.take (figN l)), s, l.drop (figN l + 1))) else none := by
  obtain ⟨lt, e⟩ := List.getElem?_eq_some_iff.mp h
  have e2 : l.drop (figN l) = s :: l.drop (figN l + 1) := by rw [List.drop_eq_getElem_cons lt, e]
  unfold runLen
  rw [e2]
theorem figN_all : ∀ l : List Nat, NumText.AllDigits (l.take (figN l))
  | [] => fun c hc => by cases hc
  | c :: r => by
    have h := figN_all r
    by_cases m : c ∈ figS
    · rw [show figN (c :: r) = figN r + 1 from if_pos m, List.take_succ_cons]
      intro d hd
      rcases List.mem_cons.mp hd with rfl | hd
      · exact fig_all (l := [d]) (by unfold figB; simp; exact m) d List.mem_cons_self
      · exact h d hd
    · rw [show figN (c :: r) = 0 from if_neg m]
      intro d hd
      cases hd
theorem tl_cut {z : Str} {a k : Nat} (h : a + k ≤ z.length) : tl (cutS z (some (a : Nat)) (some ((a + k : Nat) : Int))) = ((tl z).drop a).take k := by
  have e : HT.sIx z.length 0 (some (a : Int)) = a := by
    rw [HT.sIx_nat]
    omega
  have e2 : HT.sIx z.length z.length (some ((a + k : Nat) : Int)) = a + k := by
    rw [HT.sIx_nat]
    omega
  show ((z.cps.toList.drop (HT.sIx z.length 0 (some (a : Int)))).take (HT.sIx z.length z.length (some ((a + k : Nat) : Int)) - HT.sIx z.length 0 (some (a : Int)))).toArray.toList = _
  rw [e, e2, Nat.add_sub_cancel_left]
def spRunLen (CI : Addr) : Sp := fun vs H Q E => ∃ (z : Str) (a : Nat), vs = [.str z, .int (a : Nat), .int ((a + figN ((tl z).drop a) : Nat) : Int)] ∧ z.length ≤ 100000 ∧ a ≤ z.length ∧ (∀ n s r, runLen ((tl z).drop a) = some (n, s, r) → ∀ H', Same H H' → Q (.int (n : Nat)) H') ∧ (runLen ((tl z).drop a) = none → ∀ d H', H' d = some (.xd [("place", .int ((a + figN ((tl z).drop a) : Nat) : Int))]) → Same H H' → E (.ref CI) (some d) H')
section
variable {P : Program} {w : World} {K : PySem.W.Frag} {mg : Str → Option Value} {base : Heap}
local macro_rules | `(tactic| walk_at "cl") => `(tactic| first | (refine le_only ?_; omega) | (refine lt_only ?_; omega) | assumption)
theorem ok_u_run_length (T : Txt K mg) {CI : Addr} (TI : ExcCls K mg "InvalidText" CI) (FI : ExcInit1 P w K mg base CI "place") (D : DefAt K mg "_run_length" s_u_run_length ["text", "at", "sign_at"]) : Cal P w K mg base (L2.CX P w) "_run_length" 3 ["text", "at", "sign_at"] (spRunLen CI) := by
  refine D.calX sc_u_run_length (fun vs H Q E h => ?_) (fun f cdv A outer s H vs Q E hr h => ?_)
  · obtain ⟨z, a, rfl, _⟩ := h
    rfl
  · obtain ⟨z, a, rfl, hz, ha, q, e⟩ := h
    refine ⟨_, (pss_cons (ps_if (PW.pt (pw_or (pt_cmpR op_eq (pv 2) (pe_callB call_len_str (by rfl) T.m_len (by decide +kernel) (pa_cons (pv 0) pa_nil)) (nomark _)) (pw_or1 (pt_cmpR op_notIn_sign (pe_ix ix_str (pv 0) (pv 2) (fun _ _ => rfl)) (pe_op op_add_str (pe_gstr (by rfl) T.signs) pe_str) (by rfl))))) (pss_one (ps_raise1 rfl (takes_of rfl rfl rfl rfl) TI FI hr (by decide) (by exact (pa_cons (pv 2) pa_nil)))) pss_nil)
      (pss_cons (ps_if (pt_cmpR op_eq (pv 2) (pv 1) (nomark _)) (pss_one (ps_ret pe_int)) pss_nil)
      (pss_cons (ps_if (PW.pt (pw_or (pt_cmpR op_gt (pe_op op_sub (pv 2) (pv 1)) (pe_gint (by rfl) T.most_figures) (nomark _)) (pw_or (pt_cmpR op_eq (pe_ix ix_str (pv 0) (pv 2) (fun _ _ => rfl)) pe_str (nomark _)) (pw_or1 (pt_cmpR op_eq (pe_callTy call_int_str (by rfl) T.m_int (by decide +kernel) (pa_cons (pe_slice sl_str (pv 0) (po_some (pv 1)) (po_some (pv 2))) pa_nil)) pe_int (nomark _)))))) (pss_one (ps_raise1 rfl (takes_of rfl rfl rfl rfl) TI FI hr (by decide) (by exact (pa_cons (pv 2) pa_nil)))) pss_nil)
      (pss_one (ps_ret (pe_callTy call_int_str (by rfl) T.m_int (by decide +kernel) (pa_cons (pe_slice sl_str (pv 0) (po_some (pv 1)) (po_some (pv 2))) pa_nil))))))), ?_⟩
    have hzs : z.length ≤ sizeLine := Nat.le_trans hz (by decide)
    have hk := figN_le ((tl z).drop a)
    have hkl : a + figN ((tl z).drop a) ≤ z.length := by
      rw [List.length_drop, ← len_tl] at hk
      omega
    generalize ek : figN ((tl z).drop a) = k at *
    walk_at "st"
    cases hc : (tl z)[a + k]? with
    | none =>
      have ge : z.length ≤ a + k := by
        have := List.getElem?_eq_none_iff.mp hc
        rw [len_tl]
        exact this
      have e1 : ((a + k : Nat) : Int) = (z.length : Int) := by omega
      have hr0 : runLen ((tl z).drop a) = none := runLen_none (by rw [ek, List.getElem?_drop]; exact hc)
      walk_at "st"
      refine ite2 (fun _ => ?_) (fun z => absurd (decide_eq_true (congrArg V.int e1)) z)
      walk_at "st"
      refine raise1 (fun d H6 nd s6 hd => ?_)
      exact e hr0 d H6 hd s6
    | some c =>
      have lt : a + k < z.length := by
        have := (List.getElem?_eq_some_iff.mp hc).1
        rw [len_tl]
        exact this
      have hat : atI z.cps.toList ((a + k : Nat) : Int) = some c := atI_nat hc
      have hr0 := runLen_some (l := (tl z).drop a) (s := c) (by rw [ek, List.getElem?_drop]; exact hc)
      rw [ek] at hr0
      walk_at "st"
      refine ite2 (fun z => ?_) (fun _ => ?_)
      · have z := V.int.inj (of_decide_eq_true z)
        omega
      walk_at "st"
      by_cases m : c ∈ sgnS
      · rw [if_pos m] at hr0
        rw [show (decide (c ∈ (Str.ofString ".abcde" ++ Str.ofString "/").cps.toList)) = true from decide_eq_true m]
        refine iteF ?_
        walk_at "st"
        refine ite2 (fun u => ?_) (fun u => ?_)
        · have u : k = 0 := by
            have := V.int.inj (of_decide_eq_true u)
            omega
          rw [if_pos u] at hr0
          walk_at "st"
          exact q 1 _ _ hr0 H (Same.refl _)
        · have u : k ≠ 0 := fun v => u (decide_eq_true (congrArg V.int (by omega)))
          rw [if_neg u] at hr0
          walk_at "st"
          refine ite2 (fun u4 => ?_) (fun u4 => ?_)
          · have u4 : 4 < k := by
              have := of_decide_eq_true u4
              omega
            rw [if_pos (.inl u4)] at hr0
            walk_at "st"
            refine raise1 (fun d H6 nd s6 hd => ?_)
            exact e hr0 d H6 hd s6
          · have u4 : ¬ 4 < k := fun v => u4 (decide_eq_true (by omega))
            walk_at "st"
            refine ite2 (fun u5 => ?_) (fun u5 => ?_)
            · have u5 : c = 47 := by
                have v := V.str.inj (of_decide_eq_true u5)
                have v : (#[c] : Array Nat) = #[47] := congrArg Str.cps v
                exact (List.cons.inj (congrArg Array.toList v)).1
              rw [if_pos (.inr (.inl u5))] at hr0
              walk_at "st"
              refine raise1 (fun d H6 nd s6 hd => ?_)
              exact e hr0 d H6 hd s6
            · have u5 : c ≠ 47 := fun v => u5 (by rw [v]; exact decide_eq_true rfl)
              have hcut := tl_cut (z := z) (a := a) (k := k) hkl
              have ldr : (((tl z).drop a).take k).length = k := by
                rw [List.length_take, List.length_drop, ← len_tl]
                omega
              have hint : intText? (cutS z (some (a : Nat)) (some ((a + k : Nat) : Int))) = some ((NumText.digitsVal (((tl z).drop a).take k) : Nat) : Int) := by
                have dg := figN_all ((tl z).drop a)
                rw [ek, ← hcut] at dg
                rw [← hcut]
                refine intText_digits dg (fun v => u ?_) (by rw [len_tl, hcut, ldr]; omega)
                rw [← ldr, ← hcut]
                exact congrArg List.length v
              have hl4 : (cutS z (some (a : Nat)) (some ((a + k : Nat) : Int))).length ≤ 640 := by
                rw [len_tl, hcut, ldr]
                omega
              walk_at "st"
              refine ite2 (fun u6 => ?_) (fun u6 => ?_)
              · have u6 : NumText.digitsVal (((tl z).drop a).take k) = 0 := by
                  have := V.int.inj (of_decide_eq_true u6)
                  omega
                rw [if_pos (.inr (.inr u6))] at hr0
                walk_at "st"
                refine raise1 (fun d H6 nd s6 hd => ?_)
                exact e hr0 d H6 hd s6
              · have u6 : NumText.digitsVal (((tl z).drop a).take k) ≠ 0 := fun v => u6 (by rw [v]; exact decide_eq_true rfl)
                rw [if_neg (by rintro (v | v | v); exact u4 v; exact u5 v; exact u6 v)] at hr0
                walk_at "st"
                exact q _ _ _ hr0 H (Same.refl _)
      · rw [if_neg m] at hr0
        rw [show (decide (c ∈ (Str.ofString ".abcde" ++ Str.ofString "/").cps.toList)) = false from decide_eq_false m]
        refine iteT ?_
        walk_at "st"
        refine raise1 (fun d H6 nd s6 hd => ?_)
        exact e hr0 d H6 hd s6
end

/-! ### a run's squares -/
def colC (c : Nat) : Int := (c : Int) - 96
def runSq (x y : Int) (c n : Nat) : List Sq := if c = 46 then [] else (List.range n).map fun k : Nat => (x + (k : Int), y, colC c)
def spRunSq (K : PySem.W.Frag) : Sp := fun vs H Q _ => ∃ (x y : Int) (c n : Nat), vs = [.int x, .int y, .str ⟨#[c]⟩, .int (n : Nat)] ∧ c ∈ sgnS ∧ c ≠ 47 ∧ n ≤ 10000 ∧ ∀ (L : Addr) (ws : List V) (H' : Hp), H L = none → H' L = some (.lst ws) → TpAll K H' ws ((runSq x y c n).map sqD) → Same H H' → Q (.ref L) H'
theorem tp_newF {K : PySem.W.Frag} {H : Hp} {p : Addr} {xs : List V} {ds : List PyData} (n : H p = none) (h : TpAll K H xs ds) : Tp K (upd H p (.tup xs)) (.ref p) (.tuple ds) := .tup (SqT.of upd_same) (TpAll.mono (TK.new n) _ _ h)
theorem k_index {K : PySem.W.Frag} {X : Cx} {o e : Expr} {to : TE} {t : TA} {apos cpos : Pos} (hc : X.calm = true) (ho : PE X o to) (ha : PA X [e] t) (hbase : attributeBase o "index" X.env (eval o X.env) = eval o X.env := by rfl)
    (hline : (apos.endLine == cpos.line) = true := by rfl) (hs : starEach [e] X.env = [(false, eval e X.env)] := by rfl) (hK : X.K = K := by rfl)
    (hfew : ((backTo cpos (starEach [e] X.env)).all (fun x => !x.1) && (backToKw cpos (keywordEach [] X.env)).all (fun x => x.1.isSome) && decide ([e].length + ([] : List Keyword).length + (if ([] : List Keyword).isEmpty then 0 else 1) < 30)) = true := by rfl) (hplain : (backTo cpos (starEach [] X.env)).any (·.1) = false := by rfl) :
    PE X (.Call (.Attribute o "index" apos) [e] [] cpos) (tBMS K "str" rIndexIn to t) :=
  hK ▸ pe_bmS PySem.F.plainAttrs_str PySem.F.slot_str_index PySem.F.type_str_index (mt_indexIn hc) ho ha hbase hfew hline hs hplain
section
variable {P : Program} {w : World} {K : PySem.W.Frag} {mg : Str → Option Value} {base : Heap}
local macro_rules | `(tactic| walk_at "cl") => `(tactic| first | (refine le_only ?_; omega) | (refine lt_only ?_; omega) | assumption)
theorem ok_u_run_squares (T : Txt K mg) (D : DefAt K mg "_run_squares" s_u_run_squares ["x", "y", "sign", "many"]) : Cal P w K mg base CX0 "_run_squares" 1 ["x", "y", "sign", "many"] (spRunSq K) := by
  refine D.cal sc_u_run_squares (fun vs H Q E h => ?_) (fun f cdv A outer s H vs Q E hr h => ?_)
  · obtain ⟨x, y, c, n, rfl, _⟩ := h
    rfl
  · obtain ⟨x, y, c, n, rfl, m, m47, hn, q⟩ := h
    refine ⟨_, (pss_cons (ps_if (pt_cmpR op_eq (pv 2) pe_str (nomark _)) (pss_one (ps_ret (pe_lst pa_nil))) pss_nil)
      (pss_one (ps_ret (pe_lc (own := [("k", 4)]) (g := gName 4) rfl sc_u_run_squares.nd (pi_range1 (by rfl) T.m_range (pa_cons (pv 3) pa_nil)) (blkOk_by (by rfl)) (fun _ _ _ _ _ => (pg_name (i := 4) sc_u_run_squares.nd rfl (Or.inl rfl))) (fun _ _ _ _ _ => pts_nil) (fun _ _ _ _ _ => (pe_tup (pa_cons (pe_op op_add (pv 0) (pv 4)) (pa_cons (pv 1) (pa_cons (by exact (k_index (K := K) rfl (pe_gstr (by rfl) T.signs) (pa_cons (pv 2) pa_nil))) pa_nil))))))))), ?_⟩
    walk_at "st"
    refine ite2 (fun u => ?_) (fun u => ?_)
    · have u : c = 46 := by
        have v := V.str.inj (of_decide_eq_true u)
        have v : (#[c] : Array Nat) = #[46] := congrArg Str.cps v
        exact (List.cons.inj (congrArg Array.toList v)).1
      walk_at "st"
      intro L nL
      exact q L [] _ nL upd_same (by rw [show runSq x y c n = [] from if_pos u]; exact .nil) (Same.new nL)
    · have u : c ≠ 46 := fun v => u (by rw [v]; exact decide_eq_true rfl)
      walk_at "st"
      intro L nL
      walk_at "st"
      rw [show L2.start ["x", "y", "sign", "many", "k"] [V.int x, V.int y, V.str { cps := #[c] }, V.int ↑n] = [some (.int x), some (.int y), some (.str ⟨#[c]⟩), some (.int n), none] from rfl]
      have hidx : ∃ k : Nat, Txt.index0 (Str.ofString ".abcde") ⟨#[c]⟩ = some k ∧ (k : Int) = colC c := by
        have m : c = 46 ∨ c = 97 ∨ c = 98 ∨ c = 99 ∨ c = 100 ∨ c = 101 ∨ c = 47 := by
          have e : sgnS = [46, 97, 98, 99, 100, 101, 47] := by decide +kernel
          rw [e] at m
          simpa using m
        rcases m with m | m | m | m | m | m | m
        · exact absurd m u
        · subst m; exact ⟨1, by decide +kernel, by decide⟩
        · subst m; exact ⟨2, by decide +kernel, by decide⟩
        · subst m; exact ⟨3, by decide +kernel, by decide⟩
        · subst m; exact ⟨4, by decide +kernel, by decide⟩
        · subst m; exact ⟨5, by decide +kernel, by decide⟩
        · exact absurd m m47
      obtain ⟨ci, hidx, hci⟩ := hidx
      refine lc_range (fun i H' => Ok (Same H H' ∧ ∃ ws, H' L = some (.lst ws) ∧ ws.length = i ∧ TpAll K H' ws (((List.range i).map fun k : Nat => ((x + (k : Int), y, colC c) : Sq)).map sqD))) ?_ ?_ ?_
      · exact ⟨Same.new nL, [], upd_same, rfl, .nil⟩
      · rintro i H1 hi ⟨sm, ws, hL, lw, hw⟩
        walk_at "st"
        intro p np
        have s2 : Same H1 (upd H1 p (.tup [.int (x + (0 + (i : Int))), .int y, .int (ci : Nat)])) := Same.new np
        have hL2 := s2 _ _ hL
        have tl := TK.lst (o := .lst (ws ++ [V.ref p])) hL2
        have hlt : ws.length < sizeLine := Nat.lt_of_lt_of_le (show ws.length < 20000 by omega) (by decide)
        walk_at "st"
        refine ⟨Same.fresh (Same.trans sm s2) nL, ws ++ [.ref p], upd_same, by rw [List.length_append]; show _ + 1 = _; omega, ?_⟩
        rw [List.range_succ, List.map_append, List.map_append]
        have f1 : Tp K (upd H1 p (.tup [.int (x + (0 + (i : Int))), .int y, .int (ci : Nat)])) (.ref p) (sqD (x + (i : Int), y, colC c)) := by
          have z := tp_newF (K := K) (H := H1) np (.cons (.int (x + (0 + (i : Int)))) (.cons (.int y) (.cons (.int (ci : Nat)) .nil)))
          rw [Int.zero_add, hci] at z
          rw [Int.zero_add, hci]
          exact z
        exact TpAll.append (TpAll.mono (TK.trans (Same.tk s2) tl) _ _ hw) (.cons (Tp.mono tl _ _ f1) .nil)
      · rintro H1 ⟨sm, ws, hL, lw, hw⟩
        refine q L ws H1 nL hL ?_ sm
        rw [show runSq x y c n = (List.range n).map fun k : Nat => (x + (k : Int), y, colC c) from if_neg u]
        exact hw
end

/-! ### fl1 without walkers, for laws without tables -/
theorem sqs_tp {K : PySem.W.Frag} {H : Hp} : ∀ {bs : List (Addr × List Int)} {F : List Sq}, (∀ b ∈ bs, SqT K H b.1 (b.2.map V.int)) → bs.map (·.2) = F.map (fun s => [s.1, s.2.1, s.2.2]) → TpAll K H (bs.map fun b => .ref b.1) (F.map sqD)
  | [], [], _, _ => .nil
  | [], _ :: _, _, e => nomatch e
  | _ :: _, [], _, e => nomatch e
  | b :: bs, s :: F, h, e => by
    obtain ⟨e1, e2⟩ := List.cons.inj e
    have h1 := h b List.mem_cons_self
    rw [show b.2 = [s.1, s.2.1, s.2.2] from e1] at h1
    exact .cons (Tp.of_ints (ks := [s.1, s.2.1, s.2.2]) h1) (sqs_tp (fun y hy => h y (List.mem_cons_of_mem _ hy)) e2)
def spWhole : Sp := fun vs H Q _ => ∃ v lo hi : Int, vs = [.int v, .int lo, .int hi] ∧ Q (.bl (decide (lo ≤ v) && decide (v ≤ hi))) H
section
variable {P : Program} {w : World} {K : PySem.W.Frag} {mg : Str → Option Value} {base : Heap}
theorem ok_is_whole (T : Txt K mg) (D : DefAt K mg "is_whole" s_is_whole ["value", "least", "greatest"]) : Cal P w K mg base CX0 "is_whole" 1 ["value", "least", "greatest"] spWhole := by
  refine D.cal sc_is_whole (fun vs H Q E h => ?_) (fun f cdv A outer s H vs Q E hr h => ?_)
  · obtain ⟨v, lo, hi, rfl, _⟩ := h
    rfl
  · obtain ⟨v, lo, hi, rfl, q⟩ := h
    refine ⟨_, (pss_cons (ps_if (PW.pt (pw_or (pt_not (pt_val (pe_callB (k_isN (K := K)) (by rfl) T.m_isinstance (by decide +kernel) (pa_cons (pv 0) (pa_cons (pe_ty "int" (by rfl) T.m_int (by decide +kernel)) pa_nil))))) (pw_or1 (pt_val (pe_callB (k_isN (K := K)) (by rfl) T.m_isinstance (by decide +kernel) (pa_cons (pv 0) (pa_cons (pe_ty "bool" (by rfl) T.m_bool (by decide +kernel)) pa_nil))))))) (pss_one (ps_ret pe_bl)) pss_nil)
      (pss_one (ps_ret (pe_chain op_le op_le (pv 1) (pv 0) (pv 2))))), ?_⟩
    walk_at "st"
    refine ite2 (fun e => ?_) (fun e => ?_)
    · walk_at "st"
      rw [e, Bool.true_and] at q
      exact q
    · rw [Bool.eq_false_iff.mpr e, Bool.false_and] at q
      exact q
end
/-! ### places, squares, floors: are they right? -/
abbrev FarI : Int := 1000000000000000000000000000000000000000000000000000000000000
def spPlaceOk (K : PySem.W.Frag) : Sp := fun vs H Q _ => ∃ (v : V) (p : Pt), vs = [v] ∧ Tp K H v (.tuple [.int p.1, .int p.2]) ∧ InB FarI p ∧ Q (.bl true) H
def spSquareOk (K : PySem.W.Frag) : Sp := fun vs H Q _ => ∃ (v : V) (c : Int) (s : Sq), vs = [v, .int c] ∧ Tp K H v (sqD s) ∧ InB FarI s.pt ∧ 1 ≤ s.2.2 ∧ s.2.2 < c ∧ ∀ H', Same H H' → Q (.bl true) H'
def spFloorOk (K : PySem.W.Frag) : Sp := fun vs H Q _ => ∃ (v : V) (c : Nat) (F : List Sq), vs = [v, .int c] ∧ Tp K H v (floorD F) ∧ FlOk c FarI F ∧ F.length ≤ 1000 ∧ ∀ H', Same H H' → Q .non H'
def spNumberOk : Sp := fun vs H Q _ => ∃ v lo hi : Int, vs = [.int v, .int lo, .int hi] ∧ lo ≤ v ∧ v ≤ hi ∧ Q .non H
def spWalkerOk (K : PySem.W.Frag) : Sp := fun vs H Q _ => ∃ (v : V) (n : Nat) (w : Wk), vs = [v, .int n] ∧ Tp K H v (wkD w) ∧ InB FarI (wPt w) ∧ (0 ≤ w.2.2.1 ∧ w.2.2.1 < 4) ∧ (0 ≤ w.2.2.2 ∧ w.2.2.2 < n) ∧ ∀ H', Same H H' → Q (.bl true) H'
def spCheckW (K : PySem.W.Frag) : Sp := fun vs H Q _ => ∃ (v : V) (n : Nat) (w : Wk), vs = [v, .int n] ∧ Tp K H v (wkD w) ∧ InB FarI (wPt w) ∧ (0 ≤ w.2.2.1 ∧ w.2.2.1 < 4) ∧ (0 ≤ w.2.2.2 ∧ w.2.2.2 < n) ∧ ∀ H', Same H H' → Q .non H'
theorem in_dec {a b v : Int} (h1 : a ≤ v) (h2 : v ≤ b) : (decide (a ≤ v) && decide (v ≤ b)) = true := by
  rw [decide_eq_true h1, decide_eq_true h2]
  rfl
theorem leT_false {a b c d : Int} (h : c < a ∨ (c = a ∧ d < b)) : Ob.lexAt (fun j => decide (([a, b] : List Int).getD j 0 = ([c, d] : List Int).getD j 0)) (fun j => decide (([a, b] : List Int).getD j 0 ≤ ([c, d] : List Int).getD j 0)) (decide (([a, b] : List Int).length ≤ ([c, d] : List Int).length)) 0 (min ([a, b] : List Int).length ([c, d] : List Int).length) = false := by
  show (if decide (a = c) = true then (if decide (b = d) = true then true else decide (b ≤ d)) else decide (a ≤ c)) = false
  by_cases e1 : a = c
  · rw [if_pos (decide_eq_true e1), if_neg (fun z => by have := of_decide_eq_true z; omega)]
    exact decide_eq_false (by omega)
  · rw [if_neg (fun z => e1 (of_decide_eq_true z))]
    exact decide_eq_false (by omega)
section
variable {P : Program} {w : World} {K : PySem.W.Frag} {mg : Str → Option Value} {base : Heap}
theorem ok_is_place (T : Txt K mg) (D : DefAt K mg "is_place" s_is_place ["value"]) (C_is_whole : Cal P w K mg base CX0 "is_whole" 1 ["value", "least", "greatest"] spWhole) : Cal P w K mg base CX0 "is_place" 2 ["value"] (spPlaceOk K) := by
  refine D.cal sc_is_place (fun vs H Q E h => ?_) (fun f cdv A outer s H vs Q E hr h => ?_)
  · obtain ⟨v, p, rfl, _⟩ := h
    rfl
  · obtain ⟨v, p, rfl, hv, hb, q⟩ := h
    refine ⟨_, (pss_cons (ps_if (PW.pt (pw_or (pt_not (pt_val (pe_callB (k_isN (K := K)) (by rfl) T.m_isinstance (by decide +kernel) (pa_cons (pv 0) (pa_cons (pe_ty "tuple" (by rfl) T.m_tuple (by decide +kernel)) pa_nil))))) (pw_or1 (pt_cmpR op_ne (pe_callB (k_len_t (K := K)) (by rfl) T.m_len (by decide +kernel) (pa_cons (pv 0) pa_nil)) pe_int (nomark _))))) (pss_one (ps_ret pe_bl)) pss_nil)
      (pss_one (ps_ret (pe_and (pe_own C_is_whole hr (by first | decide | omega) (pa_cons (pe_ix (k_ix_tup (K := K)) (pv 0) pe_int (fun _ _ => rfl)) (pa_cons (pe_un un_neg (pe_gint (by rfl) T.far)) (pa_cons (pe_gint (by rfl) T.far) pa_nil)))) (pe_one (pe_own C_is_whole hr (by first | decide | omega) (pa_cons (pe_ix (k_ix_tup (K := K)) (pv 0) pe_int (fun _ _ => rfl)) (pa_cons (pe_un un_neg (pe_gint (by rfl) T.far)) (pa_cons (pe_gint (by rfl) T.far) pa_nil))))))))), ?_⟩
    obtain ⟨a, rfl, hs⟩ := hv.int2
    obtain ⟨⟨b1, b2⟩, b3, b4⟩ := hb
    walk_at "st"
    rw [in_dec b1 b2]
    refine iteT ?_
    walk_at "st"
    rw [in_dec b3 b4]
    exact q
theorem ok_check_number (T : Txt K mg) (D : DefAt K mg "check_number" s_check_number ["value", "least", "greatest"]) (C_is_whole : Cal P w K mg base CX0 "is_whole" 1 ["value", "least", "greatest"] spWhole) : Cal P w K mg base CX0 "check_number" 2 ["value", "least", "greatest"] spNumberOk := by
  refine D.cal sc_check_number (fun vs H Q E h => ?_) (fun f cdv A outer s H vs Q E hr h => ?_)
  · obtain ⟨v, lo, hi, rfl, _⟩ := h
    rfl
  · obtain ⟨v, lo, hi, rfl, b1, b2, q⟩ := h
    refine ⟨_, (pss_one (ps_if (pt_not (pt_val (pe_own C_is_whole hr (by first | decide | omega) (pa_cons (pv 0) (pa_cons (pv 1) (pa_cons (pv 2) pa_nil)))))) (pss_one ps_never) pss_nil)), ?_⟩
    walk_at "st"
    rw [in_dec b1 b2]
    refine if_not ?_
    exact q
theorem ok_u_is_square (T : Txt K mg) (D : DefAt K mg "_is_square" s_u_is_square ["value", "colours"]) (C_is_whole : Cal P w K mg base CX0 "is_whole" 1 ["value", "least", "greatest"] spWhole) (C_is_place : Cal P w K mg base CX0 "is_place" 2 ["value"] (spPlaceOk K)) : Cal P w K mg base CX0 "_is_square" 3 ["value", "colours"] (spSquareOk K) := by
  refine D.cal sc_u_is_square (fun vs H Q E h => ?_) (fun f cdv A outer s H vs Q E hr h => ?_)
  · obtain ⟨v, c, s, rfl, _⟩ := h
    rfl
  · obtain ⟨v, c, s, rfl, hv, hb, c1, c2, q⟩ := h
    refine ⟨_, (pss_cons (ps_if (PW.pt (pw_or (pt_not (pt_val (pe_callB (k_isN (K := K)) (by rfl) T.m_isinstance (by decide +kernel) (pa_cons (pv 0) (pa_cons (pe_ty "tuple" (by rfl) T.m_tuple (by decide +kernel)) pa_nil))))) (pw_or1 (pt_cmpR op_ne (pe_callB (k_len_t (K := K)) (by rfl) T.m_len (by decide +kernel) (pa_cons (pv 0) pa_nil)) pe_int (nomark _))))) (pss_one (ps_ret pe_bl)) pss_nil)
      (pss_one (ps_ret (pe_and (pe_own C_is_place hr (by first | decide | omega) (pa_cons (pe_slice (k_sl_tup (K := K)) (pv 0) po_none (po_some pe_int)) pa_nil)) (pe_one (pe_own C_is_whole hr (by first | decide | omega) (pa_cons (pe_ix (k_ix_tup (K := K)) (pv 0) pe_int (fun _ _ => rfl)) (pa_cons pe_int (pa_cons (pe_op op_sub (pv 1) pe_int) pa_nil))))))))), ?_⟩
    obtain ⟨a, rfl, hs⟩ := hv.int3
    walk_at "st"
    intro p np
    have s1 : Same H (upd H p (.tup [.int s.1, .int s.2.1])) := Same.new np
    have hs1 := TK.seqT (Same.tk s1) hs
    refine ⟨.ref p, s.pt, rfl, Tp.of_ints (ks := [s.1, s.2.1]) (SqT.of upd_same), hb, ?_⟩
    refine ⟨_, rfl, iteT ?_⟩
    walk_at "st"
    rw [in_dec (by omega) (by omega)]
    exact q _ s1
end

section
variable {P : Program} {w : World} {K : PySem.W.Frag} {mg : Str → Option Value} {base : Heap}
theorem SqV.get {H : Hp} {vs : List V} {F : List Sq} (h : TpAll K H vs (F.map sqD)) {i : Nat} {v : V} (e : vs[i]? = some v) : ∃ s, F[i]? = some s ∧ Tp K H v (sqD s) := by
  have hl : vs.length = F.length := by rw [TpAll.length h, List.length_map]
  have hi : i < F.length := by
    have z : i < vs.length := (List.getElem?_eq_some_iff.mp e).1
    omega
  obtain ⟨z, e2, hz⟩ := h.get (i := i) (d := sqD F[i]) (by rw [List.getElem?_map, List.getElem?_eq_getElem hi]; rfl)
  rw [e] at e2
  cases e2
  exact ⟨_, List.getElem?_eq_getElem hi, hz⟩
theorem ok_check_floor (T : Txt K mg) (D : DefAt K mg "check_floor" s_check_floor ["value", "colours"]) (C_is_square : Cal P w K mg base CX0 "_is_square" 3 ["value", "colours"] (spSquareOk K)) : Cal P w K mg base CX0 "check_floor" 4 ["value", "colours"] (spFloorOk K) := by
  refine D.cal sc_check_floor (fun vs H Q E h => ?_) (fun f cdv A outer s H vs Q E hr h => ?_)
  · obtain ⟨v, c, F, rfl, _⟩ := h
    rfl
  · obtain ⟨v, c, F, rfl, hv, hF, hl, q⟩ := h
    refine ⟨_, (pss_cons (ps_if (PW.pt (pw_or (pt_not (pt_val (pe_callB (k_isN (K := K)) (by rfl) T.m_isinstance (by decide +kernel) (pa_cons (pv 0) (pa_cons (pe_ty "tuple" (by rfl) T.m_tuple (by decide +kernel)) pa_nil))))) (pw_or1 (pt_cmpR op_gt (pe_callB (k_len_t (K := K)) (by rfl) T.m_len (by decide +kernel) (pa_cons (pv 0) pa_nil)) (pe_gint (by rfl) T.most_squares) (nomark _))))) (pss_one ps_never) pss_nil)
      (pss_one (ps_for PassesOwn.never rfl (k_enT (K := K) (by rfl) T.m_enumerate (pa_cons (pv 0) pa_nil)) (pg_tup (by rfl) (pgs_cons (pg_name (i := 2) sc_check_floor.nd rfl (Or.inl rfl)) (pgs_cons (pg_name (i := 3) sc_check_floor.nd rfl (Or.inl rfl)) pgs_nil)))
      (pss_cons (ps_if (pt_not (pt_val (pe_own C_is_square hr (by first | decide | omega) (pa_cons (pv 3) (pa_cons (pv 1) pa_nil))))) (pss_one ps_never) pss_nil)
      (pss_one (ps_if (PW.pt (pw_and (pt_cmpR op_gt (pv 2) pe_int (nomark _)) (pw_and1 (pt_cmpR (k_leT (K := K) hr.units0) (pe_slice (k_sl_tup (K := K)) (pv 3) po_none (po_some pe_int)) (pe_slice (k_sl_tup (K := K)) (pe_ix (k_ix_tup (K := K)) (pv 0) (pe_op op_sub (pv 2) pe_int) (fun _ _ => rfl)) po_none (po_some pe_int)) (nomark _))))) (pss_one ps_never) pss_nil)))))), ?_⟩
    obtain ⟨a, vs, rfl, hs, hvs⟩ := hv.tupI
    have hlen : vs.length = F.length := by rw [TpAll.length hvs, List.length_map]
    walk_at "st"
    refine ite2 (fun e => absurd (of_decide_eq_true e) (by omega)) (fun _ => ?_)
    walk_at "st"
    refine for_it (walkEn (K := K) (a := a) (xs := vs)) (fun i σ H' => Ok (∃ y1 y2, σ = [some (.ref a), some (.int c), y1, y2] ∧ Same H H')) ⟨_, _, rfl, Same.refl H⟩ (fun i σ H' _ ⟨y1, y2, _, sm⟩ => TK.seqT (Same.tk sm) hs) ?_ ?_
    · rintro i x σ H' H2 hi ⟨y1, y2, rfl, sm⟩ ⟨t, z, y, rfl, nt, rfl, e1, e2⟩
      cases e1
      obtain ⟨s, hsF, hz⟩ := SqV.get hvs e2
      have s2 : Same H (upd H' t (.tup [.int (i : Nat), y])) := Same.trans sm (Same.new nt)
      have hsq := Tp.mono (Same.tk s2) _ _ hz
      obtain ⟨b, rfl, hsb⟩ := hsq.int3
      have hs2 := TK.seqT (Same.tk s2) hs
      obtain ⟨k1, k2, k3⟩ := hF.sq s (List.mem_of_getElem? hsF)
      walk_at "st"
      intro H3 s3
      have s03 := Same.trans s2 s3
      have hs3 := TK.seqT (Same.tk s03) hs
      have hsb3 := TK.seqT (Same.tk s3) hsb
      walk_at "st"
      refine ite2 (fun e => ?_) (fun e => ?_)
      · have hi0 : 0 < i := by
          have := of_decide_eq_true e
          omega
        have l1 : i - 1 < vs.length := by omega
        have hat : atI vs ((i : Int) - 1) = some vs[i - 1] := by
          rw [show ((i : Int) - 1) = ((i - 1 : Nat) : Int) by omega]
          exact atI_nat (List.getElem?_eq_getElem l1)
        obtain ⟨s0, hs0F, hz0⟩ := SqV.get hvs (List.getElem?_eq_getElem l1)
        have hz0 := Tp.mono (Same.tk s03) _ _ hz0
        have lt : ltP s0.pt s.pt := by
          obtain ⟨l2, e3⟩ := List.getElem?_eq_some_iff.mp hs0F
          obtain ⟨l3, e4⟩ := List.getElem?_eq_some_iff.mp hsF
          have z := List.pairwise_iff_getElem.mp hF.asc (i - 1) i l2 l3 (by omega)
          rw [e3, e4] at z
          exact z
        obtain ⟨b0, e5, hs0⟩ := hz0.int3
        rw [e5] at hat
        walk_at "st"
        intro p np
        have s4 : Same H3 (upd H3 p (.tup [.int s.1, .int s.2.1])) := Same.new np
        have hs4 := TK.seqT (Same.tk s4) hs3
        have hs04 := TK.seqT (Same.tk s4) hs0
        have hp : (upd H3 p (.tup [.int s.1, .int s.2.1])) p = some (.tup (([s.1, s.2.1] : List Int).map V.int)) := upd_same
        walk_at "st"
        intro p2 np2
        have s5 : Same (upd H3 p (.tup [.int s.1, .int s.2.1])) (upd (upd H3 p (.tup [.int s.1, .int s.2.1])) p2 (.tup [.int s0.1, .int s0.2.1])) := Same.new np2
        refine ⟨p, p2, [s.1, s.2.1], [s0.1, s0.2.1], rfl, rfl, SqT.of (s5 _ _ hp), SqT.of upd_same, ?_⟩
        rw [leT_false (a := s.1) (b := s.2.1) (c := s0.1) (d := s0.2.1) lt]
        walk_at "st"
        exact ⟨_, _, rfl, Same.trans s03 (Same.trans s4 s5)⟩
      · walk_at "st"
        exact ⟨_, _, rfl, s03⟩
    · rintro σ H' ⟨y1, y2, rfl, sm⟩
      exact q H' sm
end

/-! ### turned -/
/-- a floor, and how its squares stand when the turned floor is painted so -/
def rotF : Nat → (Pt → Int) → Pt → Int
  | 0, f => f
  | q + 1, f => fun p => rotF q f (unrotP p)
def rotS (s : Sq) : Sq := (-s.2.1, s.1, s.2.2)
def rotL : Nat → List Sq → List Sq
  | 0, F => F
  | q + 1, F => (rotL q F).map rotS
theorem rotL_len : ∀ (q : Nat) (F : List Sq), (rotL q F).length = F.length
  | 0, _ => rfl
  | q + 1, F => by
    show ((rotL q F).map rotS).length = _
    rw [List.length_map, rotL_len q F]
/-- the squares, in any order, are those of f -/
structure SqsOf (f : Pt → Int) (F : List Sq) : Prop where
  nd : F.Pairwise fun a b => a.pt ≠ b.pt
  mem : ∀ s : Sq, s ∈ F ↔ s.2.2 = f s.pt ∧ s.2.2 ≠ 0
theorem FloorOf.sqs {f : Pt → Int} {F : List Sq} (h : FloorOf f F) : SqsOf f F := ⟨h.asc.imp fun {a b} l => fun (e : a.pt = b.pt) => ltP_irr a.pt (by
    rw [← e] at l
    exact l), h.mem⟩
theorem rotS_pt (s : Sq) : (rotS s).pt = rotP s.pt := rfl
theorem SqsOf.rot {f : Pt → Int} {F : List Sq} (h : SqsOf f F) : SqsOf (fun p => f (unrotP p)) (F.map rotS) := by
  refine ⟨?_, fun s => ?_⟩
  · rw [List.pairwise_map]
    refine h.nd.imp fun {a b} n e => n ?_
    have e1 : rotP a.pt = rotP b.pt := e
    have e2 := rot_iff.mp e1
    rw [← e2, rot_iff.mp rfl]
  · rw [List.mem_map]
    constructor
    · rintro ⟨t, ht, rfl⟩
      obtain ⟨h1, h2⟩ := (h.mem t).mp ht
      refine ⟨?_, h2⟩
      show t.2.2 = f (unrotP (rotS t).pt)
      rw [rotS_pt, rot_iff.mp rfl]
      exact h1
    · rintro ⟨h1, h2⟩
      refine ⟨(s.2.1, -s.1, s.2.2), (h.mem _).mpr ⟨h1, h2⟩, ?_⟩
      obtain ⟨x, y, k⟩ := s
      show (-(-x), y, k) = (x, y, k)
      rw [Int.neg_neg]
theorem SqsOf.rots {f : Pt → Int} {F : List Sq} (h : SqsOf f F) : ∀ q, SqsOf (rotF q f) (rotL q F)
  | 0 => h
  | q + 1 => (h.rots q).rot
/-- sorted, they are the floor -/
theorem SqsOf.sorted {f : Pt → Int} {F G : List Sq} (h : SqsOf f F) (pm : G.Perm F) (pw : G.Pairwise fun a b => ltZ [b.1, b.2.1, b.2.2] [a.1, a.2.1, a.2.2] = false) : FloorOf f G := by
  have ndG : G.Pairwise fun a b => a.pt ≠ b.pt := by
    have z : (F.map Sq.pt).Nodup := List.pairwise_map.mpr h.nd
    have y : (G.map Sq.pt).Nodup := (pm.map Sq.pt).nodup_iff.mpr z
    exact List.pairwise_map.mp y
  refine ⟨List.Pairwise.imp₂ (fun a b h1 h2 => ?_) pw ndG, fun s => pm.mem_iff.trans (h.mem s)⟩
  have h3 : ¬ (b.1 < a.1 ∨ (¬ a.1 < b.1 ∧ b.2.1 < a.2.1)) := fun z => by
    have e : ltZ [b.1, b.2.1, b.2.2] [a.1, a.2.1, a.2.2] = true := by
      show (decide (b.1 < a.1) || (!decide (a.1 < b.1) && (decide (b.2.1 < a.2.1) || (!decide (a.2.1 < b.2.1) && ltZ [b.2.2] [a.2.2])))) = true
      rcases z with z | ⟨z1, z2⟩
      · rw [decide_eq_true z]
        rfl
      · rw [decide_eq_false z1, decide_eq_true z2, Bool.or_eq_true]
        exact .inr rfl
    rw [e] at h1
    cases h1
  have h4 : ¬ (a.1 = b.1 ∧ a.2.1 = b.2.1) := fun z => h2 (Prod.ext z.1 z.2)
  show a.1 < b.1 ∨ (a.1 = b.1 ∧ a.2.1 < b.2.1)
  omega
def spTurned (K : PySem.W.Frag) : Sp := fun vs H Q _ => ∃ (fv : V) (F : List Sq) (f : Pt → Int) (c : Nat) (q : Int), vs = [fv, .int q] ∧ Tp K H fv (floorD F) ∧ FloorOf f F ∧ FlOk c FarI F ∧ c ≤ 6 ∧ F.length ≤ 1000 ∧ 0 ≤ q ∧ q < 4 ∧
  ∀ v H' G, FloorOf (rotF q.toNat f) G → G.length = F.length → Tp K H' v (floorD G) → Same H H' → Q v H'
theorem FlOk.more {c c' : Nat} {B : Int} {F : List Sq} (h : FlOk c B F) (l : c ≤ c') : FlOk c' B F := ⟨h.asc, fun s hs => by
  have := h.sq s hs
  exact ⟨this.1, this.2.1, by omega⟩⟩
theorem sqs_refs {K : PySem.W.Frag} {H : Hp} : ∀ {ws : List V} {F : List Sq}, TpAll K H ws (F.map sqD) → ∃ bs : List (Addr × List Int), ws = bs.map (fun b => .ref b.1) ∧ bs.map (·.2) = F.map (fun s => [s.1, s.2.1, s.2.2]) ∧ ∀ b ∈ bs, SqT K H b.1 (b.2.map V.int) ∧ b.2 ≠ []
  | _, [], h => ⟨[], h.nilI, rfl, fun b hb => nomatch hb⟩
  | _, s :: F, h => by
    obtain ⟨v, ws, rfl, h1, h2⟩ := h.consI
    obtain ⟨a, rfl, hs⟩ := h1.int3
    obtain ⟨bs, rfl, e, hb⟩ := sqs_refs h2
    refine ⟨(a, [s.1, s.2.1, s.2.2]) :: bs, rfl, ?_, fun b hm => ?_⟩
    · rw [List.map_cons, e]
      rfl
    · rcases List.mem_cons.mp hm with rfl | hm
      · exact ⟨hs, by intro z; cases z⟩
      · exact hb b hm
section
variable {P : Program} {w : World} {K : PySem.W.Frag} {mg : Str → Option Value} {base : Heap}
theorem ok_turned (T : Txt K mg) (D : DefAt K mg "turned" s_turned ["floor", "quarters"]) (C_check_floor : Cal P w K mg base CX0 "check_floor" 4 ["value", "colours"] (spFloorOk K)) (C_check_number : Cal P w K mg base CX0 "check_number" 2 ["value", "least", "greatest"] spNumberOk) : Cal P w K mg base CX0 "turned" 5 ["floor", "quarters"] (spTurned K) := by
  refine D.cal sc_turned (fun vs H Q E h => ?_) (fun f cdv A outer s H vs Q E hr h => ?_)
  · obtain ⟨fv, F, f, c, q, rfl, _⟩ := h
    rfl
  · obtain ⟨fv, F, ff, c, qq, rfl, hf, fo, hok, hc6, hl, q0, q4, q⟩ := h
    refine ⟨_, (pss_cons (ps_expr (pe_own C_check_floor hr (by first | decide | omega) (pa_cons (pv 0) (pa_cons (pe_gint (by rfl) T.most_colours) pa_nil))))
      (pss_cons (ps_expr (pe_own C_check_number hr (by first | decide | omega) (pa_cons (pv 1) (pa_cons pe_int (pa_cons pe_int pa_nil)))))
      (pss_cons (ps_set (i := 2) sc_turned.nd rfl (Or.inl rfl) (pe_callTy (k_list_of (K := K)) (by rfl) T.m_list (by decide +kernel) (pa_cons (pv 0) pa_nil)))
      (pss_cons (ps_for PassesOwn.never rfl (pi_range1 (by rfl) T.m_range (pa_cons (pv 1) pa_nil)) (pg_name (i := 3) sc_turned.nd rfl (Or.inl rfl))
      (pss_one (ps_setLc (i := 2) (own := [("x", 4), ("y", 5), ("colour", 6)]) (g := gTup K 3 (gCons (gName 4) (gCons (gName 5) (gCons (gName 6) gNil)))) rfl sc_turned.nd rfl rfl (sw_true rfl rfl rfl (by decide +kernel)) (k_pi_list (K := K) (pv 2)) (blkOk_by (by rfl)) (fun _ _ _ _ _ => (k_pgT (K := K) 3 (by rfl) (pgs_cons (pg_name (i := 4) sc_turned.nd rfl (Or.inl rfl)) (pgs_cons (pg_name (i := 5) sc_turned.nd rfl (Or.inl rfl)) (pgs_cons (pg_name (i := 6) sc_turned.nd rfl (Or.inl rfl)) pgs_nil))))) (fun _ _ _ _ _ => pts_nil) (fun _ _ _ _ _ => (pe_tup (pa_cons (pe_un un_neg (pv 5)) (pa_cons (pv 4) (pa_cons (pv 6) pa_nil))))))))
      (pss_one (ps_ret (pe_callTy (k_tuple_l (K := K)) (by rfl) T.m_tuple (by decide +kernel) (pa_cons (pe_callB (k_sortT (K := K)) (by rfl) T.m_sorted (by decide +kernel) (pa_cons (pv 2) pa_nil)) pa_nil)))))))), ?_⟩
    have hok6 := hok.more hc6
    obtain ⟨a, vs, rfl, hs, hvs⟩ := hf.tupI
    walk_at "st"
    intro H1 s1
    have hs1 := TK.seqT (Same.tk s1) hs
    have hvs1 := TpAll.mono (Same.tk s1) _ _ hvs
    have hor : SqL K H1 a vs ∨ SqT K H1 a vs := .inr hs1
    have q3 : qq ≤ 3 := by omega
    walk_at "st"
    intro L nL
    have s2 : Same H (upd H1 L (.lst vs)) := Same.trans s1 (Same.new nL)
    have hvs2 := TpAll.mono (Same.tk (Same.new (o := .lst vs) nL)) _ _ hvs1
    walk_at "st"
    refine for_range (lo := 0) (n := qq.toNat) (fun i σ H' => Ok (∃ (y3 y4 y5 y6 : Option V) (L : Addr) (ws : List V), σ = [some (.ref a), some (.int qq), some (.ref L), y3, y4, y5, y6] ∧ Same H H' ∧ H' L = some (.lst ws) ∧ TpAll K H' ws ((rotL i F).map sqD))) ?_ ?_ ?_
    · exact ⟨_, _, _, _, L, vs, rfl, s2, upd_same, hvs2⟩
    · rintro i σ H' hi ⟨y3, y4, y5, y6, L, ws, rfl, sm, hL, hws⟩
      have lws : ws.length = F.length := by rw [TpAll.length hws, List.length_map, rotL_len]
      walk_at "st"
      intro M nM
      refine lc_it (walk_list (K := K) (a := L) (xs := ws)) (fun j H2 => Ok (Same H' H2 ∧ ∃ us, H2 M = some (.lst us) ∧ TpAll K H2 us ((((rotL i F).take j).map rotS).map sqD))) ⟨Same.new nM, [], upd_same, .nil⟩ (fun j H2 _ ⟨s3, _⟩ => SqL.of (s3 _ _ hL)) ?_ ?_
      · rintro j x H2 H3 hj ⟨s3, us, hM, hus⟩ ⟨rfl, hx⟩
        obtain ⟨s, hsF, hz⟩ := SqV.get hws hx
        have hz := Tp.mono (Same.tk s3) _ _ hz
        obtain ⟨b, rfl, hsb⟩ := hz.int3
        walk_at "st"
        intro p np
        have s4 : Same H3 (upd H3 p (.tup [.int (-s.2.1), .int s.1, .int s.2.2])) := Same.new np
        have hM4 := s4 _ _ hM
        have lus : us.length = j := by
          rw [TpAll.length hus, List.length_map, List.length_map, List.length_take, rotL_len]
          omega
        have hsz : us.length < sizeLine := small1000 (by omega)
        have t5 : TK (upd H3 p (.tup [.int (-s.2.1), .int s.1, .int s.2.2])) (upd (upd H3 p (.tup [.int (-s.2.1), .int s.1, .int s.2.2])) M (.lst (us ++ [.ref p]))) := TK.lst hM4
        refine ⟨us, hM4, hsz, Same.fresh (Same.trans s3 s4) nM, us ++ [.ref p], upd_same, ?_⟩
        rw [take_more hsF, List.map_append, List.map_append]
        exact TpAll.append (TpAll.mono ((Same.tk s4).trans t5) _ _ hus) (.cons (Tp.mono t5 _ _ (Tp.of_ints (ks := [-s.2.1, s.1, s.2.2]) (SqT.of upd_same))) .nil)
      · rintro H2 ⟨s3, us, hM, hus⟩
        rw [show ws.length = (rotL i F).length by rw [lws, rotL_len], List.take_length] at hus
        exact ⟨_, _, _, _, M, us, rfl, Same.trans sm s3, hM, hus⟩
    · rintro σ H' ⟨y3, y4, y5, y6, L, ws, rfl, sm, hL, hws⟩
      obtain ⟨bs0, e0, e1, hb⟩ := sqs_refs hws
      have hor : SqL K H' L (bs0.map fun b => .ref b.1) := SqL.of (by rw [← e0]; exact hL)
      refine ⟨_, rfl, L, bs0, rfl, hor, hb, fun p bs np pm pw => ?_⟩
      have pm2 : (bs.map (·.2)).Perm ((rotL qq.toNat F).map fun s => [s.1, s.2.1, s.2.2]) := by
        rw [← e1]
        exact pm.map _
      obtain ⟨G, pG, eG⟩ := perm_lift (fun s : Sq => [s.1, s.2.1, s.2.2]) pm2 _ rfl
      have pwG : G.Pairwise fun a b => ltZ [b.1, b.2.1, b.2.2] [a.1, a.2.1, a.2.2] = false := by
        have z : (bs.map (·.2)).Pairwise fun x y => ltZ y x = false := List.pairwise_map.mpr pw
        rw [← eG] at z
        exact List.pairwise_map.mp z
      refine ⟨p, _, rfl, SqL.of upd_same, fun l nl => ?_⟩
      have sP : Same H' (upd (upd H' p (.lst (bs.map fun b => .ref b.1))) l (.tup (bs.map fun b => .ref b.1))) := Same.trans (Same.new np) (Same.new nl)
      refine q _ _ G ((fo.sqs.rots qq.toNat).sorted pG pwG) (by rw [pG.length_eq, rotL_len]) (.tup (SqT.of upd_same) ?_) (Same.trans sm sP)
      exact sqs_tp (fun b h => TK.seqT (Same.tk sP) (hb b (pm.mem_iff.mp h)).1) eG.symm
end

/-! ### a floor's text, read -/
/-- an error's place, or the squares in the order of the text -/
def readGo : Nat → Nat → Nat → Nat → List Sq → List Nat → Nat ⊕ List Sq
  | _, _, _, _, sq, [] => .inr sq
  | 0, _, _, _, sq, _ :: _ => .inr sq
  | f + 1, a, x, y, sq, c :: l => match runLen (c :: l) with
    | none => .inl (a + figN (c :: l))
    | some (n, s, r) =>
      if s = 47 then (if 10000 ≤ y + 1 then .inl (a + figN (c :: l)) else readGo f (a + figN (c :: l) + 1) 0 (y + 1) sq r)
      else if 9999 < x + n then .inl (a + figN (c :: l)) else readGo f (a + figN (c :: l) + 1) (x + n) y (sq ++ runSq x y s (min n (4001 - sq.length))) r
theorem runSq_len (x y : Int) (c n : Nat) : (runSq x y c n).length ≤ n := by
  unfold runSq
  split
  · exact Nat.zero_le _
  · rw [List.length_map, List.length_range]
    exact Nat.le_refl _
theorem runLen_at {l r : List Nat} {n s : Nat} (h : runLen l = some (n, s, r)) : l[figN l]? = some s ∧ r = l.drop (figN l + 1) ∧ s ∈ sgnS := by
  cases e : l[figN l]? with
  | none =>
    rw [runLen_none e] at h
    cases h
  | some c =>
    rw [runLen_some e] at h
    split at h
    · rename_i m
      split at h
      · cases h
        exact ⟨rfl, rfl, m⟩
      · split at h
        · cases h
        · cases h
          exact ⟨rfl, rfl, m⟩
    · cases h
theorem readGo_step {f a x y : Nat} {sq : List Sq} {l : List Nat} (ne : l ≠ []) (hf : l.length ≤ f) : readGo f a x y sq l = match runLen l with
    | none => .inl (a + figN l)
    | some (n, s, r) =>
      if s = 47 then (if 10000 ≤ y + 1 then .inl (a + figN l) else readGo (f - 1) (a + figN l + 1) 0 (y + 1) sq r)
      else if 9999 < x + n then .inl (a + figN l) else readGo (f - 1) (a + figN l + 1) (x + n) y (sq ++ runSq x y s (min n (4001 - sq.length))) r := by
  cases l with
  | nil => exact absurd rfl ne
  | cons c l =>
    cases f with
    | zero => cases hf
    | succ f => rfl
def readF (l : List Nat) : Nat ⊕ List Sq := match readGo l.length 0 0 0 [] l with
  | .inl p => .inl p
  | .inr sq => if 4000 < sq.length then .inl 0 else .inr sq
def spReadF (K : PySem.W.Frag) (CI : Addr) : Sp := fun vs H Q E => ∃ z : Str, vs = [.str z] ∧ z.length ≤ 100000 ∧ (∀ sq, readF (tl z) = .inr sq → ∀ v H' (G : List Sq), G.Perm sq → (G.Pairwise fun a b => ltZ [b.1, b.2.1, b.2.2] [a.1, a.2.1, a.2.2] = false) → Tp K H' v (floorD G) → Same H H' → Q v H') ∧ (∀ p, readF (tl z) = .inl p → ∀ d H', H' d = some (.xd [("place", .int (p : Nat))]) → Same H H' → E (.ref CI) (some d) H')
section
variable {P : Program} {w : World} {K : PySem.W.Frag} {mg : Str → Option Value} {base : Heap}
local macro_rules | `(tactic| walk_at "cl") => `(tactic| first | (refine le_only ?_; omega) | (refine lt_only ?_; omega) | assumption)
theorem ok_read_floor (T : Txt K mg) {CN CI : Addr} (TI : ExcCls K mg "InvalidText" CI) (FI : ExcInit1 P w K mg base CI "place") (D : DefAt K mg "read_floor" s_read_floor ["text"]) (C_check_text : Cal P w K mg base (L2.CX P w) "check_text" 1 ["value"] (spCheckText CN)) (C_behind_figures : Cal P w K mg base CX0 "_behind_figures" 1 ["text", "at"] spBehind) (C_run_length : Cal P w K mg base (L2.CX P w) "_run_length" 3 ["text", "at", "sign_at"] (spRunLen CI)) (C_run_squares : Cal P w K mg base CX0 "_run_squares" 1 ["x", "y", "sign", "many"] (spRunSq K)) : Cal P w K mg base (L2.CX P w) "read_floor" 4 ["text"] (spReadF K CI) := by
  refine D.calX sc_read_floor (fun vs H Q E h => ?_) (fun f cdv A outer s H vs Q E hr h => ?_)
  · obtain ⟨z, rfl, _⟩ := h
    rfl
  · obtain ⟨z, rfl, hz, q, e⟩ := h
    refine ⟨_, (pss_cons (ps_expr (pe_ownS C_check_text (takes_of rfl rfl rfl rfl) hr (by decide) (by exact (pa_cons (pv 0) pa_nil))))
      (pss_cons (ps_set (i := 1) sc_read_floor.nd rfl (Or.inl rfl) (pe_lst pa_nil))
      (pss_cons (ps_asg3 pe_int (pg_name (i := 2) sc_read_floor.nd rfl (Or.inl rfl)) (pg_name (i := 3) sc_read_floor.nd rfl (Or.inl rfl)) (pg_name (i := 4) sc_read_floor.nd rfl (Or.inl rfl)))
      (pss_cons (ps_while (passes_of rfl) (pt_cmpR op_lt (pv 4) (pe_callB call_len_str (by rfl) T.m_len (by decide +kernel) (pa_cons (pv 0) pa_nil)) (nomark _)) (pss_cons (ps_set (i := 5) sc_read_floor.nd rfl (Or.inl rfl) (pe_own C_behind_figures hr (by first | decide | omega) (pa_cons (pv 0) (pa_cons (pv 4) pa_nil))))
      (pss_cons (ps_set (i := 6) sc_read_floor.nd rfl (Or.inl rfl) (pe_ownS C_run_length (takes_of rfl rfl rfl rfl) hr (by decide) (by exact (pa_cons (pv 0) (pa_cons (pv 4) (pa_cons (pv 5) pa_nil))))))
      (pss_cons (ps_if (pt_cmpR op_eq (pe_ix ix_str (pv 0) (pv 5) (fun _ _ => rfl)) pe_str (nomark _)) (pss_cons (ps_set (i := 2) sc_read_floor.nd rfl (Or.inl rfl) pe_int)
      (pss_one (ps_aug (i := 3) sc_read_floor.nd rfl (Or.inl rfl) pe_int ip_add))) (pss_cons (ps_set (i := 7) sc_read_floor.nd rfl (Or.inl rfl) (pe_callB (call_min2 rfl) (by rfl) T.m_min (by decide +kernel) (pa_cons (pv 6) (pa_cons (pe_op op_sub (pe_op op_add (pe_gint (by rfl) T.most_squares) pe_int) (pe_callB (k_len_l (K := K)) (by rfl) T.m_len (by decide +kernel) (pa_cons (pv 1) pa_nil))) pa_nil))))
      (pss_cons (ps_expr (pe_bm PySem.F.plainAttrs_list PySem.F.slot_list_extend PySem.F.type_list_extend mt_extend (pv 1) (pa_cons (pe_own C_run_squares hr (by first | decide | omega) (pa_cons (pv 2) (pa_cons (pv 3) (pa_cons (pe_ix ix_str (pv 0) (pv 5) (fun _ _ => rfl)) (pa_cons (pv 7) pa_nil))))) pa_nil)))
      (pss_one (ps_aug (i := 2) sc_read_floor.nd rfl (Or.inl rfl) (pv 6) ip_add)))))
      (pss_cons (ps_if (PW.pt (pw_or (pt_cmpR op_gt (pv 2) (pe_gint (by rfl) T.longest_side) (nomark _)) (pw_or1 (pt_cmpR op_ge (pv 3) (pe_gint (by rfl) T.most_rows) (nomark _))))) (pss_one (ps_raise1 rfl (takes_of rfl rfl rfl rfl) TI FI hr (by decide) (by exact (pa_cons (pv 5) pa_nil)))) pss_nil)
      (pss_one (ps_set (i := 4) sc_read_floor.nd rfl (Or.inl rfl) (pe_op op_add (pv 5) pe_int))))))))
      (pss_cons (ps_if (pt_cmpR op_gt (pe_callB (k_len_l (K := K)) (by rfl) T.m_len (by decide +kernel) (pa_cons (pv 1) pa_nil)) (pe_gint (by rfl) T.most_squares) (nomark _)) (pss_one (ps_raise1 rfl (takes_of rfl rfl rfl rfl) TI FI hr (by decide) (by exact (pa_cons pe_int pa_nil)))) pss_nil)
      (pss_one (ps_ret (pe_callTy (k_tuple_l (K := K)) (by rfl) T.m_tuple (by decide +kernel) (pa_cons (pe_callB (k_sortT (K := K)) (by rfl) T.m_sorted (by decide +kernel) (pa_cons (pv 1) pa_nil)) pa_nil))))))))), ?_⟩
    refine ⟨_, rfl, .str z, rfl, .inl ⟨z, rfl, ?_⟩⟩
    walk_at "st"
    intro A nA
    have hzs : z.length ≤ sizeLine := Nat.le_trans hz (by decide)
    rw [show L2.start ["text", "squares", "x", "y", "at", "sign_at", "many", "taken"] [V.str z] = [some (.str z), none, none, none, none, none, none, none] from rfl]
    walk_at "st"
    refine while_by (fun σ H' => ∃ (f a x y : Nat) (y5 y6 y7 : Option V) (ws : List V) (sq : List Sq), σ = [some (.str z), some (.ref A), some (.int (x : Nat)), some (.int (y : Nat)), some (.int (a : Nat)), y5, y6, y7] ∧ H' A = some (.lst ws) ∧ TpAll K H' ws (sq.map sqD) ∧ Same H H' ∧ a ≤ z.length ∧ y ≤ 9999 ∧ sq.length ≤ 4001 ∧ ((tl z).drop a).length ≤ f ∧ readGo f a x y sq ((tl z).drop a) = readGo (tl z).length 0 0 0 [] (tl z)) (fun (σ : L2.St) (_ : Hp) => match σ with | [_, _, _, _, some (.int b), _, _, _] => z.length - b.toNat | _ => 0) ⟨(tl z).length, 0, 0, 0, none, none, none, [], [], rfl, upd_same, .nil, Same.new nA, Nat.zero_le _, Nat.zero_le _, Nat.zero_le _, Nat.le_refl _, rfl⟩ ?_ ?_
    · rintro σ H' ⟨f, a, x, y, y5, y6, y7, ws, sq, rfl, hA, hws, sm, ha, hy, hl, hf, hgo⟩
      walk_at "st"
      refine ite2 (fun c1 => ?_) (fun c1 => ?_)
      · have lt : a < z.length := by
          have := of_decide_eq_true c1
          omega
        have lde : ((tl z).drop a).length = z.length - a := by rw [List.length_drop, ← len_tl]
        have ne : (tl z).drop a ≠ [] := fun v => by
          rw [v] at lde
          have : 0 = z.length - a := lde
          omega
        have hstep := readGo_step (a := a) (x := x) (y := y) (sq := sq) ne hf
        rw [hstep] at hgo
        have hF : ∀ p, Sum.inl p = readGo (tl z).length 0 0 0 [] (tl z) → readF (tl z) = .inl p := fun p hp => by
          show (match readGo (tl z).length 0 0 0 [] (tl z) with | .inl p => Sum.inl p | .inr sq => if 4000 < sq.length then .inl 0 else .inr sq) = _
          rw [← hp]
        walk_at "st"
        refine ⟨fun n sg r hrun H2 s2 => ?_, fun hrun d H2 hd s2 => ?_⟩
        · rw [hrun] at hgo
          obtain ⟨hat, hr0, hsg⟩ := runLen_at hrun
          rw [List.getElem?_drop] at hat
          rw [List.drop_drop] at hr0
          have hat2 : atI z.cps.toList ((a + figN ((tl z).drop a) : Nat) : Int) = some sg := atI_nat hat
          have hA2 := s2 _ _ hA
          have hws2 := TpAll.mono (Same.tk s2) _ _ hws
          have ltk : a + figN ((tl z).drop a) < z.length := by
            have := (List.getElem?_eq_some_iff.mp hat).1
            rw [len_tl]
            exact this
          generalize figN ((tl z).drop a) = k at *
          walk_at "st"
          refine ite2 (fun c2 => ?_) (fun c2 => ?_)
          · have c2 : sg = 47 := by
              have v := V.str.inj (of_decide_eq_true c2)
              have v : (#[sg] : Array Nat) = #[47] := congrArg Str.cps v
              exact (List.cons.inj (congrArg Array.toList v)).1
            have hgo : (if 10000 ≤ y + 1 then Sum.inl (a + k) else readGo (f - 1) (a + k + 1) 0 (y + 1) sq r) = readGo (tl z).length 0 0 0 [] (tl z) := by
              rw [← hgo]
              exact (if_pos c2).symm
            walk_at "st"
            refine ite2 (fun c3 => ?_) (fun c3 => ?_)
            · have c3 : 10000 ≤ y + 1 := by
                have c3 : (10000 : Int) ≤ (y : Int) + 1 := of_decide_eq_true c3
                omega
              rw [if_pos c3] at hgo
              walk_at "st"
              refine raise1 (fun d H6 nd s6 hd => ?_)
              exact e _ (hF _ hgo) d H6 hd (Same.trans sm (Same.trans s2 s6))
            · have c3 : ¬ 10000 ≤ y + 1 := fun m => c3 (decide_eq_true (show (10000 : Int) ≤ (y : Int) + 1 by omega))
              rw [if_neg c3] at hgo
              walk_at "st"
              refine ⟨⟨f - 1, a + k + 1, 0, y + 1, _, _, _, ws, sq, rfl, hA2, hws2, Same.trans sm s2, by omega, by omega, hl, ?_, ?_⟩, ?_⟩
              · rw [List.length_drop, ← len_tl]
                omega
              · rw [← hgo, hr0]
                rfl
              · show z.length - ((a + k + 1 : Nat) : Int).toNat < z.length - ((a : Nat) : Int).toNat
                omega
          · have c2 : sg ≠ 47 := fun v => c2 (by rw [v]; exact decide_eq_true rfl)
            have hgo : (if 9999 < x + n then Sum.inl (a + k) else readGo (f - 1) (a + k + 1) (x + n) y (sq ++ runSq x y sg (min n (4001 - sq.length))) r) = readGo (tl z).length 0 0 0 [] (tl z) := by
              rw [← hgo]
              exact (if_neg c2).symm
            have hSl := SqL.of (K := K) hA2
            have lws : ws.length = sq.length := by rw [TpAll.length hws2, List.length_map]
            walk_at "st"
            rotate_left
            · exact min n (4001 - sq.length)
            · exact sg
            · exact (y : Int)
            · exact (x : Int)
            refine ⟨?_, hsg, c2, by omega, fun L ws2 H3 nL hL hw3 s3 => ?_⟩
            · have e3 : (if (4000 : Int) + 1 - (ws.length : Int) < (n : Int) then (4000 : Int) + 1 - (ws.length : Int) else (n : Int)) = ((min n (4001 - sq.length) : Nat) : Int) := by
                rw [lws]
                split <;> omega
              exact congrArg (fun i => [V.int x, V.int y, V.str ⟨#[sg]⟩, V.int i]) e3
            have hA3 := s3 _ _ hA2
            have lw3 : ws2.length ≤ 4001 - sq.length := by
              rw [TpAll.length hw3, List.length_map]
              exact Nat.le_trans (runSq_len _ _ _ _) (Nat.min_le_right _ _)
            have lsum : ws.length + ws2.length ≤ sizeLine := Nat.le_trans (show _ ≤ 4001 by omega) (by decide)
            walk_at "st"
            refine ite2 (fun c3 => ?_) (fun c3 => ?_)
            · have c3 : 9999 < x + n := by
                have c3 : (9999 : Int) < (x : Int) + (n : Int) := of_decide_eq_true c3
                omega
              rw [if_pos c3] at hgo
              walk_at "st"
              refine raise1 (fun d H6 nd s6 hd => ?_)
              exact e _ (hF _ hgo) d H6 hd (Same.trans (Same.fresh (Same.trans sm (Same.trans s2 s3)) nA) s6)
            · have c3 : ¬ 9999 < x + n := fun m => c3 (decide_eq_true (show (9999 : Int) < (x : Int) + (n : Int) by omega))
              rw [if_neg c3] at hgo
              walk_at "st"
              refine ite2 (fun c4 => ?_) (fun c4 => ?_)
              · have c4 : (10000 : Int) ≤ (y : Int) := of_decide_eq_true c4
                omega
              walk_at "st"
              have tl3 := TK.lst (o := .lst (ws ++ ws2)) hA3
              refine ⟨⟨f - 1, a + k + 1, x + n, y, _, _, _, ws ++ ws2, sq ++ runSq x y sg (min n (4001 - sq.length)), rfl, upd_same, ?_, Same.fresh (Same.trans sm (Same.trans s2 s3)) nA, by omega, hy, ?_, ?_, ?_⟩, ?_⟩
              · rw [List.map_append]
                exact TpAll.append (TpAll.mono (TK.trans (Same.tk s3) tl3) _ _ hws2) (TpAll.mono tl3 _ _ hw3)
              · rw [List.length_append]
                have r1 := Nat.le_trans (runSq_len (x : Int) (y : Int) sg (min n (4001 - sq.length))) (Nat.min_le_right _ _)
                omega
              · rw [List.length_drop, ← len_tl]
                omega
              · rw [← hgo, hr0]
                rfl
              · show z.length - ((a + k + 1 : Nat) : Int).toNat < z.length - ((a : Nat) : Int).toNat
                omega
        · rw [hrun] at hgo
          exact e _ (hF _ hgo) d H2 hd (Same.trans sm s2)
      · have ge : z.length ≤ a := by
          have c1 : ¬ (a : Int) < (z.length : Int) := fun m => c1 (decide_eq_true m)
          omega
        have e0 : (tl z).drop a = [] := List.drop_eq_nil_of_le (by rw [← len_tl]; exact ge)
        have hgo : .inr sq = readGo (tl z).length 0 0 0 [] (tl z) := by
          rw [← hgo, e0]
          cases f <;> rfl
        have hSl := SqL.of (K := K) hA
        have lws : ws.length = sq.length := by rw [TpAll.length hws, List.length_map]
        walk_at "st"
        have hF : readF (tl z) = if 4000 < sq.length then .inl 0 else .inr sq := by
          show (match readGo (tl z).length 0 0 0 [] (tl z) with | .inl p => Sum.inl p | .inr sq => if 4000 < sq.length then .inl 0 else .inr sq) = _
          rw [← hgo]
        refine ite2 (fun c5 => ?_) (fun c5 => ?_)
        · have c5 : 4000 < sq.length := by
            have c5 : (4000 : Int) < (ws.length : Int) := of_decide_eq_true c5
            omega
          rw [if_pos c5] at hF
          walk_at "st"
          refine raise1 (fun d H6 nd s6 hd => ?_)
          exact e _ hF d H6 hd (Same.trans sm s6)
        · have c5 : ¬ 4000 < sq.length := fun m => c5 (decide_eq_true (show (4000 : Int) < (ws.length : Int) by omega))
          rw [if_neg c5] at hF
          obtain ⟨bs0, e0, e1, hb⟩ := sqs_refs hws
          have hor : SqL K H' A (bs0.map fun b => .ref b.1) := SqL.of (by rw [← e0]; exact hA)
          clear hSl
          refine next_of ?_
          refine ⟨_, rfl, A, bs0, rfl, hor, hb, fun p bs np pm pw => ?_⟩
          have pm2 : (bs.map (·.2)).Perm (sq.map fun s => [s.1, s.2.1, s.2.2]) := by
            rw [← e1]
            exact pm.map _
          obtain ⟨G, pG, eG⟩ := perm_lift (fun s : Sq => [s.1, s.2.1, s.2.2]) pm2 _ rfl
          have pwG : G.Pairwise fun a b => ltZ [b.1, b.2.1, b.2.2] [a.1, a.2.1, a.2.2] = false := by
            have z : (bs.map (·.2)).Pairwise fun x y => ltZ y x = false := List.pairwise_map.mpr pw
            rw [← eG] at z
            exact List.pairwise_map.mp z
          refine ⟨p, _, rfl, SqL.of upd_same, fun l nl => ?_⟩
          have sP : Same H' (upd (upd H' p (.lst (bs.map fun b => .ref b.1))) l (.tup (bs.map fun b => .ref b.1))) := Same.trans (Same.new np) (Same.new nl)
          exact q _ hF _ _ G pG pwG (.tup (SqT.of upd_same) (sqs_tp (fun b h => TK.seqT (Same.tk sP) (hb b (pm.mem_iff.mp h)).1) eG.symm)) (Same.trans sm sP)
    · intro σ H' Q Q' hq h
      obtain ⟨v4, e4, v0, e0, z1, r1, r2, i, j, r3, r4, k1, ek, h⟩ := h
      exact ⟨v4, e4, v0, e0, z1, r1, r2, i, j, r3, r4, k1, ek, hq _ _ h⟩
end

/-! ### the texts that the law asks of -/
theorem readGo_slash : ∀ (n f a y : Nat) (sq : List Sq), n ≤ f → readGo f a 0 y sq (List.replicate n 47) = if 10000 ≤ y + n ∧ 0 < n ∧ y < 10000 then .inl (a + (9999 - y)) else if 10000 ≤ y ∧ 0 < n then .inl a else .inr sq
  | 0, f, a, y, sq, _ => by
    rw [if_neg (by omega), if_neg (by omega)]
    cases f <;> rfl
  | n + 1, 0, a, y, sq, h => absurd h (by omega)
  | n + 1, f + 1, a, y, sq, h => by
    have hr : runLen (List.replicate (n + 1) 47) = some (1, 47, List.replicate n 47) := rfl
    have h0 : figN (List.replicate (n + 1) 47) = 0 := rfl
    have e := readGo_step (f := f + 1) (a := a) (x := 0) (y := y) (sq := sq) (l := List.replicate (n + 1) 47) (by simp) (by simpa using h)
    rw [e, hr, h0]
    show (if 47 = 47 then (if 10000 ≤ y + 1 then Sum.inl (a + 0) else readGo (f + 1 - 1) (a + 0 + 1) 0 (y + 1) sq (List.replicate n 47)) else _) = _
    rw [if_pos rfl]
    by_cases c : 10000 ≤ y + 1
    · rw [if_pos c]
      by_cases c2 : y < 10000
      · rw [if_pos ⟨by omega, by omega, c2⟩]
        congr 1
        omega
      · rw [if_neg (by omega), if_pos ⟨by omega, by omega⟩]
        rfl
    · rw [if_neg c]
      rw [show f + 1 - 1 = f from rfl, readGo_slash n f (a + 0 + 1) (y + 1) sq (by omega)]
      by_cases c3 : 10000 ≤ y + (n + 1)
      · rw [if_pos ⟨by omega, by omega, by omega⟩, if_pos ⟨c3, by omega, by omega⟩]
        congr 1
        omega
      · rw [if_neg (by omega), if_neg (by omega), if_neg (by omega), if_neg (by omega)]
theorem readF_slash {n : Nat} : readF (List.replicate n 47) = if 10000 ≤ n then .inl 9999 else .inr [] := by
  unfold readF
  rw [readGo_slash n _ 0 0 [] (by rw [List.length_replicate]; exact Nat.le_refl _)]
  by_cases c : 10000 ≤ n
  · rw [if_pos ⟨by omega, by omega, by omega⟩, if_pos c]
  · rw [if_neg (by omega), if_neg (by omega), if_neg c]
    rfl
/-- an error's place, or that none is told -/
def placeF (l : List Nat) : Option Nat := match readF l with
  | .inl p => some p
  | .inr _ => none
theorem law_texts : ([("f", some 0), ("2", some 1), ("2/", some 1), ("0a", some 1), ("00001a", some 5), ("0002a", none), ("a.//", none), ("9999.a", some 5), ("9999a", some 0), ("a a", some 1), ("2aA", some 2)] : List (Str × Option Nat)).all (fun p => decide (placeF (tl p.1) = p.2)) = true := by decide +kernel

/-! ### the box of some places -/
def plD (p : Pt) : PyData := .tuple [.int p.1, .int p.2]
structure BoxOf (ps : List Pt) (l t r b : Int) : Prop where
  l1 : ∃ p ∈ ps, p.1 = l
  l2 : ∀ p ∈ ps, l ≤ p.1
  t1 : ∃ p ∈ ps, p.2 = t
  t2 : ∀ p ∈ ps, t ≤ p.2
  r1 : ∃ p ∈ ps, p.1 = r
  r2 : ∀ p ∈ ps, p.1 ≤ r
  b1 : ∃ p ∈ ps, p.2 = b
  b2 : ∀ p ∈ ps, p.2 ≤ b
def spBoxOf (K : PySem.W.Frag) : Sp := fun vs H Q _ => ∃ (a : Addr) (us : List V) (ps : List Pt), vs = [.ref a] ∧ H a = some (.lst us) ∧ TpAll K H us (ps.map plD) ∧ ps.length ≤ 4000 ∧ (ps = [] → Q .non H) ∧ (ps ≠ [] → ∀ (l t r b : Int) (p : Addr) (H' : Hp), BoxOf ps l t r b → H' p = some (.tup [.int l, .int t, .int r, .int b]) → Same H H' → Q (.ref p) H')
section
variable {P : Program} {w : World} {K : PySem.W.Frag} {mg : Str → Option Value} {base : Heap}
local macro_rules | `(tactic| walk_at "cl") => `(tactic| first | (refine le_only ?_; omega) | (refine lt_only ?_; omega) | assumption)
theorem ok_box_of (T : Txt K mg) (D : DefAt K mg "box_of" s_box_of ["places"]) : Cal P w K mg base CX0 "box_of" 1 ["places"] (spBoxOf K) := by
  refine D.cal sc_box_of (fun vs H Q E h => ?_) (fun f cdv A outer s H vs Q E hr h => ?_)
  · obtain ⟨a, us, ps, rfl, _⟩ := h
    rfl
  · obtain ⟨a, us, ps, rfl, ha, hus, hl, q0, q⟩ := h
    refine ⟨_, (pss_cons (ps_if (pt_not (pt_truth (pv 0) (by intro _; rfl))) (pss_one (ps_ret pe_non)) pss_nil)
      (pss_cons (ps_setLc (i := 1) (own := [("x", 3), ("_", 4)]) (g := gTup K 2 (gCons (gName 3) (gCons (gName 4) gNil))) rfl sc_box_of.nd rfl rfl (sw_true rfl rfl rfl (by decide +kernel)) (k_pi_list (K := K) (pv 0)) (blkOk_by (by rfl)) (fun _ _ _ _ _ => (k_pgT (K := K) 2 (by rfl) (pgs_cons (pg_name (i := 3) sc_box_of.nd rfl (Or.inl rfl)) (pgs_cons (pg_name (i := 4) sc_box_of.nd rfl (Or.inl rfl)) pgs_nil)))) (fun _ _ _ _ _ => pts_nil) (fun _ _ _ _ _ => (pv 3)))
      (pss_cons (ps_setLc (i := 2) (own := [("_", 4), ("y", 5)]) (g := gTup K 2 (gCons (gName 4) (gCons (gName 5) gNil))) rfl sc_box_of.nd rfl rfl (sw_true rfl rfl rfl (by decide +kernel)) (k_pi_list (K := K) (pv 0)) (blkOk_by (by rfl)) (fun _ _ _ _ _ => (k_pgT (K := K) 2 (by rfl) (pgs_cons (pg_name (i := 4) sc_box_of.nd rfl (Or.inl rfl)) (pgs_cons (pg_name (i := 5) sc_box_of.nd rfl (Or.inl rfl)) pgs_nil)))) (fun _ _ _ _ _ => pts_nil) (fun _ _ _ _ _ => (pv 5)))
      (pss_one (ps_ret (pe_tup (pa_cons (pe_callB (k_min (K := K) rfl) (by rfl) T.m_min (by decide +kernel) (pa_cons (pv 1) pa_nil)) (pa_cons (pe_callB (k_min (K := K) rfl) (by rfl) T.m_min (by decide +kernel) (pa_cons (pv 2) pa_nil)) (pa_cons (pe_callB (k_max (K := K) rfl) (by rfl) T.m_max (by decide +kernel) (pa_cons (pv 1) pa_nil)) (pa_cons (pe_callB (k_max (K := K) rfl) (by rfl) T.m_max (by decide +kernel) (pa_cons (pv 2) pa_nil)) pa_nil)))))))))), ?_⟩
    have hSa := SqL.of (K := K) ha
    have lus : us.length = ps.length := by rw [TpAll.length hus, List.length_map]
    cases ps with
    | nil =>
      obtain rfl := hus.nilI
      have tv : TruV K (.ref a) H false := .inl ⟨_, hSa, rfl⟩
      walk_at "st"
      exact q0 rfl
    | cons p0 pr =>
      have tv : TruV K (.ref a) H true := .inl ⟨_, hSa, by cases us with | nil => cases lus | cons => rfl⟩
      walk_at "st"
      intro X nX
      rw [show L2.start ["places", "xs", "ys", "x", "_", "y"] [V.ref a] = [some (.ref a), none, none, none, none, none] from rfl]
      simp only [List.set_cons_zero, List.set_cons_succ]
      generalize hps : p0 :: pr = ps at *
      refine lc_it (walk_list (K := K) (a := a) (xs := us)) (fun i H' => Ok (Same H H' ∧ H' X = some (.lst (((ps.take i).map fun p : Pt => p.1).map V.int)))) ⟨Same.new nX, upd_same⟩ (fun i H' _ ⟨sm, _⟩ => SqL.of (sm _ _ ha)) ?_ ?_
      · rintro i x H2 H3 hi ⟨sm, hX⟩ ⟨rfl, hx⟩
        have hi : i < ps.length := by omega
        have ei : ps[i]? = some ps[i] := List.getElem?_eq_getElem hi
        have tk1 := take_more ei
        obtain ⟨u, eu, hu⟩ := hus.get (i := i) (d := plD ps[i]) (by rw [List.getElem?_map, ei]; rfl)
        rw [hx] at eu
        cases eu
        have hu2 := Tp.mono (Same.tk sm) _ _ hu
        generalize ps[i] = pt at *
        obtain ⟨pa, rfl, hpa⟩ := (show Tp K H3 x (.tuple [.int pt.1, .int pt.2]) from hu2).int2
        have lt : (((ps.take i).map fun p : Pt => p.1).map V.int).length < sizeLine := by
          rw [List.length_map, List.length_map, List.length_take]
          exact Nat.lt_of_le_of_lt (show _ ≤ 4000 by omega) (by decide)
        walk_at "st"
        exact ⟨Same.fresh sm nX, by rw [upd_same, tk1, List.map_append, List.map_append]; rfl⟩
      · rintro H2 ⟨sm, hX⟩
        rw [show us.length = ps.length by omega, List.take_length] at hX
        have ha2 := sm _ _ ha
        have hSa2 := SqL.of (K := K) ha2
        have hus2 := TpAll.mono (Same.tk sm) _ _ hus
        have nb : ∀ b, H2 b = none → H b = none := fun b e => Same.back sm e
        walk_at "st"
        intro Y nY
        simp only [List.set_cons_zero, List.set_cons_succ]
        refine lc_it (walk_list (K := K) (a := a) (xs := us)) (fun i H' => Ok (Same H2 H' ∧ H' Y = some (.lst (((ps.take i).map fun p : Pt => p.2).map V.int)))) ⟨Same.new nY, upd_same⟩ (fun i H' _ ⟨sm, _⟩ => SqL.of (sm _ _ ha2)) ?_ ?_
        · rintro i x H3 H4 hi ⟨sm3, hY⟩ ⟨rfl, hx⟩
          have hi : i < ps.length := by omega
          have ei : ps[i]? = some ps[i] := List.getElem?_eq_getElem hi
          have tk1 := take_more ei
          obtain ⟨u, eu, hu⟩ := hus2.get (i := i) (d := plD ps[i]) (by rw [List.getElem?_map, ei]; rfl)
          rw [hx] at eu
          cases eu
          have hu2 := Tp.mono (Same.tk sm3) _ _ hu
          generalize ps[i] = pt at *
          obtain ⟨pa, rfl, hpa⟩ := (show Tp K H4 x (.tuple [.int pt.1, .int pt.2]) from hu2).int2
          have lt : (((ps.take i).map fun p : Pt => p.2).map V.int).length < sizeLine := by
            rw [List.length_map, List.length_map, List.length_take]
            exact Nat.lt_of_le_of_lt (show _ ≤ 4000 by omega) (by decide)
          walk_at "st"
          exact ⟨Same.fresh sm3 nY, by rw [upd_same, tk1, List.map_append, List.map_append]; rfl⟩
        · rintro H3 ⟨sm3, hY⟩
          rw [show us.length = ps.length by omega, List.take_length] at hY
          have hX3 := sm3 _ _ hX
          have hSX := SqL.of (K := K) hX3
          have hSY := SqL.of (K := K) hY
          have lX : 0 < (ps.map fun p : Pt => p.1).length := by rw [List.length_map, ← hps]; exact Nat.succ_pos _
          have lY : 0 < (ps.map fun p : Pt => p.2).length := by rw [List.length_map, ← hps]; exact Nat.succ_pos _
          walk_at "st"
          intro l lm ll
          walk_at "st"
          intro tp tm tl2
          walk_at "st"
          intro r rm rl
          walk_at "st"
          intro b bm bl
          walk_at "st"
          intro p np
          have inX : ∀ {i : Int}, i ∈ ps.map (fun p : Pt => p.1) → ∃ p ∈ ps, p.1 = i := fun h => List.mem_map.mp h
          have inY : ∀ {i : Int}, i ∈ ps.map (fun p : Pt => p.2) → ∃ p ∈ ps, p.2 = i := fun h => List.mem_map.mp h
          have bo : BoxOf ps l tp r b := ⟨inX lm, fun p hp => ll _ (List.mem_map_of_mem hp), inY tm, fun p hp => tl2 _ (List.mem_map_of_mem hp), inX rm, fun p hp => rl _ (List.mem_map_of_mem hp), inY bm, fun p hp => bl _ (List.mem_map_of_mem hp)⟩
          exact q (by rw [← hps]; exact List.cons_ne_nil _ _) l tp r b p _ bo upd_same (Same.trans sm (Same.trans sm3 (Same.new np)))
end

/-! ### the box of a floor -/
def spBox (K : PySem.W.Frag) : Sp := fun vs H Q _ => ∃ (fv : V) (F : List Sq), vs = [fv] ∧ Tp K H fv (floorD F) ∧ FlOk 6 FarI F ∧ F.length ≤ 1000 ∧ (F = [] → ∀ H', Same H H' → Q .non H') ∧ (F ≠ [] → ∀ (l t r b : Int) (p : Addr) (H' : Hp), BoxOf (F.map Sq.pt) l t r b → H' p = some (.tup [.int l, .int t, .int r, .int b]) → Same H H' → Q (.ref p) H')
section
variable {P : Program} {w : World} {K : PySem.W.Frag} {mg : Str → Option Value} {base : Heap}
local macro_rules | `(tactic| walk_at "cl") => `(tactic| first | (refine le_only ?_; omega) | (refine lt_only ?_; omega) | assumption)
theorem ok_box (T : Txt K mg) (D : DefAt K mg "box" s_box ["floor"]) (C_check_floor : Cal P w K mg base CX0 "check_floor" 4 ["value", "colours"] (spFloorOk K)) (C_box_of : Cal P w K mg base CX0 "box_of" 1 ["places"] (spBoxOf K)) : Cal P w K mg base CX0 "box" 5 ["floor"] (spBox K) := by
  refine D.cal sc_box (fun vs H Q E h => ?_) (fun f cdv A outer s H vs Q E hr h => ?_)
  · obtain ⟨fv, F, rfl, _⟩ := h
    rfl
  · obtain ⟨fv, F, rfl, hf, hok, hl, q0, q⟩ := h
    refine ⟨_, (pss_cons (ps_expr (pe_own C_check_floor hr (by first | decide | omega) (pa_cons (pv 0) (pa_cons (pe_gint (by rfl) T.most_colours) pa_nil))))
      (pss_one (ps_ret (pe_own C_box_of hr (by first | decide | omega) (pa_cons (pe_lc (own := [("square", 1)]) (g := gName 1) rfl sc_box.nd (k_pi_tup (K := K) (pv 0)) (blkOk_by (by rfl)) (fun _ _ _ _ _ => (pg_name (i := 1) sc_box.nd rfl (Or.inl rfl))) (fun _ _ _ _ _ => pts_nil) (fun _ _ _ _ _ => (pe_slice (k_sl_tup (K := K)) (pv 1) po_none (po_some pe_int)))) pa_nil))))), ?_⟩
    obtain ⟨a, vs, rfl, hs, hvs⟩ := hf.tupI
    walk_at "st"
    intro H1 s1
    have hs1 := TK.seqT (Same.tk s1) hs
    have hvs1 := TpAll.mono (Same.tk s1) _ _ hvs
    have lvs : vs.length = F.length := by rw [TpAll.length hvs, List.length_map]
    walk_at "st"
    intro D nD
    refine lc_it (walk_tup (K := K) (a := a) (xs := vs)) (fun i H' => Ok (Same H1 H' ∧ ∃ us, H' D = some (.lst us) ∧ us.length = i ∧ TpAll K H' us (((F.take i).map Sq.pt).map plD))) ⟨Same.new nD, [], upd_same, rfl, .nil⟩ (fun i H' _ ⟨sm, _⟩ => TK.seqT (Same.tk sm) hs1) ?_ ?_
    · rintro i x H2 H3 hi ⟨sm, us, hD, lu, hus⟩ ⟨rfl, hx⟩
      have hi : i < F.length := by omega
      have ei : F[i]? = some F[i] := List.getElem?_eq_getElem hi
      have tk1 := take_more ei
      obtain ⟨u, eu, hu⟩ := hvs1.get (i := i) (d := sqD F[i]) (by rw [List.getElem?_map, ei]; rfl)
      rw [hx] at eu
      cases eu
      have hu2 := Tp.mono (Same.tk sm) _ _ hu
      generalize F[i] = sq at *
      obtain ⟨pa, rfl, hpa⟩ := hu2.int3
      have lt : us.length < sizeLine := Nat.lt_of_le_of_lt (show _ ≤ 1000 by omega) (by decide)
      walk_at "st"
      intro p np
      rw [show cutV [V.int sq.1, V.int sq.2.1, V.int sq.2.2] none (some 2) = [V.int sq.1, V.int sq.2.1] from rfl]
      have s2 : Same H3 (upd H3 p (.tup [.int sq.1, .int sq.2.1])) := Same.new np
      have hD2 := s2 _ _ hD
      have tl := TK.lst (o := .lst (us ++ [V.ref p])) hD2
      refine ⟨us, hD2, lt, ⟨Same.fresh (Same.trans sm s2) nD, us ++ [.ref p], upd_same, by rw [List.length_append]; show _ + 1 = _; omega, ?_⟩⟩
      rw [tk1, List.map_append, List.map_append]
      have f1 : Tp K (upd H3 p (.tup [.int sq.1, .int sq.2.1])) (.ref p) (plD sq.pt) := .tup (SqT.of upd_same) (.cons (.int _) (.cons (.int _) .nil))
      exact TpAll.append (TpAll.mono (TK.trans (Same.tk s2) tl) _ _ hus) (.cons (Tp.mono tl _ _ f1) .nil)
    · rintro H2 ⟨sm, us, hD, lu, hus⟩
      rw [show vs.length = F.length by omega, List.take_length] at hus
      walk_at "st"
      refine ⟨by rw [List.length_map]; omega, fun e => q0 (List.map_eq_nil_iff.mp e) _ (Same.trans s1 sm), fun e l t r b p H' bo hp s3 => ?_⟩
      exact q (fun z => e (by rw [z]; rfl)) l t r b p H' bo hp (Same.trans s1 (Same.trans sm s3))
end

/-! ### a floor moved -/
def shSq (dx dy : Int) (s : Sq) : Sq := (s.1 + dx, s.2.1 + dy, s.2.2)
def spMovedBy (K : PySem.W.Frag) : Sp := fun vs H Q _ => ∃ (fv : V) (F : List Sq) (dx dy : Int), vs = [fv, .int dx, .int dy] ∧ Tp K H fv (floorD F) ∧ F.length ≤ 1000 ∧ ∀ v H', Tp K H' v (floorD (F.map (shSq dx dy))) → Same H H' → Q v H'
section
variable {P : Program} {w : World} {K : PySem.W.Frag} {mg : Str → Option Value} {base : Heap}
local macro_rules | `(tactic| walk_at "cl") => `(tactic| first | (refine le_only ?_; omega) | (refine lt_only ?_; omega) | assumption)
theorem ok_u_moved_by (T : Txt K mg) (D : DefAt K mg "_moved_by" s_u_moved_by ["floor", "dx", "dy"]) : Cal P w K mg base CX0 "_moved_by" 1 ["floor", "dx", "dy"] (spMovedBy K) := by
  refine D.cal sc_u_moved_by (fun vs H Q E h => ?_) (fun f cdv A outer s H vs Q E hr h => ?_)
  · obtain ⟨fv, F, dx, dy, rfl, _⟩ := h
    rfl
  · obtain ⟨fv, F, dx, dy, rfl, hf, hl, q⟩ := h
    refine ⟨_, (pss_one (ps_ret (pe_callTy (k_tuple_l (K := K)) (by rfl) T.m_tuple (by decide +kernel) (pa_cons (pe_lc (own := [("x", 3), ("y", 4), ("colour", 5)]) (g := gTup K 3 (gCons (gName 3) (gCons (gName 4) (gCons (gName 5) gNil)))) rfl sc_u_moved_by.nd (k_pi_tup (K := K) (pv 0)) (blkOk_by (by rfl)) (fun _ _ _ _ _ => (k_pgT (K := K) 3 (by rfl) (pgs_cons (pg_name (i := 3) sc_u_moved_by.nd rfl (Or.inl rfl)) (pgs_cons (pg_name (i := 4) sc_u_moved_by.nd rfl (Or.inl rfl)) (pgs_cons (pg_name (i := 5) sc_u_moved_by.nd rfl (Or.inl rfl)) pgs_nil))))) (fun _ _ _ _ _ => pts_nil) (fun _ _ _ _ _ => (pe_tup (pa_cons (pe_op op_add (pv 3) (pv 1)) (pa_cons (pe_op op_add (pv 4) (pv 2)) (pa_cons (pv 5) pa_nil)))))) pa_nil)))), ?_⟩
    obtain ⟨a, vs, rfl, hs, hvs⟩ := hf.tupI
    have lvs : vs.length = F.length := by rw [TpAll.length hvs, List.length_map]
    walk_at "st"
    intro D nD
    refine lc_it (walk_tup (K := K) (a := a) (xs := vs)) (fun i H' => Ok (Same H H' ∧ ∃ us, H' D = some (.lst us) ∧ us.length = i ∧ TpAll K H' us (((F.take i).map (shSq dx dy)).map sqD))) ⟨Same.new nD, [], upd_same, rfl, .nil⟩ (fun i H' _ ⟨sm, _⟩ => TK.seqT (Same.tk sm) hs) ?_ ?_
    · rintro i x H2 H3 hi ⟨sm, us, hD, lu, hus⟩ ⟨rfl, hx⟩
      have hi : i < F.length := by omega
      have ei : F[i]? = some F[i] := List.getElem?_eq_getElem hi
      have tk1 := take_more ei
      obtain ⟨u, eu, hu⟩ := hvs.get (i := i) (d := sqD F[i]) (by rw [List.getElem?_map, ei]; rfl)
      rw [hx] at eu
      cases eu
      have hu2 := Tp.mono (Same.tk sm) _ _ hu
      generalize F[i] = sq at *
      obtain ⟨pa, rfl, hpa⟩ := hu2.int3
      have lt : us.length < sizeLine := Nat.lt_of_le_of_lt (show _ ≤ 1000 by omega) (by decide)
      walk_at "st"
      intro p np
      have s2 : Same H3 (upd H3 p (.tup [.int (sq.1 + dx), .int (sq.2.1 + dy), .int sq.2.2])) := Same.new np
      have hD2 := s2 _ _ hD
      have tl := TK.lst (o := .lst (us ++ [V.ref p])) hD2
      refine ⟨us, hD2, lt, ⟨Same.fresh (Same.trans sm s2) nD, us ++ [.ref p], upd_same, by rw [List.length_append]; show _ + 1 = _; omega, ?_⟩⟩
      rw [tk1, List.map_append, List.map_append]
      have f1 : Tp K (upd H3 p (.tup [.int (sq.1 + dx), .int (sq.2.1 + dy), .int sq.2.2])) (.ref p) (sqD (shSq dx dy sq)) := .tup (SqT.of upd_same) (.cons (.int _) (.cons (.int _) (.cons (.int _) .nil)))
      exact TpAll.append (TpAll.mono (TK.trans (Same.tk s2) tl) _ _ hus) (.cons (Tp.mono tl _ _ f1) .nil)
    · rintro H2 ⟨sm, us, hD, lu, hus⟩
      rw [show vs.length = F.length by omega, List.take_length] at hus
      have hSD := SqL.of (K := K) hD
      walk_at "st"
      intro l nl
      exact q _ _ (.tup (SqT.of upd_same) (TpAll.mono (Same.tk (Same.new nl)) _ _ hus)) (Same.trans sm (Same.new nl))
end

/-! ### moved -/
def spCPlace (K : PySem.W.Frag) : Sp := fun vs H Q _ => ∃ (v : V) (p : Pt), vs = [v] ∧ Tp K H v (.tuple [.int p.1, .int p.2]) ∧ InB FarI p ∧ Q .non H
def spMoved (K : PySem.W.Frag) : Sp := fun vs H Q _ => ∃ (fv mv : V) (F : List Sq) (m : Pt), vs = [fv, mv] ∧ Tp K H fv (floorD F) ∧ FlOk 6 FarI F ∧ F.length ≤ 1000 ∧ Tp K H mv (.tuple [.int m.1, .int m.2]) ∧ InB FarI m ∧ ∀ v H', Tp K H' v (floorD (F.map (shSq m.1 m.2))) → Same H H' → Q v H'
section
variable {P : Program} {w : World} {K : PySem.W.Frag} {mg : Str → Option Value} {base : Heap}
local macro_rules | `(tactic| walk_at "cl") => `(tactic| first | (refine le_only ?_; omega) | (refine lt_only ?_; omega) | assumption)
theorem ok_check_place (T : Txt K mg) (D : DefAt K mg "check_place" s_check_place ["value"]) (C_is_place : Cal P w K mg base CX0 "is_place" 2 ["value"] (spPlaceOk K)) : Cal P w K mg base CX0 "check_place" 3 ["value"] (spCPlace K) := by
  refine D.cal sc_check_place (fun vs H Q E h => ?_) (fun f cdv A outer s H vs Q E hr h => ?_)
  · obtain ⟨v, p, rfl, _⟩ := h
    rfl
  · obtain ⟨v, p, rfl, hv, hb, q⟩ := h
    refine ⟨_, (pss_one (ps_if (pt_not (pt_val (pe_own C_is_place hr (by first | decide | omega) (pa_cons (pv 0) pa_nil)))) (pss_one ps_never) pss_nil)), ?_⟩
    walk_at "st"
    exact q
theorem ok_moved (T : Txt K mg) (D : DefAt K mg "moved" s_moved ["floor", "move"]) (C_check_floor : Cal P w K mg base CX0 "check_floor" 4 ["value", "colours"] (spFloorOk K)) (C_check_place : Cal P w K mg base CX0 "check_place" 3 ["value"] (spCPlace K)) (C_moved_by : Cal P w K mg base CX0 "_moved_by" 1 ["floor", "dx", "dy"] (spMovedBy K)) : Cal P w K mg base CX0 "moved" 5 ["floor", "move"] (spMoved K) := by
  refine D.cal sc_moved (fun vs H Q E h => ?_) (fun f cdv A outer s H vs Q E hr h => ?_)
  · obtain ⟨fv, mv, F, m, rfl, _⟩ := h
    rfl
  · obtain ⟨fv, mv, F, m, rfl, hf, hok, hl, hm, hb, q⟩ := h
    refine ⟨_, (pss_cons (ps_expr (pe_own C_check_floor hr (by first | decide | omega) (pa_cons (pv 0) (pa_cons (pe_gint (by rfl) T.most_colours) pa_nil))))
      (pss_cons (ps_expr (pe_own C_check_place hr (by first | decide | omega) (pa_cons (pv 1) pa_nil)))
      (pss_one (ps_ret (pe_own C_moved_by hr (by first | decide | omega) (pa_cons (pv 0) (pa_cons (pe_ix (k_ix_tup (K := K)) (pv 1) pe_int (fun _ _ => rfl)) (pa_cons (pe_ix (k_ix_tup (K := K)) (pv 1) pe_int (fun _ _ => rfl)) pa_nil)))))))), ?_⟩
    walk_at "st"
    intro H1 s1
    have hf1 := Tp.mono (Same.tk s1) _ _ hf
    have hm1 := Tp.mono (Same.tk s1) _ _ hm
    obtain ⟨ma, rfl, hma⟩ := hm1.int2
    walk_at "st"
    intro v H2 hv s2
    walk_at "st"
    exact q v H2 hv (Same.trans s1 s2)
end

/-! ### a row of signs and its runs: mathematics -/
/-- one sign more -/
def addS (r : List (Nat × Nat)) (s : Nat) : List (Nat × Nat) := match r.getLast? with
  | some (m, t) => if t = s then r.dropLast ++ [(m + 1, s)] else r ++ [(1, s)]
  | none => [(1, s)]
/-- the runs of a row of signs -/
def rleL (l : List Nat) : List (Nat × Nat) := l.foldl addS []
/-- the runs of a row of squares (place, sign), as they are found from left to right -/
def rGo : List (Nat × Nat) → Nat → List (Nat × Nat) → List (Nat × Nat)
  | runs, _, [] => runs
  | runs, e, (x, s) :: r => rGo (addS (if e < x then runs ++ [(x - e, 46)] else runs) s) (x + 1) r
/-- the row written out -/
def wout : Nat → List (Nat × Nat) → List Nat
  | _, [] => []
  | e, (x, s) :: r => List.replicate (x - e) 46 ++ s :: wout (x + 1) r
def numT (n : Nat) : List Nat := if n = 1 then [] else numL n
def runT (rs : List (Nat × Nat)) : List Nat := rs.flatMap fun p => numT p.1 ++ [p.2]
theorem addS_app (p : List (Nat × Nat)) {r : List (Nat × Nat)} (h : r ≠ []) (s : Nat) : addS (p ++ r) s = p ++ addS r s := by
  unfold addS
  rw [List.getLast?_append]
  cases e : r.getLast? with
  | none => exact absurd (List.getLast?_eq_none_iff.mp e) h
  | some q =>
    obtain ⟨m, t⟩ := q
    show (if t = s then (p ++ r).dropLast ++ [(m + 1, s)] else p ++ r ++ [(1, s)]) = p ++ (if t = s then r.dropLast ++ [(m + 1, s)] else r ++ [(1, s)])
    rw [List.dropLast_append_of_ne_nil h]
    split <;> rw [List.append_assoc]
theorem addS_ne (r : List (Nat × Nat)) (s : Nat) : addS r s ≠ [] := by
  unfold addS
  split
  · split <;> simp
  · simp
theorem fold_app (p : List (Nat × Nat)) : ∀ (l : List Nat) {r : List (Nat × Nat)}, r ≠ [] → l.foldl addS (p ++ r) = p ++ l.foldl addS r
  | [], _, _ => rfl
  | s :: l, r, h => by
    rw [List.foldl_cons, List.foldl_cons, addS_app p h, fold_app p l (addS_ne r s)]
theorem fold_rep (s : Nat) : ∀ (n m : Nat), (List.replicate n s).foldl addS [(m, s)] = [(m + n, s)]
  | 0, m => rfl
  | n + 1, m => by
    rw [List.replicate_succ, List.foldl_cons]
    have e : addS [(m, s)] s = [(m + 1, s)] := by
      show (if s = s then _ else _) = _
      rw [if_pos rfl]
      rfl
    rw [e, fold_rep s n (m + 1), show m + 1 + n = m + (n + 1) by omega]
theorem addS_other {r : List (Nat × Nat)} {s : Nat} (h : ∀ m t, r.getLast? = some (m, t) → t ≠ s) : addS r s = r ++ [(1, s)] := by
  unfold addS
  cases e : r.getLast? with
  | none =>
    rw [List.getLast?_eq_none_iff.mp e]
    rfl
  | some q =>
    obtain ⟨m, t⟩ := q
    exact if_neg (h m t e)
theorem fold_reps {s : Nat} (n : Nat) {r : List (Nat × Nat)} (h : ∀ m t, r.getLast? = some (m, t) → t ≠ s) : (List.replicate (n + 1) s).foldl addS r = r ++ [(n + 1, s)] := by
  rw [List.replicate_succ, List.foldl_cons, addS_other h, fold_app r _ (by simp), fold_rep s n 1, Nat.add_comm]
/-- the first run -/
theorem rle_front {n s : Nat} {r : List Nat} (hn : 0 < n) (h : r.head? ≠ some s) : rleL (List.replicate n s ++ r) = (n, s) :: rleL r := by
  unfold rleL
  rw [List.foldl_append]
  obtain ⟨n, rfl⟩ : ∃ k, n = k + 1 := ⟨n - 1, by omega⟩
  rw [fold_reps n (r := []) (by simp)]
  cases r with
  | nil => rfl
  | cons t r =>
    have ne : s ≠ t := fun z => h (by rw [z]; rfl)
    rw [List.foldl_cons, List.foldl_cons, List.nil_append]
    have e : addS [(n + 1, s)] t = [(n + 1, s)] ++ [(1, t)] := addS_other fun m u q => by
      cases Option.some.inj q
      exact ne
    rw [e, fold_app [(n + 1, s)] _ (by simp)]
    rfl
/-- a row begins with a run -/
theorem front_run : ∀ (s : Nat) (l : List Nat), ∃ (n : Nat) (r : List Nat), s :: l = List.replicate (n + 1) s ++ r ∧ r.head? ≠ some s
  | s, [] => ⟨0, [], rfl, by simp⟩
  | s, t :: l => by
    by_cases e : t = s
    · subst e
      obtain ⟨n, r, e1, h⟩ := front_run t l
      exact ⟨n + 1, r, by rw [e1]; rfl, h⟩
    · exact ⟨0, t :: l, rfl, fun z => e (Option.some.inj z)⟩
/-- squares of a row: from e on, ascending, no dots -/
def RowOk : Nat → List (Nat × Nat) → Prop
  | _, [] => True
  | e, (x, s) :: r => e ≤ x ∧ s ≠ 46 ∧ RowOk (x + 1) r
theorem addS_last (r : List (Nat × Nat)) (s : Nat) : ∃ m, (addS r s).getLast? = some (m, s) := by
  unfold addS
  split
  · split
    · exact ⟨_, by rw [List.getLast?_append]; rfl⟩
    · exact ⟨_, by rw [List.getLast?_append]; rfl⟩
  · exact ⟨_, rfl⟩
theorem rGo_fold : ∀ (sqs : List (Nat × Nat)) (e : Nat) (runs : List (Nat × Nat)), RowOk e sqs → (∀ m t, runs.getLast? = some (m, t) → t ≠ 46) → (wout e sqs).foldl addS runs = rGo runs e sqs
  | [], _, _, _, _ => rfl
  | (x, s) :: r, e, runs, ok, h => by
    obtain ⟨h1, h2, h3⟩ := ok
    show (List.replicate (x - e) 46 ++ s :: wout (x + 1) r).foldl addS runs = rGo (addS (if e < x then runs ++ [(x - e, 46)] else runs) s) (x + 1) r
    rw [List.foldl_append, List.foldl_cons]
    have q : (List.replicate (x - e) 46).foldl addS runs = if e < x then runs ++ [(x - e, 46)] else runs := by
      by_cases c : e < x
      · rw [if_pos c]
        obtain ⟨k, hk⟩ : ∃ k, x - e = k + 1 := ⟨x - e - 1, by omega⟩
        rw [hk]
        exact fold_reps k h
      · rw [if_neg c, show x - e = 0 by omega]
        rfl
    rw [q]
    refine rGo_fold r (x + 1) _ h3 fun m t e2 => ?_
    obtain ⟨m2, e3⟩ := addS_last (if e < x then runs ++ [(x - e, 46)] else runs) s
    rw [e3] at e2
    cases Option.some.inj e2
    exact h2
theorem rGo_rle {sqs : List (Nat × Nat)} (ok : RowOk 0 sqs) : rGo [] 0 sqs = rleL (wout 0 sqs) := (rGo_fold sqs 0 [] ok (by simp)).symm
/-! the row out of its squares' signs -/
def lookR : List (Nat × Nat) → Nat → Nat
  | [], _ => 46
  | (x, s) :: r, k => if k = x then s else lookR r k
/-- without the dots at its end -/
def rs46 (l : List Nat) : List Nat := (l.reverse.dropWhile fun c => decide (c = 46)).reverse
theorem rs46_dots (n : Nat) : rs46 (List.replicate n 46) = [] := by
  unfold rs46
  rw [List.reverse_replicate, List.reverse_eq_nil_iff]
  induction n with
  | zero => rfl
  | succ n ih =>
    rw [List.replicate_succ, List.dropWhile_cons]
    exact ih
theorem dw_app {p : Nat → Bool} : ∀ (a b : List Nat), (∃ c ∈ a, p c = false) → (a ++ b).dropWhile p = a.dropWhile p ++ b
  | [], _, ⟨c, hc, _⟩ => by cases hc
  | x :: a, b, h => by
    rw [List.cons_append, List.dropWhile_cons, List.dropWhile_cons]
    cases e : p x with
    | false => rfl
    | true =>
      obtain ⟨c, hc, h0⟩ := h
      rcases List.mem_cons.mp hc with rfl | hc
      · rw [e] at h0
        cases h0
      · exact dw_app a b ⟨c, hc, h0⟩
theorem rs46_app (a : List Nat) {s : Nat} (h : s ≠ 46) (b : List Nat) : rs46 (a ++ s :: b) = a ++ s :: rs46 b := by
  unfold rs46
  rw [List.reverse_append, List.reverse_cons]
  by_cases c : ∃ c ∈ b.reverse, decide (c = 46) = false
  · rw [List.append_assoc, dw_app _ _ c, List.reverse_append, List.reverse_append, List.reverse_reverse]
    show (a ++ [s]) ++ _ = _
    rw [List.append_assoc]
    rfl
  · have z : (b.reverse.dropWhile fun c => decide (c = 46)) = [] := by
      have g : ∀ l : List Nat, (∀ x ∈ l, decide (x = 46) = true) → (l.dropWhile fun c => decide (c = 46)) = [] := by
        intro l
        induction l with
        | nil => intro _; rfl
        | cons x l ih =>
          intro hl
          rw [List.dropWhile_cons, hl x List.mem_cons_self]
          exact ih fun y hy => hl y (List.mem_cons_of_mem _ hy)
      refine g _ fun x hx => ?_
      cases e : decide (x = 46) with
      | true => rfl
      | false => exact absurd ⟨x, hx, e⟩ c
    have q : ((b.reverse ++ [s] ++ a.reverse).dropWhile fun c => decide (c = 46)) = [s] ++ a.reverse := by
      rw [dw_app _ _ ⟨s, by simp, decide_eq_false h⟩]
      have : ((b.reverse ++ [s]).dropWhile fun c => decide (c = 46)) = [s] := by
        have g : ∀ l : List Nat, (l.dropWhile fun c => decide (c = 46)) = [] → ((l ++ [s]).dropWhile fun c => decide (c = 46)) = [s] := by
          intro l
          induction l with
          | nil =>
            intro _
            rw [List.nil_append, List.dropWhile_cons, decide_eq_false h]
            rfl
          | cons x l ih =>
            intro hz
            rw [List.dropWhile_cons] at hz
            rw [List.cons_append, List.dropWhile_cons]
            cases e : decide (x = 46) with
            | true =>
              rw [e] at hz
              exact ih hz
            | false =>
              rw [e] at hz
              cases hz
        exact g _ z
      rw [this]
    rw [q, z, List.reverse_append, List.reverse_reverse]
    rfl
theorem look_out : ∀ (sqs : List (Nat × Nat)) (e k : Nat), RowOk e sqs → k < e → lookR sqs k = 46
  | [], _, _, _, _ => rfl
  | (x, s) :: r, e, k, ok, h => by
    show (if k = x then s else lookR r k) = 46
    have := ok.1
    rw [if_neg (by omega)]
    exact look_out r (x + 1) k ok.2.2 (by omega)
theorem range'_cut (e x w : Nat) (h1 : e ≤ x) (h2 : x < w) : List.range' e (w - e) = List.range' e (x - e) ++ x :: List.range' (x + 1) (w - (x + 1)) := by
  have a : w - e = (x - e) + (1 + (w - (x + 1))) := by omega
  rw [a, ← List.range'_append (s := e) (m := x - e), Nat.one_mul, show e + (x - e) = x by omega, Nat.add_comm 1, List.range'_succ]
theorem wout_row : ∀ (sqs : List (Nat × Nat)) (e w : Nat), RowOk e sqs → (∀ p ∈ sqs, p.1 < w) → rs46 ((List.range' e (w - e)).map (lookR sqs)) = wout e sqs
  | [], e, w, _, _ => by
    have z : (List.range' e (w - e)).map (lookR []) = List.replicate (w - e) 46 := by
      rw [show lookR [] = fun _ => 46 from rfl, List.map_const', List.length_range']
    rw [z, rs46_dots]
    rfl
  | (x, s) :: r, e, w, ok, hw => by
    obtain ⟨h1, h2, h3⟩ := ok
    have hx : x < w := hw _ List.mem_cons_self
    rw [range'_cut e x w h1 hx, List.map_append, List.map_cons]
    have z1 : (List.range' e (x - e)).map (lookR ((x, s) :: r)) = List.replicate (x - e) 46 := by
      refine List.eq_replicate_iff.mpr ⟨by rw [List.length_map, List.length_range'], fun b hb => ?_⟩
      obtain ⟨k, hk, rfl⟩ := List.mem_map.mp hb
      obtain ⟨i, hi, hk⟩ := List.mem_range'.mp hk
      show (if k = x then s else lookR r k) = 46
      rw [if_neg (by omega)]
      exact look_out r (x + 1) k h3 (by omega)
    have z2 : lookR ((x, s) :: r) x = s := if_pos rfl
    have z3 : (List.range' (x + 1) (w - (x + 1))).map (lookR ((x, s) :: r)) = (List.range' (x + 1) (w - (x + 1))).map (lookR r) := by
      refine List.map_congr_left fun k hk => ?_
      obtain ⟨i, hi, hk⟩ := List.mem_range'.mp hk
      exact if_neg (by omega)
    rw [z1, z2, z3, rs46_app _ h2, wout_row r (x + 1) w h3 fun p hp => hw p (List.mem_cons_of_mem _ hp)]
    rfl
/-! ### the text read back -/
theorem digits1 {n : Nat} (h : n < 10) : NumText.digitsVal [48 + n] = n := by
  have z := numL_val n
  rw [numL_lt h] at z
  exact z
def sgn5 : List Nat := [46, 97, 98, 99, 100, 101]
def sqRow (x y : Int) : List Nat → List Sq
  | [] => []
  | s :: l => (if s = 46 then [] else [(x, y, colC s)]) ++ sqRow (x + 1) y l
theorem sqRow_app (y : Int) : ∀ (a b : List Nat) (x : Int), sqRow x y (a ++ b) = sqRow x y a ++ sqRow (x + (a.length : Int)) y b
  | [], b, x => by
    show _ = sqRow (x + 0) y b
    rw [Int.add_zero]
    rfl
  | s :: a, b, x => by
    show (if s = 46 then [] else [(x, y, colC s)]) ++ sqRow (x + 1) y (a ++ b) = ((if s = 46 then [] else [(x, y, colC s)]) ++ sqRow (x + 1) y a) ++ _
    rw [sqRow_app y a b (x + 1), List.append_assoc, List.length_cons, show x + 1 + (a.length : Int) = x + ((a.length + 1 : Nat) : Int) by omega]
theorem sqRow_rep (y : Int) (s : Nat) : ∀ (n : Nat) (x : Int), sqRow x y (List.replicate n s) = runSq x y s n
  | 0, x => by
    unfold runSq
    split <;> rfl
  | n + 1, x => by
    rw [List.replicate_succ', sqRow_app, sqRow_rep y s n x, List.length_replicate]
    unfold runSq
    show (if s = 46 then [] else _) ++ ((if s = 46 then [] else [(x + (n : Int), y, colC s)]) ++ []) = _
    by_cases c : s = 46
    · rw [if_pos c, if_pos c, if_pos c]
      rfl
    · rw [if_neg c, if_neg c, if_neg c, List.range_succ, List.map_append, List.append_nil]
      rfl
theorem sqRow_len (y : Int) : ∀ (l : List Nat) (x : Int), (sqRow x y l).length ≤ l.length
  | [], _ => Nat.le_refl _
  | s :: l, x => by
    have h := sqRow_len y l (x + 1)
    show ((if s = 46 then [] else [(x, y, colC s)]) ++ sqRow (x + 1) y l).length ≤ l.length + 1
    rw [List.length_append]
    split
    · show 0 + _ ≤ _
      omega
    · show 1 + _ ≤ _
      omega
theorem sgn5_fig {s : Nat} (h : s ∈ sgn5) : s ∉ figS ∧ s ∈ sgnS ∧ s ≠ 47 := by
  have all : ∀ s ∈ sgn5, s ∉ figS ∧ s ∈ sgnS ∧ s ≠ 47 := by decide +kernel
  exact all s h
theorem fig_dig {n : Nat} (h : n < 10) : 48 + n ∈ figS := by
  have all : ∀ n < 10, 48 + n ∈ figS := by decide +kernel
  exact all n h
theorem runLen_run {n s : Nat} {q : List Nat} (h1 : 0 < n) (h9 : n < 10) (hs : s ∈ sgn5) : runLen (numT n ++ s :: q) = some (n, s, q) := by
  obtain ⟨f1, f2, f3⟩ := sgn5_fig hs
  unfold numT
  by_cases c : n = 1
  · rw [if_pos c, List.nil_append]
    have e : figN (s :: q) = 0 := if_neg f1
    unfold runLen
    rw [e]
    show (if s ∈ sgnS then _ else _) = _
    rw [if_pos f2, if_pos rfl, c]
  · rw [if_neg c, numL_lt h9]
    show runLen ((48 + n) :: s :: q) = _
    have e : figN ((48 + n) :: s :: q) = 1 := by
      show (if 48 + n ∈ figS then figN (s :: q) + 1 else 0) = 1
      rw [if_pos (fig_dig h9), show figN (s :: q) = 0 from if_neg f1]
    unfold runLen
    rw [e]
    show (if s ∈ sgnS then (if 1 = 0 then _ else if 4 < 1 ∨ s = 47 ∨ NumText.digitsVal [48 + n] = 0 then none else some (NumText.digitsVal [48 + n], s, q)) else none) = _
    refine (if_pos f2).trans ((if_neg (by decide)).trans ((if_neg ?_).trans ?_))
    · rw [digits1 h9]
      omega
    · rw [digits1 h9]
/-- a row's text, read -/
theorem read_row : ∀ (k : Nat) (l : List Nat), l.length ≤ k → l.length ≤ 9 → (∀ s ∈ l, s ∈ sgn5) → ∀ (f a x y : Nat) (sq : List Sq) (rest : List Nat), (runT (rleL l) ++ rest).length ≤ f → x + l.length ≤ 9999 → sq.length + l.length ≤ 4000 →
    ∃ f' a', rest.length ≤ f' ∧ readGo f a x y sq (runT (rleL l) ++ rest) = readGo f' a' (x + l.length) y (sq ++ sqRow (x : Nat) (y : Nat) l) rest
  | _, [], _, _, _, f, a, x, y, sq, rest, hf, _, _ => ⟨f, a, hf, by
    show readGo f a x y sq rest = readGo f a (x + 0) y (sq ++ []) rest
    rw [List.append_nil]
    rfl⟩
  | 0, s :: l, h, _, _, _, _, _, _, _, _, _, _, _ => absurd h (by simp)
  | k + 1, s :: l, hk, h9, hs, f, a, x, y, sq, rest, hf, hx, hq => by
    obtain ⟨n, r, e, hr⟩ := front_run s l
    rw [e] at hk h9 hs hf hx hq ⊢
    rw [List.length_append, List.length_replicate] at hk h9 hx hq
    have hss : s ∈ sgn5 := hs s (by simp)
    rw [rle_front (Nat.succ_pos n) hr] at hf ⊢
    have et : runT ((n + 1, s) :: rleL r) ++ rest = numT (n + 1) ++ s :: (runT (rleL r) ++ rest) := by
      show (numT (n + 1) ++ [s]) ++ runT (rleL r) ++ rest = _
      rw [List.append_assoc, List.append_assoc]
      rfl
    rw [et] at hf ⊢
    have hl := runLen_run (q := runT (rleL r) ++ rest) (Nat.succ_pos n) (by omega) hss
    rw [readGo_step (by cases numT (n + 1) <;> simp) hf, hl]
    have f3 := (sgn5_fig hss).2.2
    show ∃ f' a', rest.length ≤ f' ∧ (if s = 47 then _ else if 9999 < x + (n + 1) then _ else readGo (f - 1) (a + figN (numT (n + 1) ++ s :: (runT (rleL r) ++ rest)) + 1) (x + (n + 1)) y (sq ++ runSq x y s (min (n + 1) (4001 - sq.length))) (runT (rleL r) ++ rest)) = _
    rw [if_neg f3, if_neg (by omega), show min (n + 1) (4001 - sq.length) = n + 1 by omega]
    have hf2 : (runT (rleL r) ++ rest).length ≤ f - 1 := by
      rw [List.length_append, List.length_cons] at hf
      omega
    have lrs : (runSq (x : Int) (y : Int) s (n + 1)).length ≤ n + 1 := by
      rw [← sqRow_rep]
      exact Nat.le_trans (sqRow_len _ _ _) (by rw [List.length_replicate]; exact Nat.le_refl _)
    obtain ⟨f', a', h1, h2⟩ := read_row k r (by omega) (by omega) (fun t ht => hs t (List.mem_append_right _ ht)) (f - 1) (a + figN (numT (n + 1) ++ s :: (runT (rleL r) ++ rest)) + 1) (x + (n + 1)) y (sq ++ runSq x y s (n + 1)) rest hf2 (by omega) (by rw [List.length_append]; omega)
    refine ⟨f', a', h1, ?_⟩
    rw [h2, List.length_append, List.length_replicate, sqRow_app, sqRow_rep, List.length_replicate, List.append_assoc, show x + (n + 1) + r.length = x + (n + 1 + r.length) by omega, show ((x : Int) + ((n + 1 : Nat) : Int)) = ((x + (n + 1) : Nat) : Int) by omega]
/-- rows with strokes between them -/
def joinT : List (List Nat) → List Nat
  | [] => []
  | [t] => t
  | t :: u :: r => t ++ 47 :: joinT (u :: r)
def sqRows (x y : Nat) : List (List Nat) → List Sq
  | [] => []
  | l :: ls => sqRow (x : Nat) (y : Nat) l ++ sqRows 0 (y + 1) ls
theorem runLen_slash (q : List Nat) : runLen (47 :: q) = some (1, 47, q) := by
  have e : figN (47 :: q) = 0 := if_neg (by decide +kernel)
  unfold runLen
  rw [e]
  show (if 47 ∈ sgnS then _ else _) = _
  rw [if_pos (by decide +kernel), if_pos rfl]
theorem read_rows : ∀ (ls : List (List Nat)) (f a x y : Nat) (sq : List Sq), (∀ l ∈ ls, l.length ≤ 9 ∧ ∀ s ∈ l, s ∈ sgn5) → (joinT (ls.map fun l => runT (rleL l))).length ≤ f → x ≤ 9000 → y + ls.length ≤ 10000 → sq.length + 9 * ls.length ≤ 4000 →
    readGo f a x y sq (joinT (ls.map fun l => runT (rleL l))) = .inr (sq ++ sqRows x y ls)
  | [], f, a, x, y, sq, _, _, _, _, _ => by
    show readGo f a x y sq [] = .inr (sq ++ [])
    rw [List.append_nil]
    cases f <;> rfl
  | [l], f, a, x, y, sq, hl, hf, hx, hy, hq => by
    obtain ⟨h9, hs⟩ := hl l List.mem_cons_self
    rw [List.length_cons, List.length_nil] at hq
    obtain ⟨f', a', _, h⟩ := read_row l.length l (Nat.le_refl _) h9 hs f a x y sq [] (by rw [List.append_nil]; exact hf) (by omega) (by omega)
    rw [List.append_nil] at h
    show readGo f a x y sq (runT (rleL l)) = .inr (sq ++ (sqRow (x : Nat) (y : Nat) l ++ []))
    rw [h, List.append_nil]
    cases f' <;> rfl
  | l :: m :: ls, f, a, x, y, sq, hl, hf, hx, hy, hq => by
    obtain ⟨h9, hs⟩ := hl l List.mem_cons_self
    rw [List.length_cons, List.length_cons] at hq hy
    have ej : joinT ((l :: m :: ls).map fun l => runT (rleL l)) = runT (rleL l) ++ 47 :: joinT ((m :: ls).map fun l => runT (rleL l)) := rfl
    rw [ej] at hf ⊢
    obtain ⟨f', a', hf', h⟩ := read_row l.length l (Nat.le_refl _) h9 hs f a x y sq (47 :: joinT ((m :: ls).map fun l => runT (rleL l))) hf (by omega) (by omega)
    have ls1 := sqRow_len (y : Nat) l (x : Nat)
    rw [h, readGo_step (by simp) hf', runLen_slash]
    show (if 47 = 47 then (if 10000 ≤ y + 1 then _ else readGo (f' - 1) (a' + figN (47 :: joinT ((m :: ls).map fun l => runT (rleL l))) + 1) 0 (y + 1) (sq ++ sqRow x y l) (joinT ((m :: ls).map fun l => runT (rleL l)))) else _) = _
    rw [if_pos rfl, if_neg (by omega)]
    rw [List.length_cons] at hf'
    rw [read_rows (m :: ls) (f' - 1) _ 0 (y + 1) _ (fun t ht => hl t (List.mem_cons_of_mem _ ht)) (by omega) (by omega) (by rw [List.length_cons]; omega) (by rw [List.length_append, List.length_cons]; omega), List.append_assoc]
    rfl
theorem sqRows_len : ∀ (ls : List (List Nat)) (x y : Nat), (∀ l ∈ ls, l.length ≤ 9) → (sqRows x y ls).length ≤ 9 * ls.length
  | [], _, _, _ => Nat.le_refl _
  | l :: ls, x, y, h => by
    have h1 := sqRows_len ls 0 (y + 1) fun t ht => h t (List.mem_cons_of_mem _ ht)
    have h2 := sqRow_len (y : Nat) l (x : Nat)
    have h3 := h l List.mem_cons_self
    show (sqRow (x : Nat) (y : Nat) l ++ sqRows 0 (y + 1) ls).length ≤ 9 * (ls.length + 1)
    rw [List.length_append]
    omega
theorem readF_rows {ls : List (List Nat)} (h : ∀ l ∈ ls, l.length ≤ 9 ∧ ∀ s ∈ l, s ∈ sgn5) (hn : ls.length ≤ 9) : readF (joinT (ls.map fun l => runT (rleL l))) = .inr (sqRows 0 0 ls) := by
  unfold readF
  rw [read_rows ls _ 0 0 0 [] h (Nat.le_refl _) (by omega) (by omega) (by rw [List.length_nil]; omega), List.nil_append]
  show (if 4000 < (sqRows 0 0 ls).length then _ else _) = _
  have := sqRows_len ls 0 0 fun l hl => (h l hl).1
  rw [if_neg (by omega)]
theorem readF_one {ls : List (List Nat)} (h : ∀ l ∈ ls, l.length ≤ 9 ∧ ∀ s ∈ l, s ∈ sgn5) (hn : ls.length ≤ 9) : ∃ sq, readF (49 :: 46 :: joinT (ls.map fun l => runT (rleL l))) = .inr sq := by
  unfold readF
  have e : runLen (49 :: 46 :: joinT (ls.map fun l => runT (rleL l))) = some (1, 46, joinT (ls.map fun l => runT (rleL l))) := by
    have f : figN (49 :: 46 :: joinT (ls.map fun l => runT (rleL l))) = 1 := by
      show (if 49 ∈ figS then (if 46 ∈ figS then _ else 0) + 1 else 0) = 1
      rw [if_pos (by decide +kernel), if_neg (by decide +kernel)]
    unfold runLen
    rw [f]
    show (if 46 ∈ sgnS then (if 1 = 0 then _ else if 4 < 1 ∨ 46 = 47 ∨ NumText.digitsVal [48 + 1] = 0 then none else some (NumText.digitsVal [48 + 1], 46, _)) else none) = _
    refine (if_pos (by decide +kernel)).trans ((if_neg (by decide)).trans ((if_neg ?_).trans ?_))
    · rw [digits1 (by decide)]
      decide
    · rw [digits1 (by decide)]
  have g : readGo (49 :: 46 :: joinT (ls.map fun l => runT (rleL l))).length 0 0 0 [] (49 :: 46 :: joinT (ls.map fun l => runT (rleL l))) = .inr (sqRows 1 0 ls) := by
    rw [readGo_step (by simp) (Nat.le_refl _), e]
    show (if 46 = 47 then _ else if 9999 < 0 + 1 then _ else readGo _ _ (0 + 1) 0 ([] ++ []) (joinT (ls.map fun l => runT (rleL l)))) = _
    rw [if_neg (by decide), if_neg (by decide), List.nil_append, read_rows ls _ _ 1 0 [] h (by simp only [List.length_cons]; omega) (by omega) (by omega) (by rw [List.length_nil]; omega)]
    rfl
  rw [g]
  show ∃ sq, (if 4000 < (sqRows 1 0 ls).length then _ else _) = _
  have := sqRows_len ls 1 0 fun l hl => (h l hl).1
  rw [if_neg (by omega)]
  exact ⟨_, rfl⟩
/-! ### a floor's rows -/
/-- a sign for a colour -/
def sgC (c : Int) : Nat := (96 + c).toNat
def rowSq (F : List Sq) (l t : Int) (j : Nat) : List (Nat × Nat) := (F.filter fun s => decide (s.2.1 = t + (j : Int))).map fun s => ((s.1 - l).toNat, sgC s.2.2)
theorem sqRow_wout (y : Int) : ∀ (sqs : List (Nat × Nat)) (e : Nat), RowOk e sqs → sqRow (e : Nat) y (wout e sqs) = sqs.map fun p => ((p.1 : Int), y, colC p.2)
  | [], _, _ => rfl
  | (x, s) :: r, e, ok => by
    obtain ⟨h1, h2, h3⟩ := ok
    show sqRow (e : Nat) y (List.replicate (x - e) 46 ++ s :: wout (x + 1) r) = _
    rw [sqRow_app, sqRow_rep, List.length_replicate, show ((e : Int) + ((x - e : Nat) : Int)) = (x : Nat) by omega]
    have z : runSq (e : Nat) y 46 (x - e) = [] := if_pos rfl
    rw [z, List.nil_append]
    show (if s = 46 then [] else [((x : Int), y, colC s)]) ++ sqRow ((x : Int) + 1) y (wout (x + 1) r) = _
    rw [if_neg h2, show ((x : Int) + 1) = ((x + 1 : Nat) : Int) by omega, sqRow_wout y r (x + 1) h3]
    rfl
/-- what a floor's squares are, for its rows -/
structure FRows (F : List Sq) (l t : Int) (w k : Nat) : Prop where
  asc : F.Pairwise fun a b => a.1 < b.1 ∨ (a.1 = b.1 ∧ a.2.1 < b.2.1)
  x0 : ∀ s ∈ F, l ≤ s.1
  x1 : ∀ s ∈ F, s.1 < l + (w : Int)
  y0 : ∀ s ∈ F, t ≤ s.2.1
  y1 : ∀ s ∈ F, s.2.1 < t + (k : Int)
  c0 : ∀ s ∈ F, 1 ≤ s.2.2
  c1 : ∀ s ∈ F, s.2.2 ≤ 5
theorem rowOk_of : ∀ (G : List Sq) (l y : Int) (e : Nat), (G.Pairwise fun a b => a.1 < b.1 ∨ (a.1 = b.1 ∧ a.2.1 < b.2.1)) → (∀ s ∈ G, l + (e : Int) ≤ s.1 ∧ s.2.1 = y ∧ 1 ≤ s.2.2) → RowOk e (G.map fun s => ((s.1 - l).toNat, sgC s.2.2))
  | [], _, _, _, _, _ => trivial
  | s :: G, l, y, e, pw, h => by
    obtain ⟨p1, p2⟩ := List.pairwise_cons.mp pw
    obtain ⟨h1, h2, h3⟩ := h s List.mem_cons_self
    refine ⟨by omega, by unfold sgC; omega, rowOk_of G l y _ p2 fun u hu => ?_⟩
    obtain ⟨g1, g2, g3⟩ := h u (List.mem_cons_of_mem _ hu)
    have := p1 u hu
    exact ⟨by omega, g2, g3⟩
theorem FRows.ok {F : List Sq} {l t : Int} {w k : Nat} (h : FRows F l t w k) (j : Nat) : RowOk 0 (rowSq F l t j) := by
  refine rowOk_of _ l (t + (j : Int)) 0 (h.asc.sublist List.filter_sublist) fun s hs => ?_
  obtain ⟨h1, h2⟩ := List.mem_filter.mp hs
  exact ⟨by have := h.x0 s h1; omega, of_decide_eq_true h2, h.c0 s h1⟩
theorem sqRows_flat (g : Nat → List Nat) : ∀ (k y : Nat), sqRows 0 y ((List.range' y k).map g) = (List.range' y k).flatMap fun j : Nat => sqRow 0 (j : Nat) (g j)
  | 0, _ => rfl
  | k + 1, y => by
    rw [List.range'_succ, List.map_cons, List.flatMap_cons, ← sqRows_flat g k (y + 1)]
    rfl
theorem perm_rows (t : Int) : ∀ (k : Nat) (F : List Sq), (∀ s ∈ F, t ≤ s.2.1) → ((List.range k).flatMap fun j : Nat => F.filter fun s => decide (s.2.1 = t + (j : Int))).Perm (F.filter fun s => decide (s.2.1 < t + (k : Int)))
  | 0, F, h => by
    have z : F.filter (fun s => decide (s.2.1 < t + ((0 : Nat) : Int))) = [] := by
      rw [List.filter_eq_nil_iff]
      intro s hs q
      have := h s hs
      have := of_decide_eq_true q
      omega
    rw [z]
    exact List.Perm.refl _
  | k + 1, F, h => by
    rw [List.range_succ, List.flatMap_append]
    have e2 : ([k].flatMap fun j : Nat => F.filter fun s => decide (s.2.1 = t + (j : Int))) = F.filter fun s => decide (s.2.1 = t + (k : Int)) := by
      rw [List.flatMap_cons]
      show _ ++ [] = _
      rw [List.append_nil]
    rw [e2]
    refine ((perm_rows t k F h).append_right _).trans ?_
    have p := List.filter_append_perm (fun s : Sq => decide (s.2.1 < t + (k : Int))) (F.filter fun s => decide (s.2.1 < t + ((k + 1 : Nat) : Int)))
    rw [List.filter_filter, List.filter_filter] at p
    have q1 : (F.filter fun s => decide (s.2.1 < t + (k : Int)) && decide (s.2.1 < t + ((k + 1 : Nat) : Int))) = F.filter fun s => decide (s.2.1 < t + (k : Int)) := List.filter_congr fun s _ => by
      rw [Bool.eq_iff_iff, Bool.and_eq_true, decide_eq_true_iff, decide_eq_true_iff]
      omega
    have q2 : (F.filter fun s => (!decide (s.2.1 < t + (k : Int))) && decide (s.2.1 < t + ((k + 1 : Nat) : Int))) = F.filter fun s => decide (s.2.1 = t + (k : Int)) := List.filter_congr fun s _ => by
      rw [Bool.eq_iff_iff, Bool.and_eq_true, Bool.not_eq_true', decide_eq_false_iff_not, decide_eq_true_iff, decide_eq_true_iff]
      omega
    rw [q1, q2] at p
    exact p
/-- the rows' texts tell the floor, moved -/
theorem FRows.back {F : List Sq} {l t : Int} {w k : Nat} (h : FRows F l t w k) : (sqRows 0 0 ((List.range k).map fun j => wout 0 (rowSq F l t j))).Perm (F.map (shSq (-l) (-t))) := by
  have e0 : (sqRows 0 0 ((List.range k).map fun j => wout 0 (rowSq F l t j))) = (List.range k).flatMap fun j : Nat => (F.filter fun s => decide (s.2.1 = t + (j : Int))).map (shSq (-l) (-t)) := by
    rw [List.range_eq_range', sqRows_flat (fun j => wout 0 (rowSq F l t j)) k 0]
    have fc : (fun j : Nat => sqRow 0 (j : Nat) (wout 0 (rowSq F l t j))) = fun j : Nat => (F.filter fun s => decide (s.2.1 = t + (j : Int))).map (shSq (-l) (-t)) := funext fun j => by
      have z := sqRow_wout (j : Nat) (rowSq F l t j) 0 (h.ok j)
      rw [show (((0 : Nat) : Int)) = 0 from rfl] at z
      rw [z]
      unfold rowSq
      rw [List.map_map]
      refine List.map_congr_left fun s hs => ?_
      obtain ⟨h1, h2⟩ := List.mem_filter.mp hs
      have h2 := of_decide_eq_true h2
      have x0 := h.x0 s h1
      have c0 := h.c0 s h1
      show (((s.1 - l).toNat : Int), (j : Int), colC (sgC s.2.2)) = (s.1 + -l, s.2.1 + -t, s.2.2)
      unfold colC sgC
      rw [show (((s.1 - l).toNat : Nat) : Int) = s.1 + -l by omega, show s.2.1 + -t = (j : Int) by omega, show (((96 + s.2.2).toNat : Nat) : Int) - 96 = s.2.2 by omega]
    rw [fc]
  rw [e0, ← List.map_flatMap]
  refine List.Perm.map _ ((perm_rows t k F h.y0).trans ?_)
  rw [List.filter_eq_self.mpr fun s hs => decide_eq_true (h.y1 s hs)]

/-! ### the law's runs -/
theorem contains1 (c d : Nat) : (#[c] : Array Nat).contains d = decide (d = c) := by
  rw [Bool.eq_iff_iff, decide_eq_true_iff, Array.contains_iff_mem]
  exact ⟨fun h => by simpa using h, fun h => by simp [h]⟩
theorem tl_lstrip (x : Str) (c : Nat) : tl (Txt.lstripChars x ⟨#[c]⟩) = (tl x).drop ((tl x).takeWhile fun d => decide (d = c)).length := by
  show tl (Txt.stripBy _ true false x) = _
  rw [PySem.W.stripBy_eq]
  show (x.cps.extract (List.takeWhile (#[c] : Array Nat).contains x.cps.toList).length x.length).toList = _
  rw [show ((#[c] : Array Nat).contains) = fun d => decide (d = c) from funext (contains1 c), Array.toList_extract, List.extract_eq_take_drop]
  have e : x.length = (tl x).length := len_tl x
  rw [e]
  exact List.take_of_length_le (by rw [List.length_drop]; exact Nat.le_refl _)
theorem tw_front {s : Nat} {r : List Nat} (h : r.head? ≠ some s) : ∀ n : Nat, ((List.replicate n s ++ r).takeWhile fun d => decide (d = s)).length = n
  | 0 => by
    cases r with
    | nil => rfl
    | cons t r =>
      show ((t :: r).takeWhile _).length = 0
      rw [List.takeWhile_cons, if_neg (fun z => h (by rw [of_decide_eq_true z]; rfl))]
      rfl
  | n + 1 => by
    rw [List.replicate_succ, List.cons_append, List.takeWhile_cons, if_pos (decide_eq_true rfl), List.length_cons, tw_front h n]
theorem numT_len {n : Nat} (h1 : 0 < n) (h9 : n < 10) : (numT n).length + 1 ≤ 2 * n := by
  unfold numT
  by_cases c : n = 1
  · rw [if_pos c, c]
    exact Nat.le_succ 1
  · rw [if_neg c, numL_lt h9]
    show 2 ≤ 2 * n
    omega
theorem runT_cons (n s : Nat) (rs : List (Nat × Nat)) : runT ((n, s) :: rs) = numT n ++ s :: runT rs := by
  show (numT n ++ [s]) ++ runT rs = _
  rw [List.append_assoc]
  rfl
theorem runT_len : ∀ (k : Nat) (l : List Nat), l.length ≤ k → l.length ≤ 9 → (runT (rleL l)).length ≤ 2 * l.length
  | _, [], _, _ => Nat.le_refl _
  | 0, s :: l, h, _ => absurd h (by simp)
  | k + 1, s :: l, hk, h9 => by
    obtain ⟨n, r, e, hr⟩ := front_run s l
    rw [e] at hk h9 ⊢
    rw [rle_front (Nat.succ_pos n) hr, runT_cons]
    simp only [List.length_append, List.length_replicate, List.length_cons] at hk h9 ⊢
    have h1 := numT_len (Nat.succ_pos n) (by omega)
    have h2 := runT_len k r (by omega) (by omega)
    omega
def spLRuns : Sp := fun vs H Q _ => ∃ z : Str, vs = [.str z] ∧ z.length ≤ 9 ∧ ∀ r H', tl r = runT (rleL (tl z)) → Same H H' → Q (.str r) H'
section
variable {P : Program} {w : World} {K : PySem.W.Frag} {mg : Str → Option Value} {base : Heap}
local macro_rules | `(tactic| walk_at "cl") => `(tactic| first | (refine le_only ?_; omega) | (refine lt_only ?_; omega) | assumption)
theorem ok_law_runs (T : Txt K mg) (D : DefAt K mg "_law_runs" s_law_runs ["signs"]) : Cal P w K mg base CX0 "_law_runs" 1 ["signs"] spLRuns := by
  refine D.cal sc_law_runs (fun vs H Q E h => ?_) (fun f cdv A outer s H vs Q E hr h => ?_)
  · obtain ⟨z, rfl, _⟩ := h
    rfl
  · obtain ⟨z, rfl, hz, q⟩ := h
    refine ⟨_, (pss_cons (ps_asg (pe_tup (pa_cons pe_str (pa_cons pe_int pa_nil))) (pg_tup (by rfl) (pgs_cons (pg_name (i := 1) sc_law_runs.nd rfl (Or.inl rfl)) (pgs_cons (pg_name (i := 2) sc_law_runs.nd rfl (Or.inl rfl)) pgs_nil))))
      (pss_cons (ps_while PassesOwn.never (pt_cmpR op_lt (pv 2) (pe_callB call_len_str (by rfl) T.m_len (by decide +kernel) (pa_cons (pv 0) pa_nil)) (nomark _)) (pss_cons (ps_set (i := 3) sc_law_runs.nd rfl (Or.inl rfl) (pe_op op_sub (pe_callB call_len_str (by rfl) T.m_len (by decide +kernel) (pa_cons (pe_slice sl_str (pv 0) (po_some (pv 2)) po_none) pa_nil)) (pe_callB call_len_str (by rfl) T.m_len (by decide +kernel) (pa_cons (pe_bm PySem.F.plainAttrs_str PySem.F.slot_str_lstrip PySem.F.type_str_lstrip mt_lstripChars (pe_slice sl_str (pv 0) (po_some (pv 2)) po_none) (pa_cons (pe_ix ix_str (pv 0) (pv 2) (fun _ _ => rfl)) pa_nil)) pa_nil))))
      (pss_one (ps_par (i := 1) (j := 2) (by rfl) sc_law_runs.nd rfl rfl (by decide) rfl rfl (pa_cons (pe_op op_add_str (pe_op op_add_str (pv 1) (pe_ifExp (pt_cmpR op_gt (pv 3) pe_int (nomark _)) (pe_callTy call_str_int (by rfl) T.m_str (by decide +kernel) (pa_cons (pv 3) pa_nil)) pe_str)) (pe_ix ix_str (pv 0) (pv 2) (fun _ _ => rfl))) (pa_cons (pe_op op_add (pv 2) (pv 3)) pa_nil)) (by rfl)))))
      (pss_one (ps_ret (pv 1))))), ?_⟩
    walk_at "st"
    intro p np
    walk_at "st"
    refine while_by (fun σ H' => ∃ (b : Nat) (g : Str) (y3 : Option V), σ = [some (.str z), some (.str g), some (.int (b : Nat)), y3] ∧ H' = upd H p (.tup [.str (Str.ofString ""), .int 0]) ∧ b ≤ z.length ∧ tl g ++ runT (rleL ((tl z).drop b)) = runT (rleL (tl z))) (fun σ _ => match σ with | [_, _, some (.int b), _] => z.length - b.toNat | _ => 0) ⟨0, _, _, rfl, rfl, Nat.zero_le _, rfl⟩ ?_ ?_
    · rintro σ H' ⟨b, g, y3, rfl, rfl, hb, he⟩
      have hzs : z.length ≤ sizeLine := Nat.le_trans hz (by decide)
      walk_at "st"
      refine ite2 (fun c1 => ?_) (fun c1 => ?_)
      · have lt : b < z.length := by
          have := of_decide_eq_true c1
          omega
        obtain ⟨c, hc⟩ : ∃ c, (tl z)[b]? = some c := ⟨_, List.getElem?_eq_getElem (by rw [← len_tl]; exact lt)⟩
        have hat : atI z.cps.toList (b : Int) = some c := atI_nat hc
        have edrop : (tl z).drop b = c :: (tl z).drop (b + 1) := by
          obtain ⟨h1, h2⟩ := List.getElem?_eq_some_iff.mp hc
          rw [List.drop_eq_getElem_cons h1, h2]
        obtain ⟨n, r, er, hr⟩ := front_run c ((tl z).drop (b + 1))
        rw [← edrop] at er
        have hcut : tl (cutS z (some (b : Nat)) none) = (tl z).drop b := by
          have z1 : HT.sIx z.length 0 (some (b : Int)) = b := by
            rw [HT.sIx_nat]
            omega
          show ((z.cps.toList.drop (HT.sIx z.length 0 (some (b : Int)))).take (z.length - HT.sIx z.length 0 (some (b : Int)))).toArray.toList = _
          rw [z1]
          exact List.take_of_length_le (by rw [List.length_drop, len_tl]; exact Nat.le_refl _)
        have hstr : tl (Txt.lstripChars (cutS z (some (b : Nat)) none) ⟨#[c]⟩) = r := by
          rw [tl_lstrip, hcut, er, tw_front hr, List.drop_left' (by rw [List.length_replicate])]
        have lcut : (cutS z (some (b : Nat)) none).length = n + 1 + r.length := by
          rw [len_tl, hcut, er, List.length_append, List.length_replicate]
        have lstr : (Txt.lstripChars (cutS z (some (b : Nat)) none) ⟨#[c]⟩).length = r.length := by
          rw [len_tl, hstr]
        have lz : z.length - b = n + 1 + r.length := by
          have z2 := congrArg List.length er
          rw [List.length_drop, ← len_tl, List.length_append, List.length_replicate] at z2
          exact z2
        have n9 : n + 1 ≤ 9 := by omega
        have hl1 : (cutS z (some (b : Nat)) none).length ≤ sizeLine := Nat.le_trans (show _ ≤ 9 by omega) (by decide)
        have hl2 : (Txt.lstripChars (cutS z (some (b : Nat)) none) ⟨#[c]⟩).length ≤ sizeLine := Nat.le_trans (show _ ≤ 9 by omega) (by decide)
        have emany : ((cutS z (some (b : Nat)) none).length : Int) - ((Txt.lstripChars (cutS z (some (b : Nat)) none) ⟨#[c]⟩).length : Int) = ((n + 1 : Nat) : Int) := by omega
        have htot := runT_len 9 (tl z) (by rw [← len_tl]; exact hz) (by rw [← len_tl]; exact hz)
        rw [← he, er, rle_front (show 0 < n + 1 from Nat.succ_pos n) hr, runT_cons] at htot
        rw [List.length_append, List.length_append, List.length_cons, ← len_tl, show (tl z).length = z.length from (len_tl z).symm] at htot
        have hlg : ((n + 1 : Nat) : Int).natAbs.log2 < 1920 := by
          rw [Int.natAbs_natCast]
          exact (Nat.log2_lt (by omega)).mpr (Nat.lt_of_le_of_lt n9 (by decide +kernel))
        have fin : ∀ g' : Str, tl g' = tl g ++ (numT (n + 1) ++ [c]) → (∃ (b' : Nat) (g2 : Str) (y3' : Option V), [some (V.str z), some (.str g'), some (.int ((b : Int) + ((n + 1 : Nat) : Int))), some (.int ((n + 1 : Nat) : Int))] = [some (V.str z), some (V.str g2), some (V.int (b' : Nat)), y3'] ∧ upd H p (.tup [.str (Str.ofString ""), .int 0]) = upd H p (.tup [.str (Str.ofString ""), .int 0]) ∧ b' ≤ z.length ∧ tl g2 ++ runT (rleL ((tl z).drop b')) = runT (rleL (tl z))) ∧ z.length - ((b : Int) + ((n + 1 : Nat) : Int)).toNat < z.length - ((b : Nat) : Int).toNat := fun g' hg' => by
          refine ⟨⟨b + (n + 1), g', _, rfl, rfl, by omega, ?_⟩, by omega⟩
          have ed : (tl z).drop (b + (n + 1)) = r := by
            rw [← List.drop_drop, er, List.drop_left' (by rw [List.length_replicate])]
          rw [ed, hg', ← he, er, rle_front (show 0 < n + 1 from Nat.succ_pos n) hr, runT_cons, List.append_assoc, List.append_assoc]
          rfl
        walk_at "st"
        simp only [List.set_cons_zero, List.set_cons_succ, emany]
        refine ite2 (fun c2 => ?_) (fun c2 => ?_)
        · have c2 : 1 < n + 1 := by
            have c2 : ((n + 1 : Nat) : Int) > 1 := of_decide_eq_true c2
            omega
          have e1 : numT (n + 1) = numL (n + 1) := if_neg (by omega)
          have e2 : tl (Str.ofString (toString ((n + 1 : Nat) : Int))) = numL (n + 1) := numS_nat (n + 1)
          have l2 : (Str.ofString (toString ((n + 1 : Nat) : Int))).length = (numT (n + 1)).length := by rw [len_tl, e2, e1]
          have s1 : g.length + (Str.ofString (toString ((n + 1 : Nat) : Int))).length ≤ sizeLine := Nat.le_trans (show _ ≤ 18 by omega) (by decide)
          have s2 : (g ++ Str.ofString (toString ((n + 1 : Nat) : Int))).length + (⟨#[c]⟩ : Str).length ≤ sizeLine := by
            rw [len_tl, tl_append, List.length_append, ← len_tl, ← len_tl, l2]
            exact Nat.le_trans (show _ + 1 ≤ 19 by omega) (by decide)
          walk_at "st"
          refine fin _ ?_
          rw [tl_append, tl_append, e2, e1, List.append_assoc]
        · have c2 : n + 1 = 1 := by
            have c2 : ¬ ((n + 1 : Nat) : Int) > 1 := fun m => c2 (decide_eq_true m)
            omega
          have e1 : numT (n + 1) = [] := if_pos c2
          have s1 : g.length + (Str.ofString "").length ≤ sizeLine := Nat.le_trans (show _ + 0 ≤ 18 by omega) (by decide)
          have s2 : (g ++ Str.ofString "").length + (⟨#[c]⟩ : Str).length ≤ sizeLine := by
            rw [len_tl, tl_append, List.length_append, ← len_tl, ← len_tl]
            exact Nat.le_trans (show _ + 0 + 1 ≤ 19 by omega) (by decide)
          walk_at "st"
          refine fin _ ?_
          rw [tl_append, tl_append, e1, List.append_assoc]
          rfl
      · have ge : (tl z).length ≤ b := by
          have c1 : ¬ (b : Int) < (z.length : Int) := fun m => c1 (decide_eq_true m)
          rw [← len_tl]
          omega
        have e0 : (tl z).drop b = [] := List.drop_eq_nil_of_le ge
        rw [e0] at he
        have he : tl g ++ [] = runT (rleL (tl z)) := he
        rw [List.append_nil] at he
        walk_at "st"
        exact q _ _ he (Same.new np)
    · intro σ H' Q Q' hq h
      obtain ⟨v1, e1, v0, e0, z1, r1, r2, i, j, r3, r4, k1, ek, h⟩ := h
      exact ⟨v1, e1, v0, e0, z1, r1, r2, i, j, r3, r4, k1, ek, hq _ _ h⟩
end

/-! ### a row's text -/
def rqD (p : Nat × Nat) : PyData := .tuple [.int (p.1 : Nat), .int (colC p.2)]
def runD (p : Nat × Nat) : PyData := .tuple [.int (p.1 : Nat), .str ⟨#[p.2]⟩]
def runS (p : Nat × Nat) : Str := if p.1 = 1 then ⟨#[p.2]⟩ else Str.ofString (toString (p.1 : Int)) ++ ⟨#[p.2]⟩
theorem tl_runS (p : Nat × Nat) : tl (runS p) = numT p.1 ++ [p.2] := by
  unfold runS numT
  split
  · rfl
  · rw [tl_append, show (Str.ofString (toString ((p.1 : Nat) : Int))) = numS ((p.1 : Nat) : Int) from rfl, numS_nat]
theorem joinL_nil : ∀ ps : List (List Nat), joinL [] ps = ps.flatten
  | [] => rfl
  | [p] => by
    show p = p ++ []
    rw [List.append_nil]
  | p :: q :: r => by
    show p ++ ([] ++ joinL [] (q :: r)) = p ++ (q :: r).flatten
    rw [joinL_nil (q :: r)]
    rfl
theorem join_runS (rs : List (Nat × Nat)) : tl (Txt.join (Str.ofString "") (rs.map runS)) = runT rs := by
  rw [join_eq, tl_join, show tl (Str.ofString "") = [] from rfl, joinL_nil, List.map_map]
  unfold runT
  rw [List.flatMap_def]
  congr 1
  exact List.map_congr_left fun p _ => tl_runS p
theorem joinL_lenJ (S : List Nat) : ∀ ps : List (List Nat), (joinL S ps).length ≤ (ps.map List.length).sum + ps.length * S.length
  | [] => Nat.zero_le _
  | [p] => by
    show p.length ≤ p.length + 0 + 1 * S.length
    omega
  | p :: q :: r => by
    have h := joinL_lenJ S (q :: r)
    show (p ++ (S ++ joinL S (q :: r))).length ≤ p.length + ((q :: r).map List.length).sum + ((q :: r).length + 1) * S.length
    rw [List.length_append, List.length_append, Nat.add_mul]
    omega
theorem join_lenJ (y : Str) (ps : List Str) : (Txt.join y ps).length ≤ (ps.map (·.length)).sum + ps.length * y.length := by
  have h := joinL_lenJ (tl y) (ps.map tl)
  rw [len_tl, join_eq, tl_join]
  rw [List.map_map, List.length_map] at h
  rw [len_tl y, show (fun x : Str => x.length) = List.length ∘ tl from funext fun x => len_tl x]
  exact h
theorem sum_le {α : Type} (f : α → Nat) (m : Nat) : ∀ l : List α, (∀ x ∈ l, f x ≤ m) → (l.map f).sum ≤ l.length * m
  | [], _ => Nat.zero_le _
  | x :: l, h => by
    have h1 := h x List.mem_cons_self
    have h2 := sum_le f m l fun y hy => h y (List.mem_cons_of_mem _ hy)
    rw [List.map_cons, List.sum_cons, List.length_cons, Nat.add_mul]
    omega
theorem runS_len {p : Nat × Nat} (h : p.1 < 10 ^ 5) : (runS p).length ≤ 6 := by
  rw [len_tl, tl_runS, List.length_append]
  have : (numT p.1).length ≤ 5 := by
    unfold numT
    split
    · exact Nat.zero_le _
    · exact numL_len (by decide) h
  show _ + 1 ≤ 6
  omega
theorem log_five {n : Nat} (h : n < 10 ^ 5) : ((n : Nat) : Int).natAbs.log2 < 1920 := by
  rw [Int.natAbs_natCast]
  by_cases c : n = 0
  · rw [c]
    decide
  · exact (Nat.log2_lt c).mpr (Nat.lt_of_lt_of_le h (by decide +kernel))
/-- the runs of a row are few and small -/
structure RunsOk (rs : List (Nat × Nat)) (i : Nat) : Prop where
  len : rs.length ≤ 2 * i
  sm : ∀ p ∈ rs, p.1 ≤ 10000 + i
theorem RunsOk.add {rs : List (Nat × Nat)} {i s : Nat} (h : rs.length ≤ 2 * i + 1 ∧ ∀ p ∈ rs, p.1 ≤ 10000 + i) : RunsOk (addS rs s) (i + 1) := by
  unfold addS
  split
  · rename_i m t e
    have hm := h.2 (m, t) (List.mem_of_getLast? e)
    split
    · refine ⟨?_, fun p hp => ?_⟩
      · rw [List.length_append, List.length_dropLast]
        show _ + 1 ≤ _
        omega
      · rcases List.mem_append.mp hp with hp | hp
        · have := h.2 p (List.dropLast_subset _ hp)
          omega
        · rw [List.mem_singleton.mp hp]
          show m + 1 ≤ _
          have : m ≤ 10000 + i := hm
          omega
    · refine ⟨?_, fun p hp => ?_⟩
      · rw [List.length_append]
        show _ + 1 ≤ _
        omega
      · rcases List.mem_append.mp hp with hp | hp
        · have := h.2 p hp
          omega
        · rw [List.mem_singleton.mp hp]
          show 1 ≤ _
          omega
  · refine ⟨by show 1 ≤ _; omega, fun p hp => ?_⟩
    rw [List.mem_singleton.mp hp]
    show 1 ≤ _
    omega
def gapR (rs : List (Nat × Nat)) (e x : Nat) : List (Nat × Nat) := if e < x then rs ++ [(x - e, 46)] else rs
theorem RunsOk.gap {rs : List (Nat × Nat)} {i e x : Nat} (h : RunsOk rs i) (hx : x < 10000) : (gapR rs e x).length ≤ 2 * i + 1 ∧ ∀ p ∈ gapR rs e x, p.1 ≤ 10000 + i := by
  unfold gapR
  split
  · refine ⟨by rw [List.length_append]; have := h.len; show _ + 1 ≤ _; omega, fun p hp => ?_⟩
    rcases List.mem_append.mp hp with hp | hp
    · exact h.sm p hp
    · rw [List.mem_singleton.mp hp]
      show x - e ≤ _
      omega
  · exact ⟨by have := h.len; omega, h.sm⟩
theorem sgn_at {s : Nat} (h1 : 97 ≤ s) (h2 : s ≤ 101) : atI (Str.ofString ".abcde").cps.toList (colC s) = some s := by
  have h : s = 97 ∨ s = 98 ∨ s = 99 ∨ s = 100 ∨ s = 101 := by omega
  rcases h with rfl | rfl | rfl | rfl | rfl <;> decide +kernel
theorem ixN_last {n : Nat} (h : 0 < n) : ixN n (-1) = some (n - 1) := by
  unfold ixN
  rw [if_neg (by decide), if_pos (by omega)]
  congr 1
  omega
theorem str1_eq {s t : Nat} : (V.str ⟨#[s]⟩ = V.str ⟨#[t]⟩) ↔ s = t := by
  constructor
  · intro v
    have v := V.str.inj v
    have v : (#[s] : Array Nat) = #[t] := congrArg Str.cps v
    exact (List.cons.inj (congrArg Array.toList v)).1
  · rintro rfl
    rfl
theorem TpAll.snocI {K : PySem.W.Frag} {H : Hp} : ∀ {ds : List PyData} {vs : List V} {d : PyData}, TpAll K H vs (ds ++ [d]) → ∃ ws v, vs = ws ++ [v] ∧ TpAll K H ws ds ∧ Tp K H v d
  | [], vs, d, h => by
    obtain ⟨v, ws, rfl, h1, h2⟩ := h.consI
    obtain rfl := h2.nilI
    exact ⟨[], v, rfl, .nil, h1⟩
  | e :: ds, vs, d, h => by
    obtain ⟨v, ws, rfl, h1, h2⟩ := TpAll.consI (ds := ds ++ [d]) h
    obtain ⟨us, u, rfl, h3, h4⟩ := TpAll.snocI h2
    exact ⟨v :: us, u, rfl, .cons h1 h3, h4⟩
def spRowT (K : PySem.W.Frag) : Sp := fun vs H Q _ => ∃ (a : Addr) (us : List V) (sqs : List (Nat × Nat)), vs = [.ref a] ∧ H a = some (.lst us) ∧ TpAll K H us (sqs.map rqD) ∧ sqs.length ≤ 20 ∧ (∀ p ∈ sqs, p.1 < 10000 ∧ 97 ≤ p.2 ∧ p.2 ≤ 101) ∧ ∀ z H', tl z = runT (rGo [] 0 sqs) → z.length ≤ 240 → Same H H' → Q (.str z) H'
section
variable {P : Program} {w : World} {K : PySem.W.Frag} {mg : Str → Option Value} {base : Heap}
local macro_rules | `(tactic| walk_at "cl") => `(tactic| first | (refine le_only ?_; omega) | (refine lt_only ?_; omega) | assumption)
theorem ok_u_row_text (T : Txt K mg) (D : DefAt K mg "_row_text" s_u_row_text ["row"]) : Cal P w K mg base CX0 "_row_text" 1 ["row"] (spRowT K) := by
  refine D.cal sc_u_row_text (fun vs H Q E h => ?_) (fun f cdv A outer s H vs Q E hr h => ?_)
  · obtain ⟨a, us, sqs, rfl, _⟩ := h
    rfl
  · obtain ⟨a, us, sqs, rfl, ha, hus, hl, hok, q⟩ := h
    refine ⟨_, (pss_cons (ps_set (i := 1) sc_u_row_text.nd rfl (Or.inl rfl) (pe_lst pa_nil))
      (pss_cons (ps_set (i := 2) sc_u_row_text.nd rfl (Or.inl rfl) pe_int)
      (pss_cons (ps_for PassesOwn.never rfl (k_pi_list (K := K) (pv 0)) (pg_tup (by rfl) (pgs_cons (pg_name (i := 3) sc_u_row_text.nd rfl (Or.inl rfl)) (pgs_cons (pg_name (i := 4) sc_u_row_text.nd rfl (Or.inl rfl)) pgs_nil)))
      (pss_cons (ps_if (pt_cmpR op_gt (pv 3) (pv 2) (nomark _)) (pss_one (ps_expr (pe_bm PySem.F.plainAttrs_list PySem.F.slot_list_append PySem.F.type_list_append mt_append (pv 1) (pa_cons (pe_tup (pa_cons (pe_op op_sub (pv 3) (pv 2)) (pa_cons pe_str pa_nil))) pa_nil)))) pss_nil)
      (pss_cons (ps_if (PW.pt (pw_and (pt_truth (pv 1) (by intro _; rfl)) (pw_and1 (pt_cmpR op_eq (pe_ix (k_ix_tup (K := K)) (pe_ix (k_ix_list (K := K)) (pv 1) (pe_un un_neg pe_int) (fun _ _ => rfl)) pe_int (fun _ _ => rfl)) (pe_ix ix_str (pe_gstr (by rfl) T.signs) (pv 4) (fun _ _ => rfl)) (nomark _))))) (pss_one (ps_asg (pe_tup (pa_cons (pe_op op_add (pe_ix (k_ix_tup (K := K)) (pe_ix (k_ix_list (K := K)) (pv 1) (pe_un un_neg pe_int) (fun _ _ => rfl)) pe_int (fun _ _ => rfl)) pe_int) (pa_cons (pe_ix ix_str (pe_gstr (by rfl) T.signs) (pv 4) (fun _ _ => rfl)) pa_nil))) (pg_sub (pv 1) (pe_un un_neg pe_int) set_list))) (pss_one (ps_expr (pe_bm PySem.F.plainAttrs_list PySem.F.slot_list_append PySem.F.type_list_append mt_append (pv 1) (pa_cons (pe_tup (pa_cons pe_int (pa_cons (pe_ix ix_str (pe_gstr (by rfl) T.signs) (pv 4) (fun _ _ => rfl)) pa_nil))) pa_nil)))))
      (pss_one (ps_set (i := 2) sc_u_row_text.nd rfl (Or.inl rfl) (pe_op op_add (pv 3) pe_int))))))
      (pss_one (ps_ret (pe_m1 PySem.F.slot_str_join PySem.F.type_str_join (k_mt_join (K := K)) pe_str (pe_lc (own := [("many", 5), ("sign", 6)]) (g := gTup K 2 (gCons (gName 5) (gCons (gName 6) gNil))) rfl sc_u_row_text.nd (k_pi_list (K := K) (pv 1)) (blkOk_by (by rfl)) (fun _ _ _ _ _ => (k_pgT (K := K) 2 (by rfl) (pgs_cons (pg_name (i := 5) sc_u_row_text.nd rfl (Or.inl rfl)) (pgs_cons (pg_name (i := 6) sc_u_row_text.nd rfl (Or.inl rfl)) pgs_nil)))) (fun _ _ _ _ _ => pts_nil) (fun _ _ _ _ _ => (pe_ifExp (pt_cmpR op_eq (pv 5) pe_int (nomark _)) (pv 6) (pe_joined (PJ.cons (pe_fmt (pv 5)) (PJ.cons (pe_fmt (pv 6)) PJ.nil)))))))))))), ?_⟩
    have hSa := SqL.of (K := K) ha
    have lus : us.length = sqs.length := by rw [TpAll.length hus, List.length_map]
    walk_at "st"
    intro R nR
    have hSa2 := SqL.of (K := K) ((Same.new (o := .lst []) nR) _ _ ha)
    rw [show L2.start ["row", "runs", "end", "x", "colour", "many", "sign"] [V.ref a] = [some (.ref a), none, none, none, none, none, none] from rfl]
    simp only [List.set_cons_zero, List.set_cons_succ]
    walk_at "st"
    refine for_it (walk_list (K := K) (a := a) (xs := us)) (fun i σ H' => Ok (∃ (y3 y4 y5 y6 : Option V) (rs : List V) (runs : List (Nat × Nat)) (e : Nat), σ = [some (.ref a), some (.ref R), some (.int (e : Nat)), y3, y4, y5, y6] ∧ Same H H' ∧ H' R = some (.lst rs) ∧ TpAll K H' rs (runs.map runD) ∧ RunsOk runs i ∧ e ≤ 10000 ∧ rGo runs e (sqs.drop i) = rGo [] 0 sqs)) ⟨_, _, _, _, [], [], 0, rfl, Same.new nR, upd_same, .nil, ⟨Nat.le_refl _, fun p hp => nomatch hp⟩, Nat.zero_le _, rfl⟩ (fun i σ H' _ ⟨_, _, _, _, _, _, _, _, sm, _⟩ => SqL.of (sm _ _ ha)) ?_ ?_
    · rintro i x σ H2 H3 hi ⟨y3, y4, y5, y6, rs, runs, e, rfl, sm, hR, hrs, rok, he, hgo⟩ ⟨rfl, hx⟩
      have hi : i < sqs.length := by omega
      have ei : sqs[i]? = some sqs[i] := List.getElem?_eq_getElem hi
      have hmem := List.getElem_mem hi
      obtain ⟨u, eu, hu⟩ := hus.get (i := i) (d := rqD sqs[i]) (by rw [List.getElem?_map, ei]; rfl)
      rw [hx] at eu
      cases eu
      have hu2 := Tp.mono (Same.tk sm) _ _ hu
      rw [List.drop_eq_getElem_cons hi] at hgo
      generalize sqs[i] = sq at *
      obtain ⟨xx, s⟩ := sq
      obtain ⟨hx1, hs1, hs2⟩ := hok _ hmem
      have hx1 : xx < 10000 := hx1
      have hs1 : 97 ≤ s := hs1
      have hs2 : s ≤ 101 := hs2
      obtain ⟨pa, rfl, hpa⟩ := (show Tp K H3 x (.tuple [.int (xx : Nat), .int (colC s)]) from hu2).int2
      have hsg := sgn_at hs1 hs2
      have rgap := rok.gap hx1 (e := e)
      have hgo2 : rGo (addS (gapR runs e xx) s) (xx + 1) (sqs.drop (i + 1)) = rGo [] 0 sqs := hgo
      have lrs : rs.length = runs.length := by rw [TpAll.length hrs, List.length_map]
      have l1 : rs.length < sizeLine := Nat.lt_of_le_of_lt (show _ ≤ 40 by have := rok.len; omega) (by decide)
      refine ⟨pa, [.int (xx : Nat), .int (colC s)], rfl, hpa, rfl, _, _, rfl, _, _, rfl, rfl, ?_⟩
      simp only [List.set_cons_zero, List.set_cons_succ]
      refine seq_cutO (fun σ' H' => ∃ rs' : List V, σ' = [some (.ref a), some (.ref R), some (.int (e : Nat)), some (.int (xx : Nat)), some (.int (colC s)), y5, y6] ∧ Same H H' ∧ H' R = some (.lst rs') ∧ TpAll K H' rs' ((gapR runs e xx).map runD)) ?_ ?_
      rotate_left
      · intro R1 hR1
        walk_at "st"
        refine ite2 (fun c => ?_) (fun c => ?_)
        · have c : e < xx := by
            have c : (xx : Int) > (e : Int) := of_decide_eq_true c
            omega
          walk_at "st"
          intro p np
          have s2 : Same H3 (upd H3 p (.tup [.int ((xx : Int) - (e : Int)), .str (Str.ofString ".")])) := Same.new np
          have hR2 := s2 _ _ hR
          have tl2 := TK.lst (o := .lst (rs ++ [V.ref p])) hR2
          walk_at "st"
          refine hR1 _ _ ⟨_, rfl, Same.fresh (Same.trans sm s2) nR, upd_same, ?_⟩
          rw [show gapR runs e xx = runs ++ [(xx - e, 46)] from if_pos c, List.map_append]
          refine TpAll.append (TpAll.mono (TK.trans (Same.tk s2) tl2) _ _ hrs) (.cons (Tp.mono tl2 _ _ ?_) .nil)
          have ez : (xx : Int) - (e : Int) = ((xx - e : Nat) : Int) := by omega
          rw [ez]
          exact .tup (SqT.of upd_same) (.cons (.int _) (.cons (.str _) .nil))
        · have c : ¬ e < xx := fun m => c (decide_eq_true (show (xx : Int) > (e : Int) by omega))
          walk_at "st"
          refine hR1 _ _ ⟨rs, rfl, sm, hR, ?_⟩
          rw [show gapR runs e xx = runs from if_neg c]
          exact hrs
      · rintro σ' H4 ⟨rs4, rfl, sm4, hR4, hrs4⟩
        generalize gapR runs e xx = gr at *
        have rok2 := RunsOk.add (s := s) rgap
        have lgr : gr.length ≤ 40 := by have := rgap.1; omega
        refine seq_cutO (fun σ' H' => ∃ rs' : List V, σ' = [some (.ref a), some (.ref R), some (.int (e : Nat)), some (.int (xx : Nat)), some (.int (colC s)), y5, y6] ∧ Same H H' ∧ H' R = some (.lst rs') ∧ TpAll K H' rs' ((addS gr s).map runD)) ?_ ?_
        rotate_left
        · intro R1 hR1
          have hSR := SqL.of (K := K) hR4
          rcases List.eq_nil_or_concat gr with eg | ⟨g0, ⟨m, t⟩, eg⟩
          · subst eg
            obtain rfl := hrs4.nilI
            have tv : TruV K (.ref R) H4 false := .inl ⟨_, hSR, rfl⟩
            have l0 : ([] : List V).length < sizeLine := by decide
            walk_at "st"
            intro p np
            have s2 : Same H4 (upd H4 p (.tup [.int 1, .str ⟨#[s]⟩])) := Same.new np
            have hR5 := s2 _ _ hR4
            have tl2 := TK.lst (o := .lst ([] ++ [V.ref p])) hR5
            walk_at "st"
            refine hR1 _ _ ⟨_, rfl, Same.fresh (Same.trans sm4 s2) nR, upd_same, ?_⟩
            exact .cons (Tp.mono tl2 _ _ (.tup (SqT.of upd_same) (.cons (.int 1) (.cons (.str _) .nil)))) .nil
          · subst eg
            rw [List.concat_eq_append, List.map_append] at hrs4
            obtain ⟨r0, v, rfl, hr0, hv⟩ := TpAll.snocI hrs4
            obtain ⟨vb, vs, rfl, hvb, hvs⟩ := hv.tupI
            obtain ⟨v1, vs1, rfl, hv1, hvs1⟩ := hvs.consI
            obtain ⟨v2, vs2, rfl, hv2, hvs2⟩ := hvs1.consI
            obtain rfl := hvs2.nilI
            obtain rfl := hv1.intI
            obtain rfl := hv2.strI
            have tv : TruV K (.ref R) H4 true := .inl ⟨_, hSR, by cases r0 <;> rfl⟩
            have lr0 : r0.length = g0.length := by rw [TpAll.length hr0, List.length_map]
            have ha1 : atI (r0 ++ [V.ref vb]) (-1) = some (V.ref vb) := atI_last _ _
            have hix : ixN (r0 ++ [V.ref vb]).length (-1) = some r0.length := by
              rw [ixN_last (by rw [List.length_append]; exact Nat.succ_pos _), List.length_append]
              rfl
            rw [List.concat_eq_append] at lgr hR1
            rw [List.length_append] at lgr
            have lgr : g0.length + 1 ≤ 40 := lgr
            have l1 : (r0 ++ [V.ref vb]).length < sizeLine := Nat.lt_of_le_of_lt (show _ ≤ 40 by rw [List.length_append]; show r0.length + 1 ≤ 40; omega) (by decide)
            have eadd : addS (g0 ++ [(m, t)]) s = if t = s then g0 ++ [(m + 1, s)] else g0 ++ [(m, t)] ++ [(1, s)] := by
              unfold addS
              rw [List.getLast?_append]
              show (if t = s then (g0 ++ [(m, t)]).dropLast ++ [(m + 1, s)] else _) = _
              rw [List.dropLast_append_of_ne_nil (by simp), List.dropLast_singleton, List.append_nil]
            rw [eadd] at hR1
            walk_at "st"
            refine ite2 (fun c => ?_) (fun c => ?_)
            · have c : t = s := str1_eq.mp (of_decide_eq_true c)
              rw [if_pos c] at hR1
              walk_at "st"
              intro p np
              have s2 : Same H4 (upd H4 p (.tup [.int ((m : Int) + 1), .str ⟨#[s]⟩])) := Same.new np
              have hR5 := s2 _ _ hR4
              walk_at "st"
              have eset : (r0 ++ [V.ref vb]).set r0.length (.ref p) = r0 ++ [.ref p] := by
                rw [List.set_append_right _ _ (Nat.le_refl _), Nat.sub_self]
                rfl
              have tl2 := TK.lst (o := .lst (r0 ++ [.ref p])) hR5
              rw [eset]
              refine hR1 _ _ ⟨_, rfl, Same.fresh (Same.trans sm4 s2) nR, upd_same, ?_⟩
              rw [List.map_append]
              refine TpAll.append (TpAll.mono (TK.trans (Same.tk s2) tl2) _ _ hr0) (.cons (Tp.mono tl2 _ _ ?_) .nil)
              exact .tup (SqT.of upd_same) (.cons (.int _) (.cons (.str _) .nil))
            · have c : t ≠ s := fun m => c (decide_eq_true (str1_eq.mpr m))
              rw [if_neg c] at hR1
              walk_at "st"
              intro p np
              have s2 : Same H4 (upd H4 p (.tup [.int 1, .str ⟨#[s]⟩])) := Same.new np
              have hR5 := s2 _ _ hR4
              have tl2 := TK.lst (o := .lst (r0 ++ [V.ref vb] ++ [V.ref p])) hR5
              walk_at "st"
              refine hR1 _ _ ⟨_, rfl, Same.fresh (Same.trans sm4 s2) nR, upd_same, ?_⟩
              rw [List.map_append]
              refine TpAll.append (TpAll.mono (TK.trans (Same.tk s2) tl2) _ _ ?_) (.cons (Tp.mono tl2 _ _ ?_) .nil)
              · rw [List.map_append]
                exact TpAll.append hr0 (.cons (.tup hvb (.cons (.int _) (.cons (.str _) .nil))) .nil)
              · exact .tup (SqT.of upd_same) (.cons (.int _) (.cons (.str _) .nil))
        · rintro σ' H5 ⟨rs5, rfl, sm5, hR5, hrs5⟩
          walk_at "st"
          exact ⟨_, _, _, _, rs5, addS gr s, xx + 1, rfl, sm5, hR5, hrs5, rok2, by omega, hgo2⟩
    · rintro σ H2 ⟨y3, y4, y5, y6, rs, runs, e, rfl, sm, hR, hrs, rok, he, hgo⟩
      rw [show us.length = sqs.length by omega, List.drop_length] at hgo
      have hgo : runs = rGo [] 0 sqs := hgo
      rw [show us.length = sqs.length by omega] at rok
      have hSR := SqL.of (K := K) hR
      have lrs : rs.length = runs.length := by rw [TpAll.length hrs, List.length_map]
      walk_at "st"
      intro D nD
      refine lc_it (walk_list (K := K) (a := R) (xs := rs)) (fun i H' => Ok (Same H2 H' ∧ H' D = some (.lst (((runs.take i).map runS).map V.str)))) ⟨Same.new nD, upd_same⟩ (fun i H' _ ⟨s2, _⟩ => SqL.of (s2 _ _ hR)) ?_ ?_
      · rintro i x H3 H4 hi ⟨s3, hD⟩ ⟨rfl, hx⟩
        have hi : i < runs.length := by omega
        have ei : runs[i]? = some runs[i] := List.getElem?_eq_getElem hi
        have hmem := List.getElem_mem hi
        have tk1 := take_more ei
        obtain ⟨u, eu, hu⟩ := hrs.get (i := i) (d := runD runs[i]) (by rw [List.getElem?_map, ei]; rfl)
        rw [hx] at eu
        cases eu
        have hu2 := Tp.mono (Same.tk s3) _ _ hu
        have hp5 : runs[i].1 < 10 ^ 5 := Nat.lt_of_le_of_lt (rok.sm _ hmem) (by omega)
        have hlr := rok.len
        generalize runs[i] = rp at *
        obtain ⟨vb, vs, rfl, hvb, hvs⟩ := hu2.tupI
        obtain ⟨v1, vs1, rfl, hv1, hvs1⟩ := hvs.consI
        obtain ⟨v2, vs2, rfl, hv2, hvs2⟩ := hvs1.consI
        obtain rfl := hvs2.nilI
        obtain rfl := hv1.intI
        obtain rfl := hv2.strI
        have lt : (((runs.take i).map runS).map V.str).length < sizeLine := by
          rw [List.length_map, List.length_map, List.length_take]
          exact Nat.lt_of_le_of_lt (show _ ≤ 40 by omega) (by decide)
        have fin : Same H2 (upd H4 D (.lst ((((runs.take i).map runS).map V.str) ++ [V.str (runS rp)]))) ∧ (upd H4 D (.lst ((((runs.take i).map runS).map V.str) ++ [V.str (runS rp)]))) D = some (.lst (((runs.take (i + 1)).map runS).map V.str)) := by
          refine ⟨Same.fresh s3 nD, ?_⟩
          rw [upd_same, tk1, List.map_append, List.map_append]
          rfl
        have lg := log_five hp5
        walk_at "st"
        refine ite2 (fun c => ?_) (fun c => ?_)
        · have c : rp.1 = 1 := by
            have c := V.int.inj (of_decide_eq_true c)
            omega
          walk_at "st"
          rw [show runS rp = ⟨#[rp.2]⟩ from if_pos c] at fin
          exact ⟨fin⟩
        · have c : rp.1 ≠ 1 := fun m => c (decide_eq_true (congrArg V.int (by omega)))
          have er : runS rp = Str.ofString (toString ((rp.1 : Nat) : Int)) ++ ⟨#[rp.2]⟩ := if_neg c
          have lnum : (tl (Str.ofString (toString ((rp.1 : Nat) : Int)))).length ≤ 5 := by
            rw [show tl (Str.ofString (toString ((rp.1 : Nat) : Int))) = numL rp.1 from numS_nat rp.1]
            exact numL_len (by decide) hp5
          have ez : Str.empty ++ Str.ofString (toString ((rp.1 : Nat) : Int)) ++ ⟨#[rp.2]⟩ = runS rp := ext_tl (by
            rw [tl_append, tl_append, er, tl_append]
            rfl)
          have ll1 : (Str.empty ++ Str.ofString (toString ((rp.1 : Nat) : Int))).length ≤ sizeLine := by
            rw [len_tl, tl_append, List.length_append]
            exact small_le (show 0 + _ ≤ 1000 by omega)
          have ll2 : (Str.empty ++ Str.ofString (toString ((rp.1 : Nat) : Int)) ++ ⟨#[rp.2]⟩).length ≤ sizeLine := by
            rw [len_tl, tl_append, tl_append, List.length_append, List.length_append]
            exact small_le (show 0 + _ + 1 ≤ 1000 by omega)
          walk_at "st"
          refine Or.inr ?_
          walk_at "st"
          refine Or.inl ?_
          walk_at "st"
          rw [ez]
          exact ⟨fin⟩
      · rintro H3 ⟨s3, hD⟩
        rw [show rs.length = runs.length by omega, List.take_length] at hD
        have hlr := rok.len
        have hsum := sum_le (fun p : Str => p.length) 6 (runs.map runS) fun p hp => by
          obtain ⟨r, hr, rfl⟩ := List.mem_map.mp hp
          exact runS_len (Nat.lt_of_le_of_lt (rok.sm _ hr) (by omega))
        rw [List.length_map] at hsum
        walk_at "st"
        have lj : (Txt.join (Str.ofString "") (runs.map runS)).length ≤ 240 := by
          have := join_lenJ (Str.ofString "") (runs.map runS)
          rw [show (Str.ofString "").length = 0 from rfl] at this
          omega
        refine ⟨?_, q _ _ (by rw [join_runS, hgo]) lj (Same.trans sm s3)⟩
        rw [show (Str.ofString "").length = 0 from rfl]
        omega
end

/-! ### a floor written -/
/-- the text of a floor's rows -/
def writeT (F : List Sq) (l t : Int) (k : Nat) : List Nat := joinT ((List.range k).map fun j => runT (rGo [] 0 (rowSq F l t j)))
theorem joinL_T : ∀ ps : List (List Nat), joinL [47] ps = joinT ps
  | [] => rfl
  | [p] => rfl
  | p :: q :: r => by
    show p ++ ([47] ++ joinL [47] (q :: r)) = p ++ 47 :: joinT (q :: r)
    rw [joinL_T (q :: r)]
    rfl
theorem rowSq_snoc (F : List Sq) (s : Sq) (l t : Int) (j : Nat) : rowSq (F ++ [s]) l t j = if s.2.1 = t + (j : Int) then rowSq F l t j ++ [((s.1 - l).toNat, sgC s.2.2)] else rowSq F l t j := by
  unfold rowSq
  rw [List.filter_append, List.map_append]
  by_cases c : s.2.1 = t + (j : Int)
  · rw [if_pos c, List.filter_cons_of_pos (by simpa using c)]
    rfl
  · rw [if_neg c, List.filter_cons_of_neg (by simpa using c)]
    exact List.append_nil _
theorem rowSq_nil (l t : Int) (j : Nat) : rowSq [] l t j = [] := rfl
theorem rowSq_len (F : List Sq) (l t : Int) (j : Nat) : (rowSq F l t j).length ≤ F.length := by
  unfold rowSq
  rw [List.length_map]
  exact List.length_filter_le _ _
def spWriteF (K : PySem.W.Frag) (CT : Addr) : Sp := fun vs H Q E => ∃ (fv : V) (F : List Sq), vs = [fv] ∧ Tp K H fv (floorD F) ∧ FlOk 6 FarI F ∧ F.length ≤ 20 ∧ (F = [] → ∀ v H', Tp K H' v (.tuple [.str (Str.ofString ""), .tuple [.int 0, .int 0]]) → Same H H' → Q v H') ∧
  (F ≠ [] → ∀ l t r b, BoxOf (F.map Sq.pt) l t r b → (r - l < 9999 ∧ b - t < 9999 → ∀ z v H', tl z = writeT F l t (b - t + 1).toNat → Tp K H' v (.tuple [.str z, .tuple [.int l, .int t]]) → Same H H' → Q v H') ∧ (¬ (r - l < 9999 ∧ b - t < 9999) → ∀ d H', H' d = some (.xd [("most", .int 9999)]) → Same H H' → E (.ref CT) (some d) H'))
section
variable {P : Program} {w : World} {K : PySem.W.Frag} {mg : Str → Option Value} {base : Heap}
local macro_rules | `(tactic| walk_at "cl") => `(tactic| first | (refine le_only ?_; omega) | (refine lt_only ?_; omega) | assumption)
theorem ok_write_floor (T : Txt K mg) {CT : Addr} (TM : ExcCls K mg "TooMany" CT) (FM : ExcInit1 P w K mg base CT "most") (D : DefAt K mg "write_floor" s_write_floor ["floor"]) (C_box : Cal P w K mg base CX0 "box" 5 ["floor"] (spBox K)) (C_row_text : Cal P w K mg base CX0 "_row_text" 1 ["row"] (spRowT K)) : Cal P w K mg base (L2.CX P w) "write_floor" 6 ["floor"] (spWriteF K CT) := by
  refine D.calX sc_write_floor (fun vs H Q E h => ?_) (fun f cdv A outer s H vs Q E hr h => ?_)
  · obtain ⟨fv, F, rfl, _⟩ := h
    rfl
  · obtain ⟨fv, F, rfl, hf, hok, hl, q0, q⟩ := h
    refine ⟨_, (pss_cons (ps_set (i := 1) sc_write_floor.nd rfl (Or.inl rfl) (pe_own C_box hr (by first | decide | omega) (pa_cons (pv 0) pa_nil)))
      (pss_cons (ps_if (pt_cmpR op_isN (pv 1) pe_non (nomark _)) (pss_one (ps_ret (pe_tup (pa_cons pe_str (pa_cons (pe_tup (pa_cons pe_int (pa_cons pe_int pa_nil))) pa_nil))))) pss_nil)
      (pss_cons (ps_asg (pv 1) (pg_tup (by rfl) (pgs_cons (pg_name (i := 2) sc_write_floor.nd rfl (Or.inl rfl)) (pgs_cons (pg_name (i := 3) sc_write_floor.nd rfl (Or.inl rfl)) (pgs_cons (pg_name (i := 4) sc_write_floor.nd rfl (Or.inl rfl)) (pgs_cons (pg_name (i := 5) sc_write_floor.nd rfl (Or.inl rfl)) pgs_nil))))))
      (pss_cons (ps_if (PW.pt (pw_or (pt_cmpR op_ge (pe_op op_sub (pv 4) (pv 2)) (pe_gint (by rfl) T.longest_side) (nomark _)) (pw_or1 (pt_cmpR op_ge (pe_op op_sub (pv 5) (pv 3)) (pe_gint (by rfl) T.longest_side) (nomark _))))) (pss_one (ps_raise1 rfl (takes_of rfl rfl rfl rfl) TM FM hr (by decide) (by exact (pa_cons (pe_gint (by rfl) T.longest_side) pa_nil)))) pss_nil)
      (pss_cons (ps_setLc (i := 6) (own := [("_", 10)]) (g := gName 10) rfl sc_write_floor.nd rfl rfl (sw_true rfl rfl rfl (by decide +kernel)) (pi_range1 (by rfl) T.m_range (pa_cons (pe_op op_add (pe_op op_sub (pv 5) (pv 3)) pe_int) pa_nil)) (blkOk_by (by rfl)) (fun _ _ _ _ _ => (pg_name (i := 10) sc_write_floor.nd rfl (Or.inl rfl))) (fun _ _ _ _ _ => pts_nil) (fun _ _ _ _ _ => (pe_lst pa_nil)))
      (pss_cons (ps_for (passes_of rfl) rfl (k_pi_tup (K := K) (pv 0)) (pg_tup (by rfl) (pgs_cons (pg_name (i := 7) sc_write_floor.nd rfl (Or.inl rfl)) (pgs_cons (pg_name (i := 8) sc_write_floor.nd rfl (Or.inl rfl)) (pgs_cons (pg_name (i := 9) sc_write_floor.nd rfl (Or.inl rfl)) pgs_nil))))
      (pss_one (ps_expr (pe_bm PySem.F.plainAttrs_list PySem.F.slot_list_append PySem.F.type_list_append mt_append (pe_ix (k_ix_list (K := K)) (pv 6) (pe_op op_sub (pv 8) (pv 3)) (fun _ _ => rfl)) (pa_cons (pe_tup (pa_cons (pe_op op_sub (pv 7) (pv 2)) (pa_cons (pv 9) pa_nil))) pa_nil)))))
      (pss_one (ps_ret (pe_tup (pa_cons (pe_m1 PySem.F.slot_str_join PySem.F.type_str_join (k_mt_join (K := K)) pe_str (pe_lc (own := [("row", 11)]) (g := gName 11) rfl sc_write_floor.nd (k_pi_list (K := K) (pv 6)) (blkOk_by (by rfl)) (fun _ _ _ _ _ => (pg_name (i := 11) sc_write_floor.nd rfl (Or.inl rfl))) (fun _ _ _ _ _ => pts_nil) (fun _ _ _ _ _ => (pe_own C_row_text hr (by first | decide | omega) (pa_cons (pv 11) pa_nil))))) (pa_cons (pe_tup (pa_cons (pv 2) (pa_cons (pv 3) pa_nil))) pa_nil))))))))))), ?_⟩
    rw [show L2.start ["floor", "edges", "left", "top", "right", "bottom", "rows", "x", "y", "colour", "_", "row"] [fv] = [some fv, none, none, none, none, none, none, none, none, none, none, none] from rfl]
    walk_at "st"
    refine ⟨fun e H1 s1 => ?_, fun ne l t r b p H1 bo hp s1 => ?_⟩
    · walk_at "st"
      intro a1 n1
      walk_at "st"
      intro a2 n2
      exact q0 e _ _ (.tup (SqT.of upd_same) (.cons (.str _) (.cons (.tup (SqT.of (by rw [upd_ne (ne_of_none upd_same n2)]; exact upd_same)) (.cons (.int 0) (.cons (.int 0) .nil))) .nil))) (Same.trans s1 (Same.trans (Same.new n1) (Same.new n2)))
    · obtain ⟨qa, qb⟩ := q ne l t r b bo
      have bad : ¬ (r - l < 9999 ∧ b - t < 9999) → ∀ d H', H' d = some (.xd [("most", .int 9999)]) → Same H1 H' → E (.ref CT) (some d) H' := fun c d H' hd s2 => qb c d H' hd (Same.trans s1 s2)
      have good : r - l < 9999 ∧ b - t < 9999 → ∀ z v H', tl z = writeT F l t (b - t + 1).toNat → Tp K H' v (.tuple [.str z, .tuple [.int l, .int t]]) → Same H1 H' → Q v H' := fun c z v H' hz hv s2 => qa c z v H' hz hv (Same.trans s1 s2)
      obtain ⟨a, vs, rfl, hs, hvs⟩ := (Tp.mono (Same.tk s1) _ _ hf).tupI
      have lvs : vs.length = F.length := by rw [TpAll.length hvs, List.length_map]
      clear q0 q qa qb hf s1
      walk_at "st"
      refine ite2 (fun c => ?_) (fun c => ?_)
      · have c : 9999 ≤ r - l := of_decide_eq_true c
        walk_at "st"
        refine raise1 (fun d H6 nd s6 hd => ?_)
        exact bad (by omega) d H6 hd s6
      have c1 : r - l < 9999 := by
        have c : ¬ (9999 : Int) ≤ r - l := fun m => c (decide_eq_true m)
        omega
      walk_at "st"
      refine ite2 (fun c => ?_) (fun c => ?_)
      · have c : 9999 ≤ b - t := of_decide_eq_true c
        walk_at "st"
        refine raise1 (fun d H6 nd s6 hd => ?_)
        exact bad (by omega) d H6 hd s6
      have c2 : b - t < 9999 := by
        have c : ¬ (9999 : Int) ≤ b - t := fun m => c (decide_eq_true m)
        omega
      clear bad
      have good := good ⟨c1, c2⟩
      have tb : t ≤ b := by
        cases F with
        | nil => exact absurd rfl ne
        | cons s0 _ => exact Int.le_trans (bo.t2 s0.pt List.mem_cons_self) (bo.b2 s0.pt List.mem_cons_self)
      obtain ⟨k, hk⟩ : ∃ k : Nat, b - t + 1 = (k : Int) := ⟨(b - t + 1).toNat, by omega⟩
      have k4 : k ≤ 9999 := by omega
      rw [show (b - t + 1).toNat = k by omega] at good
      have hsq : ∀ s ∈ F, (l ≤ s.1 ∧ s.1 ≤ r) ∧ (t ≤ s.2.1 ∧ s.2.1 ≤ b) ∧ 1 ≤ s.2.2 ∧ s.2.2 ≤ 5 := fun s hs => by
        have z := hok.sq s hs
        have m : s.pt ∈ F.map Sq.pt := List.mem_map_of_mem hs
        exact ⟨⟨bo.l2 _ m, bo.r2 _ m⟩, ⟨bo.t2 _ m, bo.b2 _ m⟩, by omega, by omega⟩
      walk_at "st"
      intro R nR
      simp only [List.set_cons_zero, List.set_cons_succ]
      refine lc_range (fun i H' => Ok (Same H1 H' ∧ ∃ as : List Addr, H' R = some (.lst (as.map V.ref)) ∧ as.length = i ∧ as.Nodup ∧ R ∉ as ∧ ∀ x ∈ as, H1 x = none ∧ H' x = some (.lst []))) ?_ ?_ ?_
      · exact ⟨Same.new nR, [], upd_same, rfl, List.nodup_nil, List.not_mem_nil, fun x hx => nomatch hx⟩
      · rintro i H2 hi ⟨sm, as, hR, las, nd, nRa, has⟩
        walk_at "st"
        intro x nx
        have s2 : Same H2 (upd H2 x (.lst [])) := Same.new nx
        have hR2 := s2 _ _ hR
        have lt : (as.map V.ref).length < sizeLine := by
          rw [List.length_map]
          exact Nat.lt_of_lt_of_le (show _ < 20000 by omega) (by decide)
        have neR : x ≠ R := fun z => by
          rw [z, hR] at nx
          cases nx
        have nas : x ∉ as := fun z => by
          rw [(has x z).2] at nx
          cases nx
        walk_at "st"
        refine ⟨Same.fresh (Same.trans sm s2) nR, as ++ [x], by rw [upd_same, List.map_append]; rfl, by rw [List.length_append, las]; rfl, List.nodup_append.mpr ⟨nd, List.nodup_cons.mpr ⟨List.not_mem_nil, List.nodup_nil⟩, fun u hu v hv => by rw [List.mem_singleton.mp hv]; exact fun z => nas (z ▸ hu)⟩, fun z => (List.mem_append.mp z).elim nRa fun z => neR (List.mem_singleton.mp z).symm, fun y hy => ?_⟩
        rcases List.mem_append.mp hy with hy | hy
        · have neyR : y ≠ R := fun z => nRa (z ▸ hy)
          have neyx : y ≠ x := fun z => nas (z ▸ hy)
          exact ⟨(has y hy).1, by rw [upd_ne neyR, upd_ne neyx]; exact (has y hy).2⟩
        · rw [List.mem_singleton.mp hy]
          exact ⟨Same.back sm nx, by rw [upd_ne neR, upd_same]⟩
      · rintro H2 ⟨sm, as, hR, las, nd, nRa, has⟩
        have hs2 := TK.seqT (Same.tk sm) hs
        have lask : as.length = k := by omega
        walk_at "st"
        refine for_it (walk_tup (K := K) (a := a) (xs := vs)) (fun i σ H' => Ok (∃ y7 y8 y9 : Option V, σ = [some (.ref a), some (.ref p), some (.int l), some (.int t), some (.int r), some (.int b), some (.ref R), y7, y8, y9, none, none] ∧ Same H1 H' ∧ H' R = some (.lst (as.map V.ref)) ∧ ∀ (j : Nat) (x : Addr), as[j]? = some x → ∃ us : List V, H' x = some (.lst us) ∧ TpAll K H' us ((rowSq (F.take i) l t j).map rqD))) ⟨_, _, _, rfl, sm, hR, fun j x hx => ⟨[], (has x (List.mem_of_getElem? hx)).2, .nil⟩⟩ (fun i σ H' _ ⟨_, _, _, _, s3, _⟩ => TK.seqT (Same.tk s3) hs) ?_ ?_
        · rintro i x σ H3 H4 hi ⟨y7, y8, y9, rfl, s3, hR3, hus⟩ ⟨rfl, hx⟩
          have hi : i < F.length := by omega
          have ei : F[i]? = some F[i] := List.getElem?_eq_getElem hi
          have hmem := List.getElem_mem hi
          have tk1 := take_more ei
          obtain ⟨u, eu, hu⟩ := hvs.get (i := i) (d := sqD F[i]) (by rw [List.getElem?_map, ei]; rfl)
          rw [hx] at eu
          cases eu
          have hu2 := Tp.mono (Same.tk s3) _ _ hu
          generalize F[i] = sq at *
          obtain ⟨⟨x0, x1⟩, ⟨y0, y1⟩, c0, c5⟩ := hsq sq hmem
          obtain ⟨pa, rfl, hpa⟩ := hu2.int3
          obtain ⟨j0, hj0⟩ : ∃ j0 : Nat, sq.2.1 - t = (j0 : Int) := ⟨(sq.2.1 - t).toNat, by omega⟩
          have hjk : j0 < as.length := by omega
          obtain ⟨xj, ej⟩ : ∃ xj, as[j0]? = some xj := ⟨_, List.getElem?_eq_getElem hjk⟩
          have hat : atI (as.map V.ref) (sq.2.1 - t) = some (.ref xj) := by
            rw [hj0]
            exact atI_nat (by rw [List.getElem?_map, ej]; rfl)
          obtain ⟨us, hxj, hus0⟩ := hus j0 xj ej
          have lus : us.length ≤ 20 := by
            rw [TpAll.length hus0, List.length_map]
            exact Nat.le_trans (rowSq_len _ _ _ _) (by rw [List.length_take]; omega)
          have lt : us.length < sizeLine := Nat.lt_of_le_of_lt lus (by decide)
          have hSR3 := SqL.of (K := K) hR3
          walk_at "st"
          intro q1 nq1
          have s4 : Same H4 (upd H4 q1 (.tup [.int (sq.1 - l), .int sq.2.2])) := Same.new nq1
          have hxj4 := s4 _ _ hxj
          have hSxj4 := SqL.of (K := K) hxj4
          walk_at "st"
          have tl5 := TK.lst (o := .lst (us ++ [.ref q1])) hxj4
          have mxj := List.mem_of_getElem? ej
          have nxR : R ≠ xj := fun z => nRa (z ▸ mxj)
          refine ⟨_, _, _, rfl, Same.fresh (Same.trans s3 s4) (has xj mxj).1, by rw [upd_ne nxR]; exact s4 _ _ hR3, fun j x hx => ?_⟩
          rw [tk1, rowSq_snoc]
          by_cases c : j = j0
          · subst c
            rw [ej] at hx
            cases hx
            rw [if_pos (by omega)]
            refine ⟨_, upd_same, ?_⟩
            rw [List.map_append]
            refine TpAll.append (TpAll.mono (TK.trans (Same.tk s4) tl5) _ _ hus0) (.cons (Tp.mono tl5 _ _ ?_) .nil)
            have e1 : (((sq.1 - l).toNat : Nat) : Int) = sq.1 - l := by omega
            have e2 : colC (sgC sq.2.2) = sq.2.2 := by
              unfold colC sgC
              omega
            have z : Tp K (upd H4 q1 (.tup [.int (sq.1 - l), .int sq.2.2])) (.ref q1) (.tuple [.int (sq.1 - l), .int sq.2.2]) := .tup (SqT.of upd_same) (.cons (.int _) (.cons (.int _) .nil))
            show Tp K _ _ (.tuple [.int (((sq.1 - l).toNat : Nat) : Int), .int (colC (sgC sq.2.2))])
            rw [e1, e2]
            exact z
          · rw [if_neg (by omega)]
            obtain ⟨us2, h1, h2⟩ := hus j x hx
            have nx : x ≠ xj := fun z => c ((List.getElem?_inj (by have := (List.getElem?_eq_some_iff.mp hx).1; omega) nd).mp (by rw [hx, ej, z]))
            exact ⟨us2, by rw [upd_ne nx]; exact s4 _ _ h1, TpAll.mono (TK.trans (Same.tk s4) tl5) _ _ h2⟩
        · rintro σ H3 ⟨y7, y8, y9, rfl, s3, hR3, hus⟩
          rw [show vs.length = F.length by omega, List.take_length] at hus
          have hSR3 := SqL.of (K := K) hR3
          walk_at "st"
          intro D nD
          refine lc_it (walk_list (K := K) (a := R) (xs := as.map V.ref)) (fun i H' => Ok (Same H3 H' ∧ ∃ zs : List Str, H' D = some (.lst (zs.map V.str)) ∧ zs.length = i ∧ (∀ z ∈ zs, z.length ≤ 240) ∧ zs.map tl = (List.range i).map fun j => runT (rGo [] 0 (rowSq F l t j)))) ⟨Same.new nD, [], upd_same, rfl, fun z hz => absurd hz List.not_mem_nil, rfl⟩ (fun i H' _ ⟨s4, _⟩ => SqL.of (s4 _ _ hR3)) ?_ ?_
          · rintro i x H4 H5 hi ⟨s4, zs, hD, lzs, hz, ez⟩ ⟨rfl, hx⟩
            rw [List.length_map] at hi
            rw [List.getElem?_map, List.getElem?_eq_getElem hi] at hx
            obtain rfl := Option.some.inj hx
            obtain ⟨us, h1, h2⟩ := hus i as[i] (List.getElem?_eq_getElem hi)
            have h1 := s4 _ _ h1
            have h2 := TpAll.mono (Same.tk s4) _ _ h2
            generalize as[i] = ai at *
            have lt : (zs.map V.str).length < sizeLine := by
              rw [List.length_map]
              exact Nat.lt_of_lt_of_le (show _ < 20000 by omega) (by decide)
            have inR : ∀ p ∈ rowSq F l t i, p.1 < 10000 ∧ 97 ≤ p.2 ∧ p.2 ≤ 101 := fun p hp => by
              unfold rowSq at hp
              obtain ⟨s, hs, rfl⟩ := List.mem_map.mp hp
              obtain ⟨⟨x0, x1⟩, _, c0, c5⟩ := hsq s (List.mem_filter.mp hs).1
              unfold sgC
              refine ⟨?_, ?_, ?_⟩
              · show (s.1 - l).toNat < 10000
                omega
              · show 97 ≤ (96 + s.2.2).toNat
                omega
              · show (96 + s.2.2).toNat ≤ 101
                omega
            walk_at "st"
            refine ⟨Nat.le_trans (rowSq_len _ _ _ _) hl, inR, fun z H6 ez2 lz s6 => ?_⟩
            refine ⟨_, s6 _ _ hD, lt, ⟨Same.fresh (Same.trans s4 s6) nD, zs ++ [z], by rw [upd_same, List.map_append]; rfl, by rw [List.length_append, lzs]; rfl, fun y hy => ?_, ?_⟩⟩
            · rcases List.mem_append.mp hy with hy | hy
              · exact hz y hy
              · rw [List.mem_singleton.mp hy]
                exact lz
            · rw [List.map_append, ez, List.range_succ, List.map_append]
              show _ ++ [tl z] = _ ++ [_]
              rw [ez2]
          · rintro H4 ⟨s4, zs, hD, lzs, hz, ez⟩
            rw [List.length_map] at lzs
            rw [List.length_map] at ez
            have hsum := sum_le (fun p : Str => p.length) 240 zs hz
            have hj : tl (Txt.join (Str.ofString "/") zs) = writeT F l t k := by
              rw [join_eq, tl_join, show tl (Str.ofString "/") = [47] from rfl, joinL_T, ez, lask]
              rfl
            have hsz : (zs.map (·.length)).sum + zs.length * (Str.ofString "/").length ≤ 16777216 := by
              rw [show (Str.ofString "/").length = 1 from rfl]
              omega
            walk_at "st"
            intro u1 nu1
            walk_at "st"
            intro u2 nu2
            exact good _ _ _ hj (.tup (SqT.of upd_same) (.cons (.str _) (.cons (.tup (SqT.of (by rw [upd_ne (ne_of_none upd_same nu2)]; exact upd_same)) (.cons (.int _) (.cons (.int _) .nil))) .nil))) (Same.trans s3 (Same.trans s4 (Same.trans (Same.new nu1) (Same.new nu2))))
end

/-! ### the law's floors and walkers -/
def spSigned (K : PySem.W.Frag) : Sp := fun vs H Q _ => ∃ (r : Addr) (most : Int), vs = [.ref r, .int most] ∧ Row K H r ∧ 0 ≤ most ∧ most < 2 ^ 200 ∧ ∀ (v : Int) (H' : Hp), -most ≤ v → v ≤ most → Row K H' r → KeepB r H H' → Q (.int v) H'
def spLWalker (K : PySem.W.Frag) : Sp := fun vs H Q _ => ∃ (r : Addr) (tv : V) (T : List (List Ent)), vs = [.ref r, tv] ∧ Row K H r ∧ Tp K H tv (tabD T) ∧ 1 ≤ T.length ∧ T.length ≤ 10 ∧ ∀ (v : V) (H' : Hp) (w : Wk), InB 3 (wPt w) → (0 ≤ w.2.2.1 ∧ w.2.2.1 < 4) → (0 ≤ w.2.2.2 ∧ w.2.2.2 < T.length) → Tp K H' v (wkD w) → Row K H' r → KeepB r H H' → Q v H'
def spLAhead (K : PySem.W.Frag) : Sp := fun vs H Q _ => ∃ (b : Addr) (x y h : Int), vs = [.ref b, .int h] ∧ SqT K H b [.int x, .int y] ∧ 0 ≤ h ∧ h < 4 ∧ ∀ p H', H' p = some (.tup [.int (x + dxI h), .int (y + dyI h)]) → Same H H' → Q (.ref p) H'
theorem dx_at {h : Int} (h0 : 0 ≤ h) (h1 : h < 4) : atI ([.int 0, .int 1, .int 0, .int (-1)] : List V) h = some (.int (dxI h)) ∧ atI ([.int (-1), .int 0, .int 1, .int 0] : List V) h = some (.int (dyI h)) := by
  obtain ⟨n, rfl⟩ := Int.eq_ofNat_of_zero_le h0
  have c : n = 0 ∨ n = 1 ∨ n = 2 ∨ n = 3 := by omega
  rcases c with rfl | rfl | rfl | rfl
  · exact ⟨at0, at0⟩
  · exact ⟨at1, at1⟩
  · exact ⟨at2, at2⟩
  · exact ⟨at3, at3⟩
section
variable {P : Program} {w : World} {K : PySem.W.Frag} {mg : Str → Option Value} {base : Heap}
theorem ok_law_signed (T : Txt K mg) (D : DefAt K mg "_law_signed" s_law_signed ["row", "most"]) (C_law_taken : Cal P w K mg base CX0 "_law_taken" 1 ["row", "many"] (spTaken K)) : Cal P w K mg base CX0 "_law_signed" 2 ["row", "most"] (spSigned K) := by
  refine D.cal sc_law_signed (fun vs H Q E h => ?_) (fun f cdv A outer s H vs Q E hr h => ?_)
  · obtain ⟨r, most, rfl, _⟩ := h
    rfl
  · obtain ⟨r, most, rfl, R, h0, h1, q⟩ := h
    refine ⟨_, (pss_one (ps_ret (pe_op op_sub (pe_own C_law_taken hr (by first | decide | omega) (pa_cons (pv 0) (pa_cons (pe_op op_add (pe_op op_mul pe_int (pv 1)) pe_int) pa_nil))) (pv 1)))), ?_⟩
    have hmul : CMul 2 most := .inl ⟨by decide, by decide⟩
    have b1 : 2 * most + 1 < 2 ^ 250 := by omega
    walk_at "st"
    intro v H' v0 v1 R' k'
    walk_at "st"
    exact q _ H' (by omega) (by omega) R' k'
end

theorem TK.dT {H : Hp} {p : Addr} {kvs : List (List Key × V)} {o : HO} (h : H p = some (.dT kvs)) : TK H (upd H p o) := KeepE.tk (E := [p]) (KeepE.put List.mem_cons_self) fun b hb => by
  rw [List.mem_singleton.mp hb]
  exact Soft.dT h

/-! ### the law's own floors -/
theorem sorted_keys {m : CM} {bs : List (Addr × List Int)} (nd : (m.map (·.1)).Nodup) (pm : (bs.map (·.2)).Perm (m.map fun e => [e.1.1, e.1.2])) (pw : bs.Pairwise fun x y => ltZ y.2 x.2 = false) :
    ∃ ps : List Pt, bs.map (·.2) = ps.map (fun p => [p.1, p.2]) ∧ ps.Pairwise ltP ∧ (∀ p, p ∈ ps ↔ p ∈ m.map (·.1)) ∧ ps.length = m.length := by
  have pm2 : (bs.map (·.2)).Perm ((m.map (·.1)).map fun p : Pt => [p.1, p.2]) := by
    rw [List.map_map]
    exact pm
  obtain ⟨ps, pp, ep⟩ := perm_lift (fun p : Pt => [p.1, p.2]) pm2 _ rfl
  have pwp : ps.Pairwise fun a b => ltZ [b.1, b.2] [a.1, a.2] = false := by
    have z : (bs.map (·.2)).Pairwise fun x y => ltZ y x = false := List.pairwise_map.mpr pw
    rw [← ep] at z
    exact List.pairwise_map.mp z
  have ndp : ps.Pairwise fun a b => a ≠ b := pp.nodup_iff.mpr nd
  refine ⟨ps, ep.symm, List.Pairwise.imp₂ (fun a b h1 h2 => ?_) pwp ndp, fun p => pp.mem_iff, by rw [pp.length_eq, List.length_map]⟩
  have h3 : ¬ (b.1 < a.1 ∨ (¬ a.1 < b.1 ∧ b.2 < a.2)) := fun z => by
    have e : ltZ [b.1, b.2] [a.1, a.2] = true := by
      show (decide (b.1 < a.1) || (!decide (a.1 < b.1) && (decide (b.2 < a.2) || (!decide (a.2 < b.2) && ltZ [] [])))) = true
      rcases z with z | ⟨z1, z2⟩
      · rw [decide_eq_true z]
        rfl
      · rw [decide_eq_false z1, decide_eq_true z2, Bool.or_eq_true]
        exact .inr rfl
    rw [e] at h1
    cases h1
  have h4 : ¬ (a.1 = b.1 ∧ a.2 = b.2) := fun z => h2 (Prod.ext z.1 z.2)
  show a.1 < b.1 ∨ (a.1 = b.1 ∧ a.2 < b.2)
  omega
def sqAt (m : CM) (p : Pt) : Sq := (p.1, p.2, col m p)
def fltF (m : CM) (ps : List Pt) : List Sq := (ps.filter fun p => decide (0 < col m p)).map (sqAt m)
theorem flt_floor {m : CM} {ps : List Pt} (asc : ps.Pairwise ltP) (mem : ∀ p, p ∈ ps ↔ p ∈ m.map (·.1)) (nn : ∀ p, 0 ≤ col m p) : FloorOf (col m) (fltF m ps) := by
  refine ⟨List.pairwise_map.mpr (asc.sublist (List.filter_sublist)), fun s => ?_⟩
  unfold fltF
  rw [List.mem_map]
  constructor
  · rintro ⟨p, hp, rfl⟩
    have h1 := of_decide_eq_true (List.mem_filter.mp hp).2
    refine ⟨rfl, ?_⟩
    show col m p ≠ 0
    omega
  · rintro ⟨h1, h2⟩
    refine ⟨s.pt, List.mem_filter.mpr ⟨(mem _).mpr ?_, decide_eq_true ?_⟩, ?_⟩
    · refine Classical.byContradiction fun z => ?_
      have e := look_none.mpr z
      unfold col at h1
      rw [e] at h1
      exact h2 h1
    · have := nn s.pt
      rw [h1] at h2
      omega
    · obtain ⟨x, y, k⟩ := s
      show (x, y, col m (x, y)) = (x, y, k)
      rw [show k = col m (x, y) from h1]
theorem flt_snoc (m : CM) (l : List Pt) (p : Pt) : fltF m (l ++ [p]) = fltF m l ++ (if 0 < col m p then [sqAt m p] else []) := by
  unfold fltF
  rw [List.filter_append, List.map_append]
  by_cases h : 0 < col m p
  · rw [if_pos h, show ([p].filter fun p => decide (0 < col m p)) = [p] from List.filter_cons_of_pos (decide_eq_true h)]
    rfl
  · rw [if_neg h, show ([p].filter fun p => decide (0 < col m p)) = [] from List.filter_cons_of_neg (fun z => h (of_decide_eq_true z))]
    rfl
theorem catA_of {K : PySem.W.Frag} {H : Hp} {a b : Addr} {xs ys : List V} {Q : VK} (ha : SqT K H a xs) (hb : SqT K H b ys) (h1 : xs ≠ []) (h2 : ys ≠ []) (hz : xs.length + ys.length ≤ sizeLine) (q : ∀ p, H p = none → Q (.ref p) (upd H p (.tup (xs ++ ys)))) : rCatA K (.ref a) (.ref b) H Q :=
  ⟨a, b, xs, ys, rfl, rfl, ha, hb, hz, fun z => absurd z h1, fun _ z => absurd z h2, fun _ _ => q⟩
theorem put_mem2 : ∀ {m : CM} {p : Pt} {c : Int} {e : Pt × Int}, e ∈ putM m p c → e ∈ m ∨ e = (p, c)
  | [], p, c, e, h => .inr (List.mem_singleton.mp h)
  | a :: r, p, c, e, h => by
    unfold putM at h
    by_cases q : a.1 = p
    · rw [if_pos q] at h
      rcases List.mem_cons.mp h with z | z
      · exact .inr (by rw [z, q])
      · exact .inl (List.mem_cons_of_mem _ z)
    · rw [if_neg q] at h
      rcases List.mem_cons.mp h with z | z
      · exact .inl (z ▸ List.mem_cons_self)
      · exact (put_mem2 z).imp (List.mem_cons_of_mem _) id
def spLFloor (K : PySem.W.Frag) : Sp := fun vs H Q _ => ∃ (c : Addr) (m : CM), vs = [.ref c] ∧ H c = some (.dT (cellK m)) ∧ (m.map (·.1)).Nodup ∧ (∀ p, 0 ≤ col m p) ∧ m.length ≤ 900 ∧ ∀ v H' F, FloorOf (col m) F → Tp K H' v (floorD F) → Same H H' → Q v H'
def spSomeFloor (K : PySem.W.Frag) : Sp := fun vs H Q _ => ∃ (r : Addr) (c : Nat) (mo : Int), vs = [.ref r, .int c, .int mo] ∧ Row K H r ∧ 2 ≤ c ∧ c ≤ 6 ∧ 0 ≤ mo ∧ mo ≤ 9 ∧ ∀ v H' F, FlOk c 3 F → F.length ≤ mo.toNat → Tp K H' v (floorD F) → Row K H' r → KeepB r H H' → Q v H'
theorem cell_keys (m : CM) : (cellK m).map (·.1) = (m.map fun e => [e.1.1, e.1.2]).map fun k : List Int => k.map Sum.inl := by
  unfold cellK
  rw [List.map_map, List.map_map]
  rfl
theorem look_some {m : CM} {p : Pt} (h : p ∈ m.map (·.1)) : look m p = some (col m p) := by
  unfold col
  cases e : look m p with
  | none => exact absurd h (look_none.mp e)
  | some x => rfl

section
variable {P : Program} {w : World} {K : PySem.W.Frag} {mg : Str → Option Value} {base : Heap}
theorem ok_law_some_floor (T : Txt K mg) (D : DefAt K mg "_law_some_floor" s_law_some_floor ["row", "colours", "most"]) (C_law_taken : Cal P w K mg base CX0 "_law_taken" 1 ["row", "many"] (spTaken K)) (C_law_signed : Cal P w K mg base CX0 "_law_signed" 2 ["row", "most"] (spSigned K)) : Cal P w K mg base CX0 "_law_some_floor" 3 ["row", "colours", "most"] (spSomeFloor K) := by
  refine D.cal sc_law_some_floor (fun vs H Q E h => ?_) (fun f cdv A outer s H vs Q E hr h => ?_)
  · obtain ⟨r, c, mo, rfl, _⟩ := h
    rfl
  · obtain ⟨r, c, mo, rfl, R, c2, c3, mo0, mo9, q⟩ := h
    have om0 : 0 < mo + 1 := by omega
    have om1 : mo + 1 < 2 ^ 250 := by omega
    refine ⟨_, (pss_cons (ps_set (i := 3) sc_law_some_floor.nd rfl (Or.inr rfl) pe_dnewT)
      (pss_cons (ps_for PassesOwn.never rfl (pi_range1 (by rfl) T.m_range (pa_cons (pe_own C_law_taken hr (by first | decide | omega) (pa_cons (pv 0) (pa_cons (pe_op op_add (pv 2) pe_int) pa_nil))) pa_nil)) (pg_name (i := 4) sc_law_some_floor.nd rfl (Or.inl rfl))
      (pss_one (ps_dput (hu_of hr) (pv 3) (pe_tup (pa_cons (pe_own C_law_signed hr (by first | decide | omega) (pa_cons (pv 0) (pa_cons pe_int pa_nil))) (pa_cons (pe_own C_law_signed hr (by first | decide | omega) (pa_cons (pv 0) (pa_cons pe_int pa_nil))) pa_nil))) (pe_op op_add pe_int (pe_own C_law_taken hr (by first | decide | omega) (pa_cons (pv 0) (pa_cons (pe_op op_sub (pv 1) pe_int) pa_nil)))) (by rfl))))
      (pss_one (ps_ret (pe_callTy (k_tuple_l (K := K)) (by rfl) T.m_tuple (by decide +kernel) (pa_cons (pe_lc (own := [("place", 5)]) (g := gName 5) rfl sc_law_some_floor.nd (k_pi_list (K := K) (pe_sKT rfl (by rfl) T.m_sorted (by decide +kernel) (pv 3))) (blkOk_by (by rfl)) (fun _ _ _ _ _ => (pg_name (i := 5) sc_law_some_floor.nd rfl (Or.inl rfl))) (fun _ _ _ _ _ => pts_nil) (fun _ _ _ _ _ => (pe_op (k_catA (K := K)) (pv 5) (pe_tup (pa_cons (pe_dget (hu_of hr) (pv 3) (pv 5) (fun _ _ => rfl)) pa_nil))))) pa_nil)))))), ?_⟩
    walk_at "st"
    intro D nD
    have neD := R.ne nD
    have R1 := R.new (o := .dT []) nD
    walk_at "st"
    intro n H1 n0 n7 R2 k2
    walk_at "st"
    have hD1 : H1 D = some (.dT (cellK [])) := k2 _ _ neD upd_same
    have k01 : KeepB r H H1 := (KeepB.new nD).trans k2
    have cc1 : 0 < (c : Int) - 1 := by omega
    have cc2 : (c : Int) - 1 < 2 ^ 250 := by omega
    refine for_range (lo := 0) (n := n.toNat) (fun i σ H' => Ok (∃ (y4 y5 : Option V) (m : CM), σ = [some (.ref r), some (.int c), some (.int mo), some (.ref D), y4, y5] ∧ H' D = some (.dT (cellK m)) ∧ (m.map (·.1)).Nodup ∧ m.length ≤ i ∧
      (∀ e ∈ m, InB 3 e.1 ∧ 1 ≤ e.2 ∧ e.2 < c) ∧ Row K H' r ∧ KeepB r H H')) ?_ ?_ ?_
    · exact ⟨_, _, [], rfl, hD1, List.nodup_nil, Nat.le_refl _, fun e he => (nomatch he), R2, k01⟩
    · rintro i σ H' hi ⟨y4, y5, m, rfl, hD, nd, lm, ok, R', kp⟩
      walk_at "st"
      intro v Hv v0 v1 Rv kv
      walk_at "st"
      intro x Hx x0 x1 Rx kx
      walk_at "st"
      intro y Hy y0 y1 Ry ky
      walk_at "st"
      intro p np
      have k3 : KeepB r H' Hy := (kv.trans kx).trans ky
      have hDy : Hy D = some (.dT (cellK m)) := k3 _ _ neD hD
      have hD4 : (upd Hy p (.tup [.int x, .int y])) D = some (.dT (cellK m)) := by
        rw [upd_ne (ne_of_none hDy np)]
        exact hDy
      have hsz : (cellK m).length < sizeLine := by
        rw [cell_len]
        exact small1000 (by omega)
      have hw : DPut (upd Hy p (.tup [.int x, .int y])) D (.ref p) (.int (1 + v)) (upd (upd Hy p (.tup [.int x, .int y])) D (.dT (putK (cellK m) (ptK (x, y)) (.int (1 + v))))) := DPut.t hD4 upd_same hsz
      walk_at "st"
      have R4 := Ry.new (o := .tup [.int x, .int y]) np
      refine ⟨_, _, putM m (x, y) (1 + v), rfl, ?_, nd_put _ _ nd, ?_, fun e he => ?_, ?_, ?_⟩
      · rw [upd_same, cell_put _ _ nd]
      · have := len_put m (x, y) (1 + v)
        omega
      · rcases put_mem2 he with z | z
        · exact ok e z
        · rw [z]
          exact ⟨⟨⟨x0, x1⟩, y0, y1⟩, by omega, by show 1 + v < c; omega⟩
      · exact R4.keep (TK.dT hD4) (upd_ne neD.symm)
      · exact ((kp.trans k3).trans (KeepB.new np)).fresh nD
    · rintro σ H' ⟨y4, y5, m, rfl, hD, nd, lm, ok, R', kp⟩
      have lm6 : (m.length : Int) ≤ mo := by omega
      have lm9 : m.length ≤ 9 := by omega
      refine ⟨_, rfl, D, cellK m, m.map (fun e => [e.1.1, e.1.2]), rfl, hD, cell_keys m, fun k hk => ?_, fun p bs np pm pw tb => ?_⟩
      · obtain ⟨e, _, rfl⟩ := List.mem_map.mp hk
        intro z
        cases z
      · obtain ⟨ps, ep, asc, mem, lp⟩ := sorted_keys nd pm pw
        have s1 : Same H' (upd H' p (.lst (bs.map fun b => .ref b.1))) := Same.new np
        have hp1 : (upd H' p (.lst (bs.map fun b => .ref b.1))) p = some (.lst (bs.map fun b => .ref b.1)) := upd_same
        generalize hH1 : upd H' p (.lst (bs.map fun b => .ref b.1)) = H1 at s1 hp1
        have lb : bs.length = ps.length := by
          have z := congrArg List.length ep
          rw [List.length_map, List.length_map] at z
          exact z
        walk_at "st"
        intro M nM
        refine lc_it (walk_list (K := K) (a := p) (xs := bs.map fun b => .ref b.1)) (fun j H2 => Ok (Same H1 H2 ∧ ∃ us, H2 M = some (.lst us) ∧ us.length = j ∧ TpAll K H2 us (((ps.take j).map (sqAt m)).map sqD))) ⟨Same.new nM, [], upd_same, rfl, .nil⟩ (fun j H2 _ ⟨s2, _⟩ => SqL.of (s2 _ _ hp1)) ?_ ?_
        · rintro j x H2 H3 hj ⟨s2, us, hM, lus, hus⟩ ⟨rfl, hx⟩
          rw [List.length_map] at hj
          have hjp : j < ps.length := by omega
          have hxb : x = .ref bs[j].1 := by
            rw [List.getElem?_map, List.getElem?_eq_getElem hj] at hx
            exact (Option.some.inj hx).symm
          have e2 : bs[j].2 = [ps[j].1, ps[j].2] := by
            have z : (bs.map (·.2))[j]? = (ps.map fun p : Pt => [p.1, p.2])[j]? := by rw [ep]
            rw [List.getElem?_map, List.getElem?_map, List.getElem?_eq_getElem hj, List.getElem?_eq_getElem hjp] at z
            exact Option.some.inj z
          have hb : H' bs[j].1 = some (.tup [.int ps[j].1, .int ps[j].2]) := by
            rw [tb _ (List.getElem_mem hj), e2]
            rfl
          have tk := take_more (List.getElem?_eq_getElem hjp)
          have pin : ps[j] ∈ m.map (·.1) := (mem _).mp (List.getElem_mem hjp)
          have lk := look_some pin
          generalize bs[j].1 = b at *
          generalize ps[j] = pt at *
          subst hxb
          have s02 := Same.trans s1 s2
          have hb3 := s02 _ _ hb
          have hc3 := s02 _ _ hD
          have hg : DGet H3 D (.ref b) (some (.int (col m pt))) := .inr ⟨cellK m, ptK pt, b, .inl hc3, rfl, hb3, by rw [cell_val, lk]; rfl⟩
          walk_at "st"
          intro t nt
          have s3 : Same H3 (upd H3 t (.tup [.int (col m pt)])) := Same.new nt
          refine catA_of (SqT.of (s3 _ _ hb3)) (SqT.of upd_same) (by intro z; cases z) (by intro z; cases z) (by show 3 ≤ sizeLine; decide) fun u nu => ?_
          have s4 : Same H3 (upd (upd H3 t (.tup [.int (col m pt)])) u (.tup ([.int pt.1, .int pt.2] ++ [.int (col m pt)]))) := Same.trans s3 (Same.new nu)
          have hM4 := s4 _ _ hM
          have hsz : us.length < sizeLine := small1000 (by omega)
          refine ⟨us, hM4, hsz, Same.fresh (Same.trans s2 s4) nM, us ++ [.ref u], upd_same, by rw [List.length_append, lus]; rfl, ?_⟩
          rw [tk, List.map_append, List.map_append]
          have t5 : TK (upd (upd H3 t (.tup [.int (col m pt)])) u (.tup ([.int pt.1, .int pt.2] ++ [.int (col m pt)]))) (upd (upd (upd H3 t (.tup [.int (col m pt)])) u (.tup ([.int pt.1, .int pt.2] ++ [.int (col m pt)]))) M (.lst (us ++ [.ref u]))) := TK.lst hM4
          exact TpAll.append (TpAll.mono ((Same.tk s4).trans t5) _ _ hus) (.cons (Tp.mono t5 _ _ (Tp.of_ints (ks := [pt.1, pt.2, col m pt]) (SqT.of upd_same))) .nil)
        · rintro H2 ⟨s2, us, hM, lus, hus⟩
          rw [List.length_map, lb, List.take_length] at hus
          walk_at "st"
          intro l nl
          have sZ : Same H' (upd H2 l (.tup us)) := Same.trans (Same.trans s1 s2) (Same.new nl)
          refine q _ _ (ps.map (sqAt m)) ⟨List.pairwise_map.mpr asc, fun s hs => ?_⟩ (by rw [List.length_map]; omega) (.tup (SqT.of upd_same) (TpAll.mono (TK.new nl) _ _ hus)) (R'.same sZ) (kp.trans (Same.keepB sZ))
          obtain ⟨pt, hpt, rfl⟩ := List.mem_map.mp hs
          exact ok (pt, col m pt) (look_mem (look_some ((mem _).mp hpt)))
end

/-! ### equal, and of the same structure -/
def okD : Nat → PyData → Prop
  | 0, _ => False
  | n + 1, .list ds => ds.length ≤ 5000 ∧ ∀ d ∈ ds, okD n d
  | n + 1, .tuple ds => ds.length ≤ 5000 ∧ ∀ d ∈ ds, okD n d
  | _ + 1, .dict _ => False
  | _ + 1, _ => True
def spAlike (K : PySem.W.Frag) (n : Nat) : Sp := fun vs H Q _ => ∃ (u v : V) (d : PyData), vs = [u, v] ∧ Dp K H u d ∧ Dp K H v d ∧ okD n d ∧ ∀ H', Same H H' → Q (.bl true) H'
section
variable {K : PySem.W.Frag} {H : Hp}
theorem DpAll.length : ∀ {vs : List V} {ds : List PyData}, DpAll K H vs ds → vs.length = ds.length
  | [], [], _ => rfl
  | _ :: _, [], h => by cases h
  | [], _ :: _, h => by cases h
  | v :: vs, d :: ds, h => by
    cases h with
    | cons h1 h2 =>
      show vs.length + 1 = ds.length + 1
      rw [DpAll.length h2]
theorem DpAll.get : ∀ {vs : List V} {ds : List PyData} {i : Nat} {d : PyData}, DpAll K H vs ds → ds[i]? = some d → ∃ v, vs[i]? = some v ∧ Dp K H v d
  | [], [], _, _, _, e => by simp at e
  | _ :: _, [], _, _, h, _ => by cases h
  | [], _ :: _, _, _, h, _ => by cases h
  | v :: vs, d :: ds, 0, _, h, e => by
    cases h with
    | cons h1 h2 =>
      have e : d = _ := Option.some.inj e
      subst e
      exact ⟨v, rfl, h1⟩
  | v :: vs, d :: ds, i + 1, _, h, e => by
    cases h with
    | cons h1 h2 => exact DpAll.get (i := i) h2 e
theorem SqA.same {H' : Hp} {a : Addr} {xs : List V} (s : Same H H') (h : SqL K H a xs ∨ SqT K H a xs) : SqL K H' a xs ∨ SqT K H' a xs := by
  rcases h with h | h
  · exact .inl (s.seq h)
  · exact .inr (TK.seqT (Same.tk s) h)
end
section
variable {P : Program} {w : World} {K : PySem.W.Frag} {mg : Str → Option Value} {base : Heap}
theorem ok_law_alike (T : Txt K mg) (D : DefAt K mg "_law_alike" s_law_alike ["found", "due"]) : ∀ n : Nat, Cal P w K mg base CX0 "_law_alike" (n + 1) ["found", "due"] (spAlike K n)
  | 0 => by
    refine D.cal sc_law_alike (fun vs H Q E h => ?_) (fun f cdv A outer s H vs Q E hr h => ?_)
    · obtain ⟨u, v, d, _, _, _, z, _⟩ := h
      exact z.elim
    · obtain ⟨u, v, d, _, _, _, z, _⟩ := h
      exact z.elim
  | n + 1 => by
    have C_law_alike := ok_law_alike T D n
    refine D.cal sc_law_alike (fun vs H Q E h => ?_) (fun f cdv A outer s H vs Q E hr h => ?_)
    · obtain ⟨u, v, d, rfl, _⟩ := h
      rfl
    · obtain ⟨u, v, d, rfl, hu, hv, hd, q⟩ := h
      refine ⟨_, (pss_cons (ps_if (pt_val (pe_callB (k_isT2 (K := K)) (by rfl) T.m_isinstance (by decide +kernel) (pa_cons (pv 1) (pa_cons (pe_tup (pa_cons (pe_ty "tuple" (by rfl) T.m_tuple (by decide +kernel)) (pa_cons (pe_ty "list" (by rfl) T.m_list (by decide +kernel)) pa_nil))) pa_nil)))) (pss_cons (ps_if (PW.pt (pw_or (pt_not (pt_val (pe_callB (k_isT2 (K := K)) (by rfl) T.m_isinstance (by decide +kernel) (pa_cons (pv 0) (pa_cons (pe_tup (pa_cons (pe_ty "tuple" (by rfl) T.m_tuple (by decide +kernel)) (pa_cons (pe_ty "list" (by rfl) T.m_list (by decide +kernel)) pa_nil))) pa_nil))))) (pw_or1 (pt_cmpR op_ne (pe_callB (k_isN (K := K)) (by rfl) T.m_isinstance (by decide +kernel) (pa_cons (pv 0) (pa_cons (pe_ty "list" (by rfl) T.m_list (by decide +kernel)) pa_nil))) (pe_callB (k_isN (K := K)) (by rfl) T.m_isinstance (by decide +kernel) (pa_cons (pv 1) (pa_cons (pe_ty "list" (by rfl) T.m_list (by decide +kernel)) pa_nil))) (nomark _))))) (pss_one (ps_ret pe_bl)) pss_nil)
        (pss_cons (ps_if (pt_cmpR op_ne (pe_callB (k_len_seq (K := K)) (by rfl) T.m_len (by decide +kernel) (pa_cons (pv 0) pa_nil)) (pe_callB (k_len_seq (K := K)) (by rfl) T.m_len (by decide +kernel) (pa_cons (pv 1) pa_nil)) (nomark _)) (pss_one (ps_ret pe_bl)) pss_nil)
        (pss_one (ps_ret (pe_cmpR (k_eqD (K := K) hr.units) (pe_lc (own := [("k", 2)]) (g := gName 2) rfl sc_law_alike.nd (pi_range1 (by rfl) T.m_range (pa_cons (pe_callB (k_len_seq (K := K)) (by rfl) T.m_len (by decide +kernel) (pa_cons (pv 1) pa_nil)) pa_nil)) (blkOk_by (by rfl)) (fun _ _ _ _ _ => (pg_name (i := 2) sc_law_alike.nd rfl (Or.inl rfl))) (fun _ _ _ _ _ => pts_one (pt_not (pt_val (pe_own C_law_alike hr (by first | decide | omega) (pa_cons (pe_ix (k_ix_seq (K := K)) (pv 0) (pv 2) (fun _ _ => rfl)) (pa_cons (pe_ix (k_ix_seq (K := K)) (pv 1) (pv 2) (fun _ _ => rfl)) pa_nil)))))) (fun _ _ _ _ _ => (pv 2))) (pe_lst pa_nil) (nomark _)))))) pss_nil)
        (pss_cons (ps_if (PW.pt (pw_or (pt_cmpR op_isN (pv 1) pe_non (nomark _)) (pw_or1 (pt_val (pe_callB (k_isN (K := K)) (by rfl) T.m_isinstance (by decide +kernel) (pa_cons (pv 1) (pa_cons (pe_ty "str" (by rfl) T.m_str (by decide +kernel)) pa_nil))))))) (pss_one (ps_ret (pe_and (pe_cmpR op_eq (pv 0) (pv 1) (nomark _)) (pe_one (pe_cmpR op_eq (pe_callB (k_isN (K := K)) (by rfl) T.m_isinstance (by decide +kernel) (pa_cons (pv 0) (pa_cons (pe_ty "str" (by rfl) T.m_str (by decide +kernel)) pa_nil))) (pe_callB (k_isN (K := K)) (by rfl) T.m_isinstance (by decide +kernel) (pa_cons (pv 1) (pa_cons (pe_ty "str" (by rfl) T.m_str (by decide +kernel)) pa_nil))) (nomark _)))))) pss_nil)
        (pss_one (ps_ret (pe_and (pe_callB (k_isN (K := K)) (by rfl) T.m_isinstance (by decide +kernel) (pa_cons (pv 0) (pa_cons (pe_ty "int" (by rfl) T.m_int (by decide +kernel)) pa_nil))) (pe_and (pe_cmpR op_eq (pe_callB (k_isN (K := K)) (by rfl) T.m_isinstance (by decide +kernel) (pa_cons (pv 0) (pa_cons (pe_ty "bool" (by rfl) T.m_bool (by decide +kernel)) pa_nil))) (pe_callB (k_isN (K := K)) (by rfl) T.m_isinstance (by decide +kernel) (pa_cons (pv 1) (pa_cons (pe_ty "bool" (by rfl) T.m_bool (by decide +kernel)) pa_nil))) (nomark _)) (pe_one (pe_cmpR op_eq (pv 0) (pv 1) (nomark _))))))))), ?_⟩
      cases d with
      | dict _ => exact hd.elim
      | none =>
        cases hu
        cases hv
        walk_at "st"
        intro p np
        walk_at "st"
        exact q _ (Same.new np)
      | bool b =>
        cases hu
        cases hv
        walk_at "st"
        intro p np
        cases b
        · walk_at "st"
          exact q _ (Same.new np)
        · walk_at "st"
          exact q _ (Same.new np)
      | int i =>
        cases hu
        cases hv
        walk_at "st"
        intro p np
        walk_at "st"
        have q' := q _ (Same.new (o := .tup [.ty "tuple", .ty "list"]) np)
        rw [show true = decide (V.int i = V.int i) from (decide_eq_true rfl).symm] at q'
        exact q'
      | str x =>
        cases hu
        cases hv
        walk_at "st"
        intro p np
        walk_at "st"
        refine ite2 (fun _ => ?_) (fun e => absurd (decide_eq_true rfl) e)
        walk_at "st"
        exact q _ (Same.new np)
      | list ds =>
        cases hu with
        | @lst a us _ hsu hau =>
          cases hv with
          | @lst b ws _ hsv hav =>
            have hlu := DpAll.length hau
            have hlv := DpAll.length hav
            walk_at "st"
            intro p np
            have s1 : Same H (upd H p (.tup [.ty "tuple", .ty "list"])) := Same.new np
            have hsu1 := SqA.same s1 (Or.inl hsu)
            have hsv1 := SqA.same s1 (Or.inl hsv)
            have tu1 := tyx_lst (s1.seq hsu)
            have tv1 := tyx_lst (s1.seq hsv)
            walk_at "st"
            intro p2 np2
            have s2 : Same H (upd (upd H p (.tup [.ty "tuple", .ty "list"])) p2 (.tup [.ty "tuple", .ty "list"])) := Same.trans s1 (Same.new np2)
            have hsu2 := SqA.same s2 (Or.inl hsu)
            have hsv2 := SqA.same s2 (Or.inl hsv)
            have tu2 := tyx_lst (s2.seq hsu)
            have tv2 := tyx_lst (s2.seq hsv)
            obtain ⟨H2, hH2⟩ : ∃ H2, H2 = (upd (upd H p (.tup [.ty "tuple", .ty "list"])) p2 (.tup [.ty "tuple", .ty "list"])) := ⟨_, rfl⟩
            walk_at "st"
            refine ite2 (fun e => absurd (by rw [hlu, hlv]) (ne_tr e)) (fun _ => ?_)
            have hln := hd.1
            walk_at "st"
            intro L nL
            refine lc_range (lo := 0) (n := (ws.length : Int).toNat) (fun i H' => Ok (Same H H' ∧ H' L = some (.lst []))) ⟨Same.trans s2 (Same.new nL), upd_same⟩ ?_ ?_
            · rintro i H' hi ⟨s3, hL⟩
              have hi' : i < ds.length := by omega
              obtain ⟨x, ex, hx⟩ := DpAll.get hau (List.getElem?_eq_getElem hi')
              obtain ⟨y, ey, hy⟩ := DpAll.get hav (List.getElem?_eq_getElem hi')
              have hsu3 := SqA.same s3 (Or.inl hsu)
              have hsv3 := SqA.same s3 (Or.inl hsv)
              have ax := atI_nat ex
              have ay := atI_nat ey
              rw [← Int.zero_add ((i : Nat) : Int)] at ax ay
              have hx3 := Dp.mono s3 _ _ hx
              have hy3 := Dp.mono s3 _ _ hy
              have hdi := hd.2 _ (List.getElem_mem hi')
              walk_at "st"
              intro H4 s4
              walk_at "st"
              exact ⟨Same.trans s3 s4, s4 _ _ hL⟩
            · rintro H' ⟨s3, hL⟩
              walk_at "st"
              intro M nM
              have z : PyData.eqv (.list []) (.list []) = true := rfl
              have q' := q _ (Same.trans s3 (Same.new (o := .lst []) nM))
              have hL2 : (upd H' M (.lst [])) L = some (.lst []) := Same.new nM _ _ hL
              exact ⟨.list [], .list [], .lst (SqL.of hL2) .nil, .lst (SqL.of upd_same) .nil, rfl, rfl, by rw [z]; exact q'⟩
      | tuple ds =>
        cases hu with
        | @tup a us _ hsu hau =>
          cases hv with
          | @tup b ws _ hsv hav =>
            have hlu := DpAll.length hau
            have hlv := DpAll.length hav
            walk_at "st"
            intro p np
            have s1 : Same H (upd H p (.tup [.ty "tuple", .ty "list"])) := Same.new np
            have hsu1 := SqA.same s1 (Or.inr hsu)
            have hsv1 := SqA.same s1 (Or.inr hsv)
            have tu1 := tyx_tup (TK.seqT (Same.tk s1) hsu)
            have tv1 := tyx_tup (TK.seqT (Same.tk s1) hsv)
            walk_at "st"
            intro p2 np2
            have s2 : Same H (upd (upd H p (.tup [.ty "tuple", .ty "list"])) p2 (.tup [.ty "tuple", .ty "list"])) := Same.trans s1 (Same.new np2)
            have hsu2 := SqA.same s2 (Or.inr hsu)
            have hsv2 := SqA.same s2 (Or.inr hsv)
            have tu2 := tyx_tup (TK.seqT (Same.tk s2) hsu)
            have tv2 := tyx_tup (TK.seqT (Same.tk s2) hsv)
            obtain ⟨H2, hH2⟩ : ∃ H2, H2 = (upd (upd H p (.tup [.ty "tuple", .ty "list"])) p2 (.tup [.ty "tuple", .ty "list"])) := ⟨_, rfl⟩
            walk_at "st"
            refine ite2 (fun e => absurd (by rw [hlu, hlv]) (ne_tr e)) (fun _ => ?_)
            have hln := hd.1
            walk_at "st"
            intro L nL
            refine lc_range (lo := 0) (n := (ws.length : Int).toNat) (fun i H' => Ok (Same H H' ∧ H' L = some (.lst []))) ⟨Same.trans s2 (Same.new nL), upd_same⟩ ?_ ?_
            · rintro i H' hi ⟨s3, hL⟩
              have hi' : i < ds.length := by omega
              obtain ⟨x, ex, hx⟩ := DpAll.get hau (List.getElem?_eq_getElem hi')
              obtain ⟨y, ey, hy⟩ := DpAll.get hav (List.getElem?_eq_getElem hi')
              have hsu3 := SqA.same s3 (Or.inr hsu)
              have hsv3 := SqA.same s3 (Or.inr hsv)
              have ax := atI_nat ex
              have ay := atI_nat ey
              rw [← Int.zero_add ((i : Nat) : Int)] at ax ay
              have hx3 := Dp.mono s3 _ _ hx
              have hy3 := Dp.mono s3 _ _ hy
              have hdi := hd.2 _ (List.getElem_mem hi')
              walk_at "st"
              intro H4 s4
              walk_at "st"
              exact ⟨Same.trans s3 s4, s4 _ _ hL⟩
            · rintro H' ⟨s3, hL⟩
              walk_at "st"
              intro M nM
              have z : PyData.eqv (.list []) (.list []) = true := rfl
              have q' := q _ (Same.trans s3 (Same.new (o := .lst []) nM))
              have hL2 : (upd H' M (.lst [])) L = some (.lst []) := Same.new nM _ _ hL
              exact ⟨.list [], .list [], .lst (SqL.of hL2) .nil, .lst (SqL.of upd_same) .nil, rfl, rfl, by rw [z]; exact q'⟩
end

/-! ### what k01's law wants -/
def slashS (n : Nat) : Str := ⟨(List.replicate n 47).toArray⟩
theorem fold_one (c : Nat) : ∀ (n : Nat) (acc : Array Nat), ((List.replicate n #[c]).foldl (· ++ ·) acc).toList = acc.toList ++ List.replicate n c
  | 0, acc => by
    rw [List.replicate_zero, List.replicate_zero, List.append_nil]
    rfl
  | n + 1, acc => by
    rw [List.replicate_succ, List.foldl_cons, fold_one c n, Array.toList_append, List.append_assoc]
    rfl
theorem op_slashes {X : Cx} {n : Nat} (h1 : 1 < n) (h2 : n ≤ 100000) : OpR X (binaryOp .Mult) (fun x y H Q => x = .str (Str.ofString "/") ∧ y = .int (n : Nat) ∧ Q (.str (slashS n)) H) := by
  intro pins s σ H x y v u Q I rx ry h
  obtain ⟨rfl, rfl, q⟩ := h
  obtain ⟨t, rfl⟩ := rx
  obtain ⟨t', rfl⟩ := ry
  have b1 : ¬ ((n : Int) < 1) := by omega
  have b2 : (((n : Int) == 1) || (Str.ofString "/").length == 0) = false := by
    rw [Bool.or_eq_false_iff]
    refine ⟨?_, rfl⟩
    rw [beq_eq_false_iff_ne]
    omega
  have e1 : (Str.ofString "/").length = 1 := rfl
  refine PySem.P.mul_str ?_ (fun _ _ => ?_) (fun _ _ => ?_) ?_
  · rw [Bool.or_eq_false_iff, decide_eq_false_iff_not, decide_eq_false_iff_not]
    constructor <;> omega
  · rw [e1]
    have : (1 : Int) ≤ (2 ^ 63 - 1) / (n : Int) := Int.le_ediv_of_mul_le (by omega) (by omega)
    show ¬ ((1 : Nat) : Int) > _
    omega
  · rw [e1, Nat.one_mul, Int.toNat_natCast]
    unfold Builtin.Str.tooLong
    exact decide_eq_false (Nat.not_lt.mpr (Nat.le_trans h2 (by decide)))
  · rw [if_neg b1, b2, if_neg (by decide)]
    have e : (⟨(List.replicate (n : Int).toNat (Str.ofString "/").cps).foldl (· ++ ·) #[]⟩ : Str) = slashS n := ext_tl (by
      rw [Int.toNat_natCast]
      exact fold_one 47 n #[])
    rw [e]
    refine ⟨?_, .str (slashS n), H, I.tok _, ⟨_, rfl⟩, q⟩
    rw [len_tl]
    show (List.replicate n 47).length ≤ _
    rw [List.length_replicate]
    exact Nat.le_trans h2 (by decide)
/-- t[:0] -/
def rSl0 (K : PySem.W.Frag) : V → Option Int → Option Int → Hp → VK → Prop := fun x lo hi H Q => ∃ a us, x = .ref a ∧ lo = none ∧ hi = some 0 ∧ SqT K H a us ∧ ∀ p H', Same H H' → SqT K H' p [] → Q (.ref p) H'
theorem rSl0_A {K : PySem.W.Frag} {x : V} {lo hi : Option Int} {H : Hp} {Q : VK} (h : rSl0 K x lo hi H Q) : rSlA K x lo hi H Q := by
  obtain ⟨a, us, rfl, rfl, rfl, hs, q⟩ := h
  have e : HT.sIx us.length us.length (some ((0 : Nat) : Int)) = 0 := by rw [HT.sIx_nat]; omega
  refine ⟨a, us, rfl, hs, fun hw => ?_, fun _ p np => ?_⟩
  · have e2 : HT.sIx us.length us.length (some ((0 : Nat) : Int)) = us.length := hw.2
    have e3 : us = [] := List.eq_nil_of_length_eq_zero (by omega)
    subst e3
    exact q a H (Same.refl H) hs
  · have e4 : cutV us none (some 0) = [] := by
      show (us.drop 0).take (HT.sIx us.length us.length (some ((0 : Nat) : Int)) - 0) = []
      rw [e]
      rfl
    rw [e4]
    exact q p _ (Same.new np) (SqT.of upd_same)
theorem k_sl_zero {K : PySem.W.Frag} {X : Cx} (hK : X.K = K := by rfl) : SlR X (rSl0 K) := by
  subst hK
  intro pins s σ H x v vl vu lo hi sl Q I rx hs pl pu h
  exact sl_tupA pins s σ H x v vl vu lo hi sl Q I rx hs pl pu (rSl0_A h)
theorem k_sortedN {K : PySem.W.Frag} {X : Cx} (hK : X.K = K := by rfl) : CallR X (.builtin "sorted") (rSorted K) := hK ▸ cr_sorted
def rDictPI (K : PySem.W.Frag) : List V → Hp → VK → Prop := fun xs H Q => ∃ (a : Addr) (ps : List Addr) (kvs : List (Key × V)), xs = [.ref a] ∧ SqL K H a (ps.map V.ref) ∧ Paired (fun p kv => SqT K H p [kV kv.1, kv.2]) ps kvs ∧
    ∀ p, H p = none → Q (.ref p) (upd H p (.dK (mergeK [] kvs)))
theorem k_dictPI {K : PySem.W.Frag} {X : Cx} (calm : X.calm = true) (hK : X.K = K := by rfl) : CallR X (.type "dict") (rDictPI K) := hK ▸ call_dictP calm
theorem call_int_b {X : Cx} : CallR X (.type "int") (fun xs H Q => ∃ k, xs = [.bl k] ∧ Q (.int (if k then 1 else 0)) H) := CallR.imp call_int1 fun _ _ _ h => .inr h
theorem seq_ifs {t : TT} {a b u : TS} {D : L2.Ends} {σ : L2.St} {H : Hp} (x : Bool) (ha : x = true → ∀ H', Same H H' → a { D with nx := u D } σ H') (hb : x = false → ∀ H', Same H H' → b { D with nx := u D } σ H') (hx : ∀ Q : Bool → Hp → Prop, (∀ H', Same H H' → Q x H') → t σ H Q) : tSeq (tIfS t a b) u D σ H := hx _ fun H' sm => by
  cases x with
  | true => exact ha rfl H' sm
  | false => exact hb rfl H' sm
theorem kit_self {K : PySem.W.Frag} {v : Value} : PySem.W.kitOne K v v = some true := if_pos (beq_self_eq_true v)
theorem for_new {K : PySem.W.Frag} {tl : TE} {xs : List V} {g : TG} {tb : TS} {D : L2.Ends} {σ : L2.St} {H : Hp} (Pv : Addr → Nat → L2.St → Hp → Prop) (hm : ∀ Q : VK, (∀ L H1, H1 L = some (.lst xs) → Same H H1 → Q (.ref L) H1) → tl σ H Q) (h0 : ∀ L H1, H1 L = some (.lst xs) → Same H H1 → Pv L 0 σ H1) (hl : ∀ L i σ H, Pv L i σ H → H L = some (.lst xs))
    (hs : ∀ L i x σ H, xs[i]? = some x → Pv L i σ H → g x σ H fun σ2 H2 => tb { D with nx := Pv L (i + 1), ct := Pv L (i + 1), bk := D.nx } σ2 H2) (hd : ∀ L σ H, Pv L xs.length σ H → D.nx σ H) : tFor (iList K tl) g tb D σ H :=
  hm _ fun L H1 hL sm => ⟨L, rfl, ⟨xs, SqL.of hL⟩, for_list (Pv L) (h0 L H1 hL sm) (fun i σ H _ p => SqL.of (hl L i σ H p)) (hs L) (hd L)⟩
theorem for_newG {K : PySem.W.Frag} {tl : TE} {G : List V → Hp → Prop} {g : TG} {tb : TS} {D : L2.Ends} {σ : L2.St} {H : Hp} (Pv : Addr → List V → Nat → L2.St → Hp → Prop) (hm : ∀ Q : VK, (∀ L xs H1, H1 L = some (.lst xs) → G xs H1 → Same H H1 → Q (.ref L) H1) → tl σ H Q) (h0 : ∀ L xs H1, H1 L = some (.lst xs) → G xs H1 → Same H H1 → Pv L xs 0 σ H1) (hl : ∀ L xs i σ H, Pv L xs i σ H → H L = some (.lst xs))
    (hs : ∀ L xs i x σ H, xs[i]? = some x → Pv L xs i σ H → g x σ H fun σ2 H2 => tb { D with nx := Pv L xs (i + 1), ct := Pv L xs (i + 1), bk := D.nx } σ2 H2) (hd : ∀ L xs σ H, Pv L xs xs.length σ H → D.nx σ H) : tFor (iList K tl) g tb D σ H :=
  hm _ fun L xs H1 hL hg sm => ⟨L, rfl, ⟨xs, SqL.of hL⟩, for_list (Pv L xs) (h0 L xs H1 hL hg sm) (fun i σ H _ p => SqL.of (hl L xs i σ H p)) (hs L xs) (hd L xs)⟩
theorem ne_len {H : Hp} {a b : Addr} {xs ys : List V} (h1 : H a = some (.lst xs)) (h2 : H b = some (.lst ys)) (n : xs.length ≠ ys.length) : a ≠ b := fun e => by
  rw [e, h2] at h1
  have h : (HO.lst ys) = .lst xs := Option.some.inj h1
  injection h with h
  exact n (congrArg List.length h.symm)
def spLaw (K : PySem.W.Frag) : Sp := fun vs H Q _ => ∃ (a : Addr) (ns : List Int), vs = [.ref a] ∧ Scr K H a ns ∧ ∀ H', Q (.bl true) H'
def rotN : Nat → Sq → Sq
  | 0, s => s
  | q + 1, s => rotS (rotN q s)
theorem rotL_map : ∀ (q : Nat) (F : List Sq), rotL q F = F.map (rotN q)
  | 0, F => (List.map_id F).symm
  | q + 1, F => by
    show (rotL q F).map rotS = _
    rw [rotL_map q F, List.map_map]
    rfl
/-- the four ways a square is turned -/
theorem rot_pick {H : Hp} {p0 p1 p2 p3 : Addr} {s : Sq} {q : Nat} (hq : q < 4) (h0 : H p0 = some (.tup [.int s.1, .int s.2.1])) (h1 : H p1 = some (.tup [.int (0 - s.2.1), .int s.1])) (h2 : H p2 = some (.tup [.int (0 - s.1), .int (0 - s.2.1)])) (h3 : H p3 = some (.tup [.int s.2.1, .int (0 - s.1)])) :
    ∃ pq, atI [V.ref p0, .ref p1, .ref p2, .ref p3] (q : Int) = some (.ref pq) ∧ H pq = some (.tup [.int (rotN q s).1, .int (rotN q s).2.1]) ∧ (rotN q s).2.2 = s.2.2 := by
  have c : q = 0 ∨ q = 1 ∨ q = 2 ∨ q = 3 := by omega
  rcases c with rfl | rfl | rfl | rfl
  · exact ⟨p0, at0, h0, rfl⟩
  · refine ⟨p1, at1, ?_, rfl⟩
    rw [h1, Int.zero_sub]
    rfl
  · refine ⟨p2, at2, ?_, rfl⟩
    rw [h2, Int.zero_sub, Int.zero_sub]
    rfl
  · refine ⟨p3, at3, ?_, rfl⟩
    rw [h3, Int.zero_sub]
    show some (HO.tup [.int s.2.1, .int (-s.1)]) = some (HO.tup [.int (-(-s.2.1)), .int (-s.1)])
    rw [Int.neg_neg]
theorem sorted_ends {cs : List Int} (ne : cs ≠ []) (pw : cs.Pairwise fun a b => a ≤ b) : ∃ l r, atI (cs.map V.int) 0 = some (.int l) ∧ atI (cs.map V.int) (-1) = some (.int r) ∧ l ∈ cs ∧ r ∈ cs ∧ ∀ x ∈ cs, l ≤ x ∧ x ≤ r := by
  cases cs with
  | nil => exact absurd rfl ne
  | cons c0 cr =>
    rcases List.eq_nil_or_concat (c0 :: cr) with h | ⟨ds, d, h⟩
    · cases h
    · rw [List.concat_eq_append] at h
      refine ⟨c0, d, at0, ?_, List.mem_cons_self, by rw [h]; simp, fun x hx => ⟨?_, ?_⟩⟩
      · rw [h, List.map_append]
        exact atI_last _ _
      · rcases List.mem_cons.mp hx with rfl | hx
        · exact Int.le_refl _
        · exact (List.pairwise_cons.mp pw).1 x hx
      · rw [h] at hx pw
        rcases List.mem_append.mp hx with hx | hx
        · exact (List.pairwise_append.mp pw).2.2 x hx d List.mem_cons_self
        · rw [List.mem_singleton.mp hx]
          exact Int.le_refl _
theorem ends_box {F : List Sq} (ne : F ≠ []) {cs rs : List Int} (pc : cs.Perm (F.map fun s : Sq => s.1)) (pr : rs.Perm (F.map fun s : Sq => s.2.1)) (wc : cs.Pairwise fun a b => a ≤ b) (wr : rs.Pairwise fun a b => a ≤ b) :
    ∃ l t r b, BoxOf (F.map Sq.pt) l t r b ∧ atI (cs.map V.int) 0 = some (.int l) ∧ atI (rs.map V.int) 0 = some (.int t) ∧ atI (cs.map V.int) (-1) = some (.int r) ∧ atI (rs.map V.int) (-1) = some (.int b) := by
  have n1 : cs ≠ [] := fun e => by
    rw [e] at pc
    exact ne (List.map_eq_nil_iff.mp pc.symm.eq_nil)
  have n2 : rs ≠ [] := fun e => by
    rw [e] at pr
    exact ne (List.map_eq_nil_iff.mp pr.symm.eq_nil)
  obtain ⟨l, r, a1, a2, a3, a4, a5⟩ := sorted_ends n1 wc
  obtain ⟨t, b, b1, b2, b3, b4, b5⟩ := sorted_ends n2 wr
  have ix : ∀ {x : Int}, x ∈ cs → ∃ p ∈ F.map Sq.pt, p.1 = x := fun hx => by
    obtain ⟨s, hs, rfl⟩ := List.mem_map.mp (pc.mem_iff.mp hx)
    exact ⟨s.pt, List.mem_map_of_mem hs, rfl⟩
  have iy : ∀ {x : Int}, x ∈ rs → ∃ p ∈ F.map Sq.pt, p.2 = x := fun hx => by
    obtain ⟨s, hs, rfl⟩ := List.mem_map.mp (pr.mem_iff.mp hx)
    exact ⟨s.pt, List.mem_map_of_mem hs, rfl⟩
  have jx : ∀ p ∈ F.map Sq.pt, p.1 ∈ cs := fun p hp => by
    obtain ⟨s, hs, rfl⟩ := List.mem_map.mp hp
    exact pc.mem_iff.mpr (List.mem_map_of_mem (f := fun s : Sq => s.1) hs)
  have jy : ∀ p ∈ F.map Sq.pt, p.2 ∈ rs := fun p hp => by
    obtain ⟨s, hs, rfl⟩ := List.mem_map.mp hp
    exact pr.mem_iff.mpr (List.mem_map_of_mem (f := fun s : Sq => s.2.1) hs)
  exact ⟨l, t, r, b, ⟨ix a3, fun p hp => (a5 _ (jx p hp)).1, iy b3, fun p hp => (b5 _ (jy p hp)).1, ix a4, fun p hp => (a5 _ (jx p hp)).2, iy b4, fun p hp => (b5 _ (jy p hp)).2⟩, a1, b1, a2, b2⟩
theorem flat_ints (n : Nat) (ks : List Int) : flatT (n + 2) (.tuple (ks.map PyData.int)) := fun d hd => by
  obtain ⟨k, _, rfl⟩ := List.mem_map.mp hd
  trivial
theorem flat_floor (n : Nat) (F : List Sq) : flatT (n + 3) (floorD F) := fun d hd => by
  obtain ⟨s, _, rfl⟩ := List.mem_map.mp hd
  exact flat_ints n [s.1, s.2.1, s.2.2]
theorem shp_floor (F : List Sq) : SeqAt.shaped (floorD F) = true := ((flat_floor 0 F).shp (by decide)).1
theorem eqv_nilF (F : List Sq) : PyData.eqv (floorD F) (.tuple []) = decide (F = []) := by
  cases F with
  | nil => simp [floorD, PyData.eqv, PyData.eqvAll]
  | cons s F => simp [floorD, PyData.eqv, PyData.eqvAll]

/-! ### a row of signs, as the law finds it -/
theorem dw_drop {p : Nat → Bool} : ∀ l : List Nat, l.dropWhile p = l.drop (l.takeWhile p).length
  | [] => rfl
  | x :: l => by
    rw [List.dropWhile_cons, List.takeWhile_cons]
    cases p x with
    | true => exact dw_drop l
    | false => rfl
theorem tl_rstrip (x : Str) (c : Nat) : tl (Txt.rstripChars x ⟨#[c]⟩) = ((tl x).reverse.dropWhile fun d => decide (d = c)).reverse := by
  show tl (Txt.stripBy _ false true x) = _
  rw [PySem.W.stripBy_eq]
  show (x.cps.extract 0 (x.length - (List.takeWhile (#[c] : Array Nat).contains (List.drop 0 x.cps.toList).reverse).length)).toList = _
  rw [show ((#[c] : Array Nat).contains) = fun d => decide (d = c) from funext (contains1 c), Array.toList_extract, List.extract_eq_take_drop, List.drop_zero, dw_drop, List.reverse_drop, List.reverse_reverse, List.length_reverse]
  show (tl x).take _ = _
  rw [show x.length = (tl x).length from len_tl x]
  rfl
/-- a colour at a place of a row, 0 where there is none -/
def lookI : List Sq → Int → Option Int
  | [], _ => none
  | s :: G, x => if x = s.1 then some s.2.2 else lookI G x
def kvS (s : Sq) : Key × V := (.inl s.1, .int s.2.2)
theorem lookI_none : ∀ {G : List Sq} {x : Int}, (∀ s ∈ G, x ≠ s.1) → lookI G x = none
  | [], _, _ => rfl
  | s :: G, x, h => (if_neg (h s List.mem_cons_self)).trans (lookI_none fun u hu => h u (List.mem_cons_of_mem _ hu))
theorem merge_val : ∀ (G : List Sq) (acc : List (Key × V)) (x : Int), (G.Pairwise fun a b => a.1 ≠ b.1) → valV (mergeK acc (G.map kvS)) (.inl x) = match lookI G x with
    | some c => some (.int c)
    | none => valV acc (.inl x)
  | [], acc, x, _ => rfl
  | s :: G, acc, x, h => by
    obtain ⟨h1, h2⟩ := List.pairwise_cons.mp h
    show valV (mergeK (putK acc (.inl s.1) (.int s.2.2)) (G.map kvS)) (.inl x) = match (if x = s.1 then some s.2.2 else lookI G x) with
      | some c => some (.int c)
      | none => valV acc (.inl x)
    rw [merge_val G _ x h2, valV_put]
    by_cases c : x = s.1
    · subst c
      rw [if_pos rfl, lookI_none fun u hu => h1 u hu, if_pos rfl]
    · rw [if_neg c, if_neg (fun z => c (Sum.inl.inj z))]
theorem row_get {G : List Sq} (h : G.Pairwise fun a b => a.1 ≠ b.1) (x : Int) : valV (mergeK [] (G.map kvS)) (.inl x) = (lookI G x).map V.int := by
  rw [merge_val G [] x h]
  cases lookI G x <;> rfl
/-- the sign of a colour that may be 0 -/
def sg0 (o : Option Int) : Nat := match o with
  | none => 46
  | some c => sgC c
theorem look_sg (l : Int) : ∀ (G : List Sq) (k : Nat), (∀ s ∈ G, l ≤ s.1) → sg0 (lookI G (l + (k : Int))) = lookR (G.map fun s => ((s.1 - l).toNat, sgC s.2.2)) k
  | [], _, _ => rfl
  | s :: G, k, h => by
    have h0 := h s List.mem_cons_self
    show sg0 (if l + (k : Int) = s.1 then some s.2.2 else lookI G (l + (k : Int))) = if k = (s.1 - l).toNat then sgC s.2.2 else lookR (G.map fun s => ((s.1 - l).toNat, sgC s.2.2)) k
    by_cases c : l + (k : Int) = s.1
    · rw [if_pos c, if_pos (by omega)]
      rfl
    · rw [if_neg c, if_neg (by omega)]
      exact look_sg l G k fun u hu => h u (List.mem_cons_of_mem _ hu)
theorem sg_at {o : Option Int} (h : ∀ c, o = some c → 1 ≤ c ∧ c ≤ 5) : atI (Str.ofString ".abcde").cps.toList (o.getD 0) = some (sg0 o) := by
  cases o with
  | none => decide +kernel
  | some c =>
    obtain ⟨h1, h2⟩ := h c rfl
    have e : c = 1 ∨ c = 2 ∨ c = 3 ∨ c = 4 ∨ c = 5 := by omega
    rcases e with rfl | rfl | rfl | rfl | rfl <;> decide +kernel
theorem lookI_mem : ∀ {G : List Sq} {x c : Int}, lookI G x = some c → ∃ s ∈ G, s.2.2 = c
  | [], _, _, h => by cases h
  | s :: G, x, c, h => by
    by_cases e : x = s.1
    · rw [show lookI (s :: G) x = some s.2.2 from if_pos e] at h
      exact ⟨s, List.mem_cons_self, Option.some.inj h⟩
    · rw [show lookI (s :: G) x = lookI G x from if_neg e] at h
      obtain ⟨u, hu, e⟩ := lookI_mem h
      exact ⟨u, List.mem_cons_of_mem _ hu, e⟩
theorem BoxOf.uniq {ps : List Pt} {l t r b l' t' r' b' : Int} (h : BoxOf ps l t r b) (g : BoxOf ps l' t' r' b') : l = l' ∧ t = t' ∧ r = r' ∧ b = b' := by
  obtain ⟨p1, m1, e1⟩ := h.l1
  obtain ⟨p2, m2, e2⟩ := h.t1
  obtain ⟨p3, m3, e3⟩ := h.r1
  obtain ⟨p4, m4, e4⟩ := h.b1
  obtain ⟨q1, n1, f1⟩ := g.l1
  obtain ⟨q2, n2, f2⟩ := g.t1
  obtain ⟨q3, n3, f3⟩ := g.r1
  obtain ⟨q4, n4, f4⟩ := g.b1
  have := h.l2 q1 n1
  have := g.l2 p1 m1
  have := h.t2 q2 n2
  have := g.t2 p2 m2
  have := h.r2 q3 n3
  have := g.r2 p3 m3
  have := h.b2 q4 n4
  have := g.b2 p4 m4
  exact ⟨by omega, by omega, by omega, by omega⟩
/-- the squares of a floor in its box -/
theorem box_rows {F : List Sq} {l t r b : Int} (fl : FlOk 6 3 F) (ne : F ≠ []) (bo : BoxOf (F.map Sq.pt) l t r b) : FRows F l t (r + 1 - l).toNat (b - t + 1).toNat ∧ (-3 ≤ l ∧ l ≤ r ∧ r ≤ 3) ∧ (-3 ≤ t ∧ t ≤ b ∧ b ≤ 3) := by
  have im : ∀ {s}, s ∈ F → s.pt ∈ F.map Sq.pt := fun hs => List.mem_map_of_mem hs
  have hl : (-3 ≤ l ∧ l ≤ r ∧ r ≤ 3) ∧ (-3 ≤ t ∧ t ≤ b ∧ b ≤ 3) := by
    obtain ⟨p1, m1, e1⟩ := bo.l1
    obtain ⟨p2, m2, e2⟩ := bo.t1
    obtain ⟨p3, m3, e3⟩ := bo.r1
    obtain ⟨p4, m4, e4⟩ := bo.b1
    have bd : ∀ p ∈ F.map Sq.pt, (-3 ≤ p.1 ∧ p.1 ≤ 3) ∧ (-3 ≤ p.2 ∧ p.2 ≤ 3) := fun p hp => by
      obtain ⟨s, hs, rfl⟩ := List.mem_map.mp hp
      exact (fl.sq s hs).1
    have := bd p1 m1
    have := bd p2 m2
    have := bd p3 m3
    have := bd p4 m4
    have := bo.r2 p1 m1
    have := bo.b2 p2 m2
    exact ⟨⟨by omega, by omega, by omega⟩, by omega, by omega, by omega⟩
  refine ⟨⟨fl.asc, fun s hs => bo.l2 _ (im hs), fun s hs => ?_, fun s hs => bo.t2 _ (im hs), fun s hs => ?_, fun s hs => (fl.sq s hs).2.1, fun s hs => ?_⟩, hl⟩
  · have := bo.r2 _ (im hs)
    have h : s.1 ≤ r := this
    omega
  · have := bo.b2 _ (im hs)
    have h : s.2.1 ≤ b := this
    omega
  · have := (fl.sq s hs).2.2
    omega
theorem row_pw {F : List Sq} (asc : F.Pairwise fun a b => a.1 < b.1 ∨ (a.1 = b.1 ∧ a.2.1 < b.2.1)) (y : Int) : (F.filter fun s => decide (s.2.1 = y)).Pairwise fun a b => a.1 ≠ b.1 := by
  have h := (asc.sublist (List.filter_sublist (p := fun s : Sq => decide (s.2.1 = y))))
  refine List.Pairwise.imp_of_mem (fun ha hb h e => ?_) h
  have ea := of_decide_eq_true (List.mem_filter.mp ha).2
  have eb := of_decide_eq_true (List.mem_filter.mp hb).2
  omega
/-- the signs of a row, without the dots at its end -/
theorem row_signs {F : List Sq} {l t : Int} {w k : Nat} (h : FRows F l t w k) (j : Nat) : rs46 ((List.range w).map fun i : Nat => sg0 (lookI (F.filter fun s => decide (s.2.1 = t + (j : Int))) (l + (i : Int)))) = wout 0 (rowSq F l t j) := by
  have e : (fun i : Nat => sg0 (lookI (F.filter fun s => decide (s.2.1 = t + (j : Int))) (l + (i : Int)))) = lookR (rowSq F l t j) := funext fun i => look_sg l _ i fun s hs => h.x0 s (List.mem_filter.mp hs).1
  rw [e, List.range_eq_range']
  have z := wout_row (rowSq F l t j) 0 w (h.ok j) fun p hp => by
    unfold rowSq at hp
    obtain ⟨s, hs, rfl⟩ := List.mem_map.mp hp
    have h1 := h.x1 s (List.mem_filter.mp hs).1
    have h0 := h.x0 s (List.mem_filter.mp hs).1
    show (s.1 - l).toNat < w
    omega
  exact z
theorem wout_len : ∀ (sqs : List (Nat × Nat)) (e w : Nat), RowOk e sqs → e ≤ w → (∀ p ∈ sqs, p.1 < w) → (wout e sqs).length ≤ w - e
  | [], _, _, _, _, _ => Nat.zero_le _
  | (x, s) :: r, e, w, ok, he, hw => by
    have hx : x < w := hw _ List.mem_cons_self
    have h := wout_len r (x + 1) w ok.2.2 hx fun p hp => hw p (List.mem_cons_of_mem _ hp)
    have h1 := ok.1
    show (List.replicate (x - e) 46 ++ s :: wout (x + 1) r).length ≤ w - e
    rw [List.length_append, List.length_replicate, List.length_cons]
    omega
theorem joinL_one : ∀ l : List Nat, joinL [] (l.map fun c => [c]) = l := fun l => by
  rw [joinL_nil]
  induction l with
  | nil => rfl
  | cons c l ih =>
    show [c] ++ (l.map fun c => [c]).flatten = _
    rw [ih]
    rfl
/-! ### lists of pairs, written out -/
def Prs (H : Hp) (xs : List V) (ps : List (V × V)) : Prop := xs.length = ps.length ∧ ∀ (i : Nat) (p : V × V), ps[i]? = some p → ∃ a, xs[i]? = some (.ref a) ∧ H a = some (.tup [p.1, p.2])
theorem Prs.same {H H' : Hp} {xs : List V} {ps : List (V × V)} (s : Same H H') (h : Prs H xs ps) : Prs H' xs ps := ⟨h.1, fun i p hp => by
  obtain ⟨a, h1, h2⟩ := h.2 i p hp
  exact ⟨a, h1, s _ _ h2⟩⟩
theorem Prs.append {H : Hp} {xs ys : List V} {ps qs : List (V × V)} (h : Prs H xs ps) (g : Prs H ys qs) : Prs H (xs ++ ys) (ps ++ qs) := by
  refine ⟨by rw [List.length_append, List.length_append, h.1, g.1], fun i p hp => ?_⟩
  by_cases c : i < ps.length
  · rw [List.getElem?_append_left c] at hp
    obtain ⟨a, h1, h2⟩ := h.2 i p hp
    exact ⟨a, by rw [List.getElem?_append_left (by rw [h.1]; exact c)]; exact h1, h2⟩
  · rw [List.getElem?_append_right (by omega)] at hp
    obtain ⟨a, h1, h2⟩ := g.2 (i - ps.length) p hp
    exact ⟨a, by rw [List.getElem?_append_right (by rw [h.1]; omega), h.1]; exact h1, h2⟩
def pairsT (ps : List (TE × V × V)) : L2.St → Hp → (List V → Hp → Prop) → Prop := ps.foldr (fun p t => tCons (tTup (tCons p.1 (tCons (tC p.2.2) tNil))) t) tNil
theorem args_pairs : ∀ (ps : List (TE × V × V)) (σ : L2.St) (H : Hp) (Q : List V → Hp → Prop), (∀ p ∈ ps, ∀ (H : Hp) (Q : VK), Q p.2.1 H → p.1 σ H Q) → (∀ xs H', Same H H' → Prs H' xs (ps.map (·.2)) → Q xs H') → pairsT ps σ H Q
  | [], σ, H, Q, _, q => q [] H (Same.refl _) ⟨rfl, fun i p hp => by simp at hp⟩
  | p :: ps, σ, H, Q, ev, q => by
    show tCons (tTup (tCons p.1 (tCons (tC p.2.2) tNil))) (pairsT ps) σ H Q
    refine ev p List.mem_cons_self H _ ⟨by show 2 ≤ sizeLine; decide, fun a na => ?_⟩
    have s1 := Same.new (o := HO.tup [p.2.1, p.2.2]) na
    refine args_pairs ps σ _ _ (fun r hr => ev r (List.mem_cons_of_mem _ hr)) fun xs H' s2 hx => q _ _ (Same.trans s1 s2) ⟨by rw [List.length_cons, List.map_cons, List.length_cons, hx.1], fun i r hr => ?_⟩
    cases i with
    | zero =>
      rw [List.map_cons] at hr
      obtain rfl := Option.some.inj hr
      exact ⟨a, rfl, s2 _ _ upd_same⟩
    | succ i =>
      rw [List.map_cons, List.getElem?_cons_succ] at hr
      exact hx.2 i r hr
theorem lst_pairs {ps : List (TE × V × V)} {σ : L2.St} {H : Hp} {Q : VK} (l : ps.length ≤ 100) (ev : ∀ p ∈ ps, ∀ (H : Hp) (Q : VK), Q p.2.1 H → p.1 σ H Q) (q : ∀ L xs H', Same H H' → H' L = some (.lst xs) → Prs H' xs (ps.map (·.2)) → Q (.ref L) H') : tLst (pairsT ps) σ H Q := by
  refine args_pairs ps σ H _ ev fun xs H' s1 hx => ⟨?_, fun L nL => ?_⟩
  · rw [hx.1, List.length_map]
    exact Nat.le_trans l (by decide)
  · exact q L xs _ (Same.trans s1 (Same.new nL)) upd_same (hx.same (Same.new nL))
theorem seq_lst {ps : List (TE × V × V)} {i : Nat} {u : TS} {D : L2.Ends} {σ : L2.St} {H : Hp} (l : ps.length ≤ 100) (ev : ∀ p ∈ ps, ∀ (H : Hp) (Q : VK), Q p.2.1 H → p.1 σ H Q) (q : ∀ L xs H', Same H H' → H' L = some (.lst xs) → Prs H' xs (ps.map (·.2)) → u D (σ.set i (some (.ref L))) H') : tSeq (tAsg (tLst (pairsT ps)) (gName i)) u D σ H := lst_pairs (Q := fun x H1 => gName i x σ H1 (u D)) l ev q
theorem asg_cat {ps : List (TE × V × V)} {i j : Nat} {D : L2.Ends} {σ : L2.St} {H : Hp} {x : V} (hx : σ[j]? = some (some x)) (l : ps.length ≤ 100) (ev : ∀ p ∈ ps, ∀ (H : Hp) (Q : VK), Q p.2.1 H → p.1 σ H Q) (q : ∀ L xs H', Same H H' → H' L = some (.lst xs) → Prs H' xs (ps.map (·.2)) → rCat x (.ref L) H' fun v H1 => D.nx (σ.set i (some v)) H1) : tAsg (tOp rCat (tVar j) (tLst (pairsT ps))) (gName i) D σ H := ⟨x, hx, lst_pairs (Q := fun y H1 => rCat x y H1 fun v H1 => gName i v σ H1 D.nx) l ev q⟩
def plV : Option Nat → V
  | none => .non
  | some n => .int (n : Nat)
def lawTx : List (Str × Option Nat) := [("f", some 0), ("2", some 1), ("2/", some 1), ("0a", some 1), ("00001a", some 5), ("0002a", none), ("a.//", none), ("9999.a", some 5), ("9999a", some 0), ("a a", some 1), ("2aA", some 2), (slashS 10000, some 9999), (slashS 9999, none)]
theorem lawTx_ok : ∀ p ∈ lawTx, placeF (tl p.1) = p.2 ∧ p.1.length ≤ 100000 := by
  intro p hp
  have all := List.all_eq_true.mp law_texts
  rcases List.mem_append.mp (show p ∈ ([("f", some 0), ("2", some 1), ("2/", some 1), ("0a", some 1), ("00001a", some 5), ("0002a", none), ("a.//", none), ("9999.a", some 5), ("9999a", some 0), ("a a", some 1), ("2aA", some 2)] : List (Str × Option Nat)) ++ [(slashS 10000, some 9999), (slashS 9999, none)] from hp) with h | h
  · refine ⟨of_decide_eq_true (all p h), ?_⟩
    have ls : ∀ p ∈ ([("f", some 0), ("2", some 1), ("2/", some 1), ("0a", some 1), ("00001a", some 5), ("0002a", none), ("a.//", none), ("9999.a", some 5), ("9999a", some 0), ("a a", some 1), ("2aA", some 2)] : List (Str × Option Nat)), p.1.length ≤ 100000 := by decide +kernel
    exact ls p h
  · have sl : ∀ n : Nat, tl (slashS n) = List.replicate n 47 := fun n => rfl
    have pf : ∀ n : Nat, placeF (tl (slashS n)) = if 10000 ≤ n then some 9999 else none := fun n => by
      unfold placeF
      rw [sl, readF_slash]
      by_cases c : 10000 ≤ n
      · rw [if_pos c, if_pos c]
      · rw [if_neg c, if_neg c]
    rcases List.mem_cons.mp h with rfl | h
    · refine ⟨by rw [pf]; rfl, ?_⟩
      rw [len_tl, sl, List.length_replicate]
      decide
    · rw [List.mem_singleton.mp h]
      refine ⟨by rw [pf]; rfl, ?_⟩
      rw [len_tl, sl, List.length_replicate]
      decide
/-! ### two squares far apart -/
def F1 (c : Int) : List Sq := [(0, 0, 1), (c, 0, 1)]
theorem F1_ok {c : Int} (h : 0 < c) (h2 : c ≤ 10000) : FlOk 6 FarI (F1 c) := by
  have k : (10000 : Int) ≤ FarI := by decide
  refine ⟨List.pairwise_cons.mpr ⟨fun s hs => ?_, List.pairwise_cons.mpr ⟨fun s hs => (by cases hs), List.Pairwise.nil⟩⟩, fun s hs => ?_⟩
  · rw [List.mem_singleton.mp hs]
    exact .inl h
  · rcases List.mem_cons.mp hs with rfl | hs
    · exact ⟨⟨⟨by decide, by decide⟩, by decide, by decide⟩, by decide, by decide⟩
    · rw [List.mem_singleton.mp hs]
      exact ⟨⟨⟨by show -FarI ≤ c; omega, by show c ≤ FarI; omega⟩, by show -FarI ≤ 0; omega, by show 0 ≤ FarI; omega⟩, by show 1 ≤ 1; omega, by show 1 < 6; omega⟩
theorem F1_box {c : Int} (h : 0 < c) : BoxOf ((F1 c).map Sq.pt) 0 0 c 0 := by
  have m : ∀ p ∈ (F1 c).map Sq.pt, p = (0, 0) ∨ p = (c, 0) := fun p hp => by
    have hp : p ∈ [((0, 0) : Pt), (c, 0)] := hp
    simpa using hp
  have a : ((0, 0) : Pt) ∈ (F1 c).map Sq.pt := List.mem_cons_self
  have b : ((c, 0) : Pt) ∈ (F1 c).map Sq.pt := List.mem_cons_of_mem _ List.mem_cons_self
  refine ⟨⟨_, a, rfl⟩, fun p hp => ?_, ⟨_, a, rfl⟩, fun p hp => ?_, ⟨_, b, rfl⟩, fun p hp => ?_, ⟨_, a, rfl⟩, fun p hp => ?_⟩ <;> rcases m p hp with rfl | rfl
  · exact Int.le_refl _
  · show 0 ≤ c; omega
  · exact Int.le_refl _
  · exact Int.le_refl _
  · show 0 ≤ c; omega
  · exact Int.le_refl _
  · exact Int.le_refl _
  · exact Int.le_refl _
theorem F1_text : writeT (F1 9998) 0 0 1 = tl (Str.ofString "a9997.a") := by decide +kernel
theorem F1_tp {K : PySem.W.Frag} {H : Hp} {t1 t2 t3 : Addr} {c : Int} (h1 : H t1 = some (.tup [.int 0, .int 0, .int 1])) (h2 : H t2 = some (.tup [.int c, .int 0, .int 1])) (h3 : H t3 = some (.tup [.ref t1, .ref t2])) : Tp K H (.ref t3) (floorD (F1 c)) := .tup (SqT.of h3) (.cons (.tup (SqT.of h1) (.cons (.int _) (.cons (.int _) (.cons (.int _) .nil)))) (.cons (.tup (SqT.of h2) (.cons (.int _) (.cons (.int _) (.cons (.int _) .nil)))) .nil))

/-! ### the law -/
/-- a floor, moved and turned, as the law draws it -/
structure A1 (K : PySem.W.Frag) (H : Hp) (fv mv av : V) (q : Nat) (pl : Addr) (F : List Sq) (mx my : Int) : Prop where
  fl : FlOk 6 3 F
  len : F.length ≤ 9
  f : Tp K H fv (floorD F)
  m : Tp K H mv (.tuple [.int mx, .int my])
  x0 : -(2 ^ 100) ≤ mx
  x1 : mx ≤ 2 ^ 100
  y0 : -(2 ^ 60) ≤ my
  y1 : my ≤ 2 ^ 60
  far : Tp K H av (floorD (F.map (shSq mx my)))
  q4 : q < 4
  pl : ∃ ws, H pl = some (.lst ws) ∧ TpAll K H ws ((rotL q F).map sqD)
theorem FlOk.wide {c : Nat} {F : List Sq} (h : FlOk c 3 F) : FlOk c FarI F := ⟨h.asc, fun s hs => by
  obtain ⟨⟨⟨a, b⟩, d, e⟩, f, g⟩ := h.sq s hs
  have k : (3 : Int) ≤ FarI := by decide
  exact ⟨⟨⟨by omega, by omega⟩, by omega, by omega⟩, f, g⟩⟩
theorem A1.mok {K : PySem.W.Frag} {H : Hp} {fv mv av : V} {q : Nat} {pl : Addr} {F : List Sq} {mx my : Int} (h : A1 K H fv mv av q pl F mx my) : InB FarI (mx, my) := by
  have k : (2 : Int) ^ 100 ≤ FarI := by decide +kernel
  have k2 : (2 : Int) ^ 60 ≤ 2 ^ 100 := by decide +kernel
  obtain ⟨_, _, _, _, a, b, c, d, _, _, _⟩ := h
  exact ⟨⟨by show -FarI ≤ mx; omega, by show mx ≤ FarI; omega⟩, by show -FarI ≤ my; omega, by show my ≤ FarI; omega⟩
theorem A1.same {K : PySem.W.Frag} {H H' : Hp} {fv mv av : V} {q : Nat} {pl : Addr} {F : List Sq} {mx my : Int} (s : Same H H') (h : A1 K H fv mv av q pl F mx my) : A1 K H' fv mv av q pl F mx my := by
  obtain ⟨a, b, f, m, c, d, e, g, far, q4, ws, h1, h2⟩ := h
  exact ⟨a, b, Tp.mono (Same.tk s) _ _ f, Tp.mono (Same.tk s) _ _ m, c, d, e, g, Tp.mono (Same.tk s) _ _ far, q4, ws, s _ _ h1, TpAll.mono (Same.tk s) _ _ h2⟩
theorem okFl {F : List Sq} (h : F.length ≤ 5000) : okD 4 (floorD F) := by
  refine ⟨by rw [List.length_map]; exact h, fun d hd => ?_⟩
  obtain ⟨s, _, rfl⟩ := List.mem_map.mp hd
  refine ⟨by show 3 ≤ 5000; decide, fun d hd => ?_⟩
  simp only [List.mem_cons, List.not_mem_nil, or_false] at hd
  rcases hd with rfl | rfl | rfl <;> exact trivial
/-- a floor's ends, and where its text is due -/
structure E2 (K : PySem.W.Frag) (H : Hp) (ev dv : V) (F : List Sq) : Prop where
  e0 : F = [] → ev = .non ∧ Tp K H dv (.tuple [.int 0, .int 0])
  e1 : F ≠ [] → ∃ l t r b, BoxOf (F.map Sq.pt) l t r b ∧ Tp K H ev (.tuple [.int l, .int t, .int r, .int b]) ∧ Tp K H dv (.tuple [.int l, .int t])
theorem E2.same {K : PySem.W.Frag} {H H' : Hp} {ev dv : V} {F : List Sq} (s : Same H H') (h : E2 K H ev dv F) : E2 K H' ev dv F := ⟨fun e => ⟨(h.e0 e).1, Tp.mono (Same.tk s) _ _ (h.e0 e).2⟩, fun e => by
  obtain ⟨l, t, r, b, h1, h2, h3⟩ := h.e1 e
  exact ⟨l, t, r, b, h1, Tp.mono (Same.tk s) _ _ h2, Tp.mono (Same.tk s) _ _ h3⟩⟩
structure T3 (F : List Sq) (z : Str) : Prop where
  e0 : F = [] → z = Str.ofString ""
  e1 : F ≠ [] → ∀ l t r b, BoxOf (F.map Sq.pt) l t r b → tl z = writeT F l t (b - t + 1).toNat
theorem TpAll.int4 {K : PySem.W.Frag} {H : Hp} {vs : List V} {i j k l : Int} (h : TpAll K H vs [.int i, .int j, .int k, .int l]) : vs = [.int i, .int j, .int k, .int l] := by
  obtain ⟨v1, w1, e1, h1, g1⟩ := h.consI
  obtain ⟨v2, w2, e2, h2, g2⟩ := g1.consI
  obtain ⟨v3, w3, e3, h3, g3⟩ := g2.consI
  obtain ⟨v4, w4, e4, h4, g4⟩ := g3.consI
  rw [e1, e2, e3, e4, h1.intI, h2.intI, h3.intI, h4.intI, g4.nilI]
theorem rowSq_sh (F : List Sq) (l t mx my : Int) (j : Nat) : rowSq (F.map (shSq mx my)) (l + mx) (t + my) j = rowSq F l t j := by
  unfold rowSq
  rw [List.filter_map, List.map_map]
  have e : ((fun s : Sq => decide (s.2.1 = t + my + (j : Int))) ∘ shSq mx my) = fun s : Sq => decide (s.2.1 = t + (j : Int)) := funext fun s => by
    show decide (s.2.1 + my = t + my + (j : Int)) = _
    exact decide_eq_decide.mpr (by omega)
  rw [e]
  refine List.map_congr_left fun s _ => ?_
  show ((s.1 + mx - (l + mx)).toNat, sgC s.2.2) = _
  rw [show s.1 + mx - (l + mx) = s.1 - l by omega]
theorem writeT_sh (F : List Sq) (l t mx my : Int) (k : Nat) : writeT (F.map (shSq mx my)) (l + mx) (t + my) k = writeT F l t k := by
  unfold writeT
  congr 1
  exact List.map_congr_left fun j _ => by rw [rowSq_sh]
theorem FlOk.sh {c : Nat} {B B' mx my : Int} {F : List Sq} (h : FlOk c B F) (hx : -B' ≤ mx - B ∧ mx + B ≤ B') (hy : -B' ≤ my - B ∧ my + B ≤ B') : FlOk c B' (F.map (shSq mx my)) := by
  refine ⟨?_, fun s hs => ?_⟩
  · rw [List.pairwise_map]
    refine h.asc.imp fun {a b} l => ?_
    show a.1 + mx < b.1 + mx ∨ (a.1 + mx = b.1 + mx ∧ a.2.1 + my < b.2.1 + my)
    have l : a.1 < b.1 ∨ (a.1 = b.1 ∧ a.2.1 < b.2.1) := l
    omega
  · obtain ⟨u, hu, rfl⟩ := List.mem_map.mp hs
    obtain ⟨⟨⟨a, b⟩, d, e⟩, f, g⟩ := h.sq u hu
    have a : -B ≤ u.1 := a
    have b : u.1 ≤ B := b
    have d : -B ≤ u.2.1 := d
    have e : u.2.1 ≤ B := e
    exact ⟨⟨⟨by show -B' ≤ u.1 + mx; omega, by show u.1 + mx ≤ B'; omega⟩, by show -B' ≤ u.2.1 + my; omega, by show u.2.1 + my ≤ B'; omega⟩, f, g⟩
theorem BoxOf.sh {F : List Sq} {l t r b : Int} (h : BoxOf (F.map Sq.pt) l t r b) (mx my : Int) : BoxOf ((F.map (shSq mx my)).map Sq.pt) (l + mx) (t + my) (r + mx) (b + my) := by
  have up : ∀ p ∈ F.map Sq.pt, (p.1 + mx, p.2 + my) ∈ (F.map (shSq mx my)).map Sq.pt := fun p hp => by
    obtain ⟨s, hs, rfl⟩ := List.mem_map.mp hp
    exact List.mem_map.mpr ⟨shSq mx my s, List.mem_map_of_mem hs, rfl⟩
  have dn : ∀ p ∈ (F.map (shSq mx my)).map Sq.pt, ∃ q ∈ F.map Sq.pt, p = (q.1 + mx, q.2 + my) := fun p hp => by
    rw [List.map_map] at hp
    obtain ⟨s, hs, rfl⟩ := List.mem_map.mp hp
    exact ⟨s.pt, List.mem_map_of_mem hs, rfl⟩
  obtain ⟨p1, m1, e1⟩ := h.l1
  obtain ⟨p2, m2, e2⟩ := h.t1
  obtain ⟨p3, m3, e3⟩ := h.r1
  obtain ⟨p4, m4, e4⟩ := h.b1
  refine ⟨⟨_, up p1 m1, by rw [← e1]⟩, fun p hp => ?_, ⟨_, up p2 m2, by rw [← e2]⟩, fun p hp => ?_, ⟨_, up p3 m3, by rw [← e3]⟩, fun p hp => ?_, ⟨_, up p4 m4, by rw [← e4]⟩, fun p hp => ?_⟩ <;> obtain ⟨q, hq, rfl⟩ := dn p hp
  · have := h.l2 q hq
    show l + mx ≤ q.1 + mx
    omega
  · have := h.t2 q hq
    show t + my ≤ q.2 + my
    omega
  · have := h.r2 q hq
    show q.1 + mx ≤ r + mx
    omega
  · have := h.b2 q hq
    show q.2 + my ≤ b + my
    omega
theorem wout_sgn : ∀ (sqs : List (Nat × Nat)) (e : Nat), (∀ p ∈ sqs, p.2 ∈ sgn5) → ∀ s ∈ wout e sqs, s ∈ sgn5
  | [], _, _, s, hs => by cases hs
  | (x, c) :: r, e, h, s, hs => by
    rcases List.mem_append.mp (show s ∈ List.replicate (x - e) 46 ++ c :: wout (x + 1) r from hs) with hs | hs
    · rw [(List.mem_replicate.mp hs).2]
      exact List.mem_cons_self
    · rcases List.mem_cons.mp hs with rfl | hs
      · exact h _ List.mem_cons_self
      · exact wout_sgn r (x + 1) (fun p hp => h p (List.mem_cons_of_mem _ hp)) s hs
/-- the text, read: the floor moved to its corner -/
theorem T3.back {F : List Sq} {z : Str} (h : T3 F z) (fl : FlOk 6 3 F) {K : PySem.W.Frag} {H : Hp} {ev dv : V} (B : E2 K H ev dv F) : ∃ dl dt sq sq1, Tp K H dv (.tuple [.int dl, .int dt]) ∧ (-3 ≤ dl ∧ dl ≤ 3) ∧ (-3 ≤ dt ∧ dt ≤ 3) ∧ readF (tl z) = .inr sq ∧ sq.Perm (F.map (shSq (-dl) (-dt))) ∧ readF (49 :: 46 :: tl z) = .inr sq1 ∧ z.length ≤ 200 := by
  by_cases ne : F = []
  · subst ne
    rw [h.e0 rfl]
    exact ⟨0, 0, [], _, (B.e0 rfl).2, ⟨by decide, by decide⟩, ⟨by decide, by decide⟩, rfl, List.Perm.refl _, rfl, by decide⟩
  · obtain ⟨l, t, r, b, bo, _, hd⟩ := B.e1 ne
    obtain ⟨fr, ⟨l0, l1, l2⟩, t0, t1, t2⟩ := box_rows fl ne bo
    have e := h.e1 ne l t r b bo
    obtain ⟨k, hk⟩ : ∃ k : Nat, (b - t + 1).toNat = k := ⟨_, rfl⟩
    rw [hk] at e fr
    have k7 : k ≤ 7 := by omega
    have ew : writeT F l t k = joinT (((List.range k).map fun j => wout 0 (rowSq F l t j)).map fun l => runT (rleL l)) := by
      unfold writeT
      rw [List.map_map]
      congr 1
      exact List.map_congr_left fun j _ => by rw [rGo_rle (fr.ok j)]; rfl
    have good : ∀ u ∈ (List.range k).map fun j => wout 0 (rowSq F l t j), u.length ≤ 7 ∧ ∀ s ∈ u, s ∈ sgn5 := fun u hu => by
      obtain ⟨j, _, rfl⟩ := List.mem_map.mp hu
      refine ⟨Nat.le_trans (wout_len _ 0 (r + 1 - l).toNat (fr.ok j) (Nat.zero_le _) fun p hp => ?_) (by omega), wout_sgn _ _ fun p hp => ?_⟩
      · unfold rowSq at hp
        obtain ⟨s, hs, rfl⟩ := List.mem_map.mp hp
        have h1 := fr.x1 s (List.mem_filter.mp hs).1
        have h0 := fr.x0 s (List.mem_filter.mp hs).1
        show (s.1 - l).toNat < (r + 1 - l).toNat
        omega
      · unfold rowSq at hp
        obtain ⟨s, hs, rfl⟩ := List.mem_map.mp hp
        have h0 := fr.c0 s (List.mem_filter.mp hs).1
        have h1 := fr.c1 s (List.mem_filter.mp hs).1
        have e : s.2.2 = 1 ∨ s.2.2 = 2 ∨ s.2.2 = 3 ∨ s.2.2 = 4 ∨ s.2.2 = 5 := by omega
        show sgC s.2.2 ∈ sgn5
        rcases e with e | e | e | e | e <;> rw [e] <;> decide
    have lk : ((List.range k).map fun j => wout 0 (rowSq F l t j)).length ≤ 9 := by
      rw [List.length_map, List.length_range]
      omega
    have g9 : ∀ u ∈ (List.range k).map fun j => wout 0 (rowSq F l t j), u.length ≤ 9 ∧ ∀ s ∈ u, s ∈ sgn5 := fun u hu => ⟨Nat.le_trans (good u hu).1 (by decide), (good u hu).2⟩
    obtain ⟨sq1, h1⟩ := readF_one g9 lk
    refine ⟨l, t, _, sq1, hd, ⟨l0, by omega⟩, ⟨t0, by omega⟩, by rw [e, ew]; exact readF_rows g9 lk, fr.back, by rw [e, ew]; exact h1, ?_⟩
    rw [len_tl, e, ew]
    have jl : ∀ us : List (List Nat), (∀ u ∈ us, u.length ≤ 18) → (joinT us).length ≤ 19 * us.length := by
      intro us
      induction us with
      | nil => intro _; exact Nat.le_refl _
      | cons u us ih =>
        intro hu
        have h0 := hu u List.mem_cons_self
        have h2 := ih fun v hv => hu v (List.mem_cons_of_mem _ hv)
        cases us with
        | nil =>
          show u.length ≤ 19 * 1
          omega
        | cons v us =>
          show (u ++ 47 :: joinT (v :: us)).length ≤ 19 * ((v :: us).length + 1)
          rw [List.length_append, List.length_cons]
          omega
    refine Nat.le_trans (jl _ fun u hu => ?_) ?_
    · obtain ⟨v, hv, rfl⟩ := List.mem_map.mp hu
      have := (good v hv).1
      exact Nat.le_trans (runT_len 9 v (by omega) (by omega)) (by omega)
    · rw [List.length_map, List.length_map, List.length_range]
      omega
theorem sorted_sh {F G : List Sq} {sq : List Sq} (fl : FlOk 6 FarI F) (pm : sq.Perm F) (pg : G.Perm sq) (pw : G.Pairwise fun a b => ltZ [b.1, b.2.1, b.2.2] [a.1, a.2.1, a.2.2] = false) : G = F := by
  have fo := fl.fl
  exact (fo.sqs.sorted (pg.trans pm) pw).uniq fo
theorem sh_back (dl dt : Int) (F : List Sq) : (F.map (shSq (-dl) (-dt))).map (shSq dl dt) = F := by
  rw [List.map_map]
  have e : (shSq dl dt ∘ shSq (-dl) (-dt)) = id := funext fun s => by
    show (s.1 + -dl + dl, s.2.1 + -dt + dt, s.2.2) = s
    rw [show s.1 + -dl + dl = s.1 by omega, show s.2.1 + -dt + dt = s.2.1 by omega]
  rw [e, List.map_id]
theorem okW {z : Str} {i j : Int} : okD 5 (.list [.none, .tuple [.str z, .tuple [.int i, .int j]]]) := by
  refine ⟨by show 2 ≤ 5000; decide, fun d hd => ?_⟩
  simp only [List.mem_cons, List.not_mem_nil, or_false] at hd
  rcases hd with rfl | rfl
  · exact trivial
  · refine ⟨by show 2 ≤ 5000; decide, fun d hd => ?_⟩
    simp only [List.mem_cons, List.not_mem_nil, or_false] at hd
    rcases hd with rfl | rfl
    · exact trivial
    · refine ⟨by show 2 ≤ 5000; decide, fun d hd => ?_⟩
      simp only [List.mem_cons, List.not_mem_nil, or_false] at hd
      rcases hd with rfl | rfl <;> exact trivial
theorem okW2 {z : Str} {i j a b c e : Int} : okD 5 (.list [.tuple [.int a, .int b, .int c, .int e], .tuple [.str z, .tuple [.int i, .int j]]]) := by
  refine ⟨by show 2 ≤ 5000; decide, fun d hd => ?_⟩
  simp only [List.mem_cons, List.not_mem_nil, or_false] at hd
  rcases hd with rfl | rfl
  · refine ⟨by show 4 ≤ 5000; decide, fun d hd => ?_⟩
    simp only [List.mem_cons, List.not_mem_nil, or_false] at hd
    rcases hd with rfl | rfl | rfl | rfl <;> exact trivial
  · exact (okW (z := z) (i := i) (j := j)).2 _ (List.mem_cons_of_mem _ List.mem_cons_self)
section
variable {P : Program} {w : World} {K : PySem.W.Frag} {mg : Str → Option Value} {base : Heap}
local macro_rules | `(tactic| walk_at "cl") => `(tactic| first | (refine le_only ?_; omega) | (refine lt_only ?_; omega))
set_option maxHeartbeats 0 in
theorem ok_law {CI CM CE f : Addr} {fd : FuncData} (T : Txt K mg) (TI : ExcCls K mg "InvalidText" CI) (TM : ExcCls K mg "TooMany" CM) (FI : ExcInit1 P w K mg base CI "place") (FM : ExcInit1 P w K mg base CM "most") (gW : mg "WalkError" = some (.ref CE)) (hxI : PySem.W.exmOne K (.ref CI) (.ref CE) = some true) (hxM : PySem.W.exmOne K (.ref CM) (.ref CE) = some true) (F : Fun K "law" "law" s_law f fd) (C_law_taken : Cal P w K mg base CX0 "_law_taken" 1 ["row", "many"] (spTaken K)) (C_law_signed : Cal P w K mg base CX0 "_law_signed" 2 ["row", "most"] (spSigned K)) (C_law_some_floor : Cal P w K mg base CX0 "_law_some_floor" 3 ["row", "colours", "most"] (spSomeFloor K)) (C_law_alike : Cal P w K mg base CX0 "_law_alike" 6 ["found", "due"] (spAlike K 5)) (C_law_runs : Cal P w K mg base CX0 "_law_runs" 1 ["signs"] spLRuns)
    (C_moved : Cal P w K mg base CX0 "moved" 5 ["floor", "move"] (spMoved K)) (C_turned : Cal P w K mg base CX0 "turned" 5 ["floor", "quarters"] (spTurned K)) (C_box : Cal P w K mg base CX0 "box" 5 ["floor"] (spBox K)) (C_write_floor : Cal P w K mg base (L2.CX P w) "write_floor" 6 ["floor"] (spWriteF K CM)) (C_read_floor : Cal P w K mg base (L2.CX P w) "read_floor" 4 ["text"] (spReadF K CI)) : FnOk P w K mg base CX0 7 f fd ["script"] (spLaw K) := by
  refine F.ok sc_law (fun vs H Q E h => ?_) (fun cdv A outer s H vs Q E hr h => ?_)
  · obtain ⟨a, ns, rfl, _⟩ := h
    rfl
  · obtain ⟨a, ns, rfl, hS, q⟩ := h
    refine ⟨_, (pss_cons (ps_set (i := 1) sc_law.nd rfl (Or.inl rfl) (pe_lst (pa_cons (pv 0) (pa_cons pe_int (pa_cons pe_int (pa_cons pe_int pa_nil))))))
      (pss_cons (ps_asg (pe_tup (pa_cons (pe_own C_law_some_floor hr (by first | decide | omega) (pa_cons (pv 1) (pa_cons pe_int (pa_cons pe_int pa_nil)))) (pa_cons (pe_tup (pa_cons (pe_own C_law_signed hr (by first | decide | omega) (pa_cons (pv 1) (pa_cons (pe_op op_shl pe_int pe_int) pa_nil))) (pa_cons (pe_own C_law_signed hr (by first | decide | omega) (pa_cons (pv 1) (pa_cons (pe_op op_shl pe_int pe_int) pa_nil))) pa_nil))) pa_nil))) (pg_tup (by rfl) (pgs_cons (pg_name (i := 2) sc_law.nd rfl (Or.inl rfl)) (pgs_cons (pg_name (i := 3) sc_law.nd rfl (Or.inr rfl)) pgs_nil))))
      (pss_cons (ps_set (i := 4) sc_law.nd rfl (Or.inl rfl) (pe_callTy (k_tuple_l (K := K)) (by rfl) T.m_tuple (by decide +kernel) (pa_cons (pe_lc (own := [("x", 20), ("y", 13), ("colour", 21)]) (g := gTup K 3 (gCons (gName 20) (gCons (gName 13) (gCons (gName 21) gNil)))) rfl sc_law.nd (k_pi_tup (K := K) (pv 2)) (blkOk_by (by rfl)) (fun _ _ _ _ _ => (k_pgT (K := K) 3 (by rfl) (pgs_cons (pg_name (i := 20) sc_law.nd rfl (Or.inl rfl)) (pgs_cons (pg_name (i := 13) sc_law.nd rfl (Or.inl rfl)) (pgs_cons (pg_name (i := 21) sc_law.nd rfl (Or.inl rfl)) pgs_nil))))) (fun _ _ _ _ _ => pts_nil) (fun _ _ _ _ _ => (pe_tup (pa_cons (pe_op op_add (pv 20) (pe_ix (k_ix_tup (K := K)) (pv 3) pe_int (fun _ _ => rfl))) (pa_cons (pe_op op_add (pv 13) (pe_ix (k_ix_tup (K := K)) (pv 3) pe_int (fun _ _ => rfl))) (pa_cons (pv 21) pa_nil)))))) pa_nil)))
      (pss_cons (ps_set (i := 5) sc_law.nd rfl (Or.inr rfl) (pe_own C_law_taken hr (by first | decide | omega) (pa_cons (pv 1) (pa_cons pe_int pa_nil))))
      (pss_cons (ps_setLc (i := 6) (own := [("x", 20), ("y", 13), ("colour", 21)]) (g := gTup K 3 (gCons (gName 20) (gCons (gName 13) (gCons (gName 21) gNil)))) rfl sc_law.nd rfl rfl (sw_true rfl rfl rfl (by decide +kernel)) (k_pi_tup (K := K) (pv 2)) (blkOk_by (by rfl)) (fun _ _ _ _ _ => (k_pgT (K := K) 3 (by rfl) (pgs_cons (pg_name (i := 20) sc_law.nd rfl (Or.inl rfl)) (pgs_cons (pg_name (i := 13) sc_law.nd rfl (Or.inl rfl)) (pgs_cons (pg_name (i := 21) sc_law.nd rfl (Or.inl rfl)) pgs_nil))))) (fun _ _ _ _ _ => pts_nil) (fun _ _ _ _ _ => (pe_op (k_catA (K := K)) (pe_ix (k_ix_list (K := K)) (pe_lst (pa_cons (pe_tup (pa_cons (pv 20) (pa_cons (pv 13) pa_nil))) (pa_cons (pe_tup (pa_cons (pe_op op_sub pe_int (pv 13)) (pa_cons (pv 20) pa_nil))) (pa_cons (pe_tup (pa_cons (pe_op op_sub pe_int (pv 20)) (pa_cons (pe_op op_sub pe_int (pv 13)) pa_nil))) (pa_cons (pe_tup (pa_cons (pv 13) (pa_cons (pe_op op_sub pe_int (pv 20)) pa_nil))) pa_nil))))) (pv 5) (fun _ _ => rfl)) (pe_tup (pa_cons (pv 21) pa_nil)))))
      (pss_cons (ps_if (pt_not (pt_val (pe_own C_law_alike hr (by first | decide | omega) (pa_cons (pe_lst (pa_cons (pe_own C_moved hr (by first | decide | omega) (pa_cons (pv 2) (pa_cons (pv 3) pa_nil))) (pa_cons (pe_own C_turned hr (by first | decide | omega) (pa_cons (pv 2) (pa_cons (pv 5) pa_nil))) pa_nil))) (pa_cons (pe_lst (pa_cons (pv 4) (pa_cons (pe_callTy (k_tuple_l (K := K)) (by rfl) T.m_tuple (by decide +kernel) (pa_cons (pe_callB (k_sortT (K := K)) (by rfl) T.m_sorted (by decide +kernel) (pa_cons (pv 6) pa_nil)) pa_nil)) pa_nil))) pa_nil))))) (pss_one (ps_ret pe_bl)) pss_nil)
      (pss_cons (ps_par (i := 7) (j := 8) (by rfl) sc_law.nd rfl rfl (by decide) rfl rfl (pa_cons (pe_callB (k_sortedN (K := K)) (by rfl) T.m_sorted (by decide +kernel) (pa_cons (pe_lc (own := [("square", 22)]) (g := gName 22) rfl sc_law.nd (k_pi_tup (K := K) (pv 2)) (blkOk_by (by rfl)) (fun _ _ _ _ _ => (pg_name (i := 22) sc_law.nd rfl (Or.inl rfl))) (fun _ _ _ _ _ => pts_nil) (fun _ _ _ _ _ => (pe_ix (k_ix_tup (K := K)) (pv 22) pe_int (fun _ _ => rfl)))) pa_nil)) (pa_cons (pe_callB (k_sortedN (K := K)) (by rfl) T.m_sorted (by decide +kernel) (pa_cons (pe_lc (own := [("square", 22)]) (g := gName 22) rfl sc_law.nd (k_pi_tup (K := K) (pv 2)) (blkOk_by (by rfl)) (fun _ _ _ _ _ => (pg_name (i := 22) sc_law.nd rfl (Or.inl rfl))) (fun _ _ _ _ _ => pts_nil) (fun _ _ _ _ _ => (pe_ix (k_ix_tup (K := K)) (pv 22) pe_int (fun _ _ => rfl)))) pa_nil)) pa_nil)) (by rfl))
      (pss_cons (ps_set (i := 9) sc_law.nd rfl (Or.inl rfl) (pe_ifExp (pt_cmpR (k_neD (K := K) hr.units) (pv 2) (pe_tup pa_nil) (nomark _)) (pe_tup (pa_cons (pe_ix (k_ix_list (K := K)) (pv 7) pe_int (fun _ _ => rfl)) (pa_cons (pe_ix (k_ix_list (K := K)) (pv 8) pe_int (fun _ _ => rfl)) (pa_cons (pe_ix (k_ix_list (K := K)) (pv 7) (pe_un un_neg pe_int) (fun _ _ => rfl)) (pa_cons (pe_ix (k_ix_list (K := K)) (pv 8) (pe_un un_neg pe_int) (fun _ _ => rfl)) pa_nil))))) pe_non))
      (pss_cons (ps_par (i := 10) (j := 11) (by rfl) sc_law.nd rfl rfl (by decide) rfl rfl (pa_cons (pe_ifExp (pt_cmpR op_isN (pv 9) pe_non (nomark _)) (pe_tup (pa_cons pe_int (pa_cons pe_int pa_nil))) (pe_slice (k_sl_tup (K := K)) (pv 9) po_none (po_some pe_int))) (pa_cons pe_str pa_nil)) (by rfl))
      (pss_cons (ps_if (pt_cmpR (k_neD (K := K) hr.units) (pv 2) (pe_tup pa_nil) (nomark _)) (pss_cons (ps_set (i := 12) sc_law.nd rfl (Or.inl rfl) (pe_lst pa_nil))
      (pss_cons (ps_for PassesOwn.never rfl (pi_range2 (by rfl) T.m_range (pa_cons (pe_ix (k_ix_tup (K := K)) (pv 9) pe_int (fun _ _ => rfl)) (pa_cons (pe_op op_add (pe_ix (k_ix_tup (K := K)) (pv 9) pe_int (fun _ _ => rfl)) pe_int) pa_nil))) (pg_name (i := 13) sc_law.nd rfl (Or.inr rfl))
      (pss_cons (ps_set (i := 14) sc_law.nd rfl (Or.inr rfl) (pe_callTy (k_dictPI (K := K) rfl) (by rfl) T.m_dict (by decide +kernel) (pa_cons (pe_lc (own := [("square", 22)]) (g := gName 22) rfl sc_law.nd (k_pi_tup (K := K) (pv 2)) (blkOk_by (by rfl)) (fun _ _ _ _ _ => (pg_name (i := 22) sc_law.nd rfl (Or.inl rfl))) (fun _ _ _ _ _ => pts_one (pt_cmpR op_eq (pe_ix (k_ix_tup (K := K)) (pv 22) pe_int (fun _ _ => rfl)) (pv 13) (nomark _))) (fun _ _ _ _ _ => (pe_tup (pa_cons (pe_ix (k_ix_tup (K := K)) (pv 22) pe_int (fun _ _ => rfl)) (pa_cons (pe_ix (k_ix_tup (K := K)) (pv 22) pe_int (fun _ _ => rfl)) pa_nil))))) pa_nil)))
      (pss_one (ps_expr (pe_bm PySem.F.plainAttrs_list PySem.F.slot_list_append PySem.F.type_list_append mt_append (pv 12) (pa_cons (pe_bm PySem.F.plainAttrs_str PySem.F.slot_str_rstrip PySem.F.type_str_rstrip mt_rstripChars (pe_m1 PySem.F.slot_str_join PySem.F.type_str_join (k_mt_join (K := K)) pe_str (pe_lc (own := [("x", 20)]) (g := gName 20) rfl sc_law.nd (pi_range2 (by rfl) T.m_range (pa_cons (pe_ix (k_ix_tup (K := K)) (pv 9) pe_int (fun _ _ => rfl)) (pa_cons (pe_op op_add (pe_ix (k_ix_tup (K := K)) (pv 9) pe_int (fun _ _ => rfl)) pe_int) pa_nil))) (blkOk_by (by rfl)) (fun _ _ _ _ _ => (pg_name (i := 20) sc_law.nd rfl (Or.inl rfl))) (fun _ _ _ _ _ => pts_nil) (fun _ _ _ _ _ => (pe_ix ix_str pe_str (pe_dget2 (hu_of hr) (pv 14) (pv 20) pe_int (by exact ⟨rfl, rfl, rfl, rfl⟩)) (fun _ _ => rfl))))) (pa_cons pe_str pa_nil)) pa_nil))))))
      (pss_one (ps_set (i := 11) sc_law.nd rfl (Or.inl rfl) (pe_m1 PySem.F.slot_str_join PySem.F.type_str_join (k_mt_join (K := K)) pe_str (pe_lc (own := [("signs", 23)]) (g := gName 23) rfl sc_law.nd (k_pi_list (K := K) (pv 12)) (blkOk_by (by rfl)) (fun _ _ _ _ _ => (pg_name (i := 23) sc_law.nd rfl (Or.inl rfl))) (fun _ _ _ _ _ => pts_nil) (fun _ _ _ _ _ => (pe_own C_law_runs hr (by first | decide | omega) (pa_cons (pv 23) pa_nil))))))))) pss_nil)
      (pss_cons (ps_if (pt_not (pt_val (pe_own C_law_alike hr (by first | decide | omega) (pa_cons (pe_lst (pa_cons (pe_own C_box hr (by first | decide | omega) (pa_cons (pv 2) pa_nil)) (pa_cons (pe_ownL C_write_floor hr (by decide) (pa_cons (pv 4) pa_nil)) pa_nil))) (pa_cons (pe_lst (pa_cons (pv 9) (pa_cons (pe_tup (pa_cons (pv 11) (pa_cons (pe_ifExp (pt_cmpR (k_neD (K := K) hr.units) (pv 2) (pe_tup pa_nil) (nomark _)) (pe_tup (pa_cons (pe_op op_add (pe_ix (k_ix_tup (K := K)) (pv 10) pe_int (fun _ _ => rfl)) (pe_ix (k_ix_tup (K := K)) (pv 3) pe_int (fun _ _ => rfl))) (pa_cons (pe_op op_add (pe_ix (k_ix_tup (K := K)) (pv 10) pe_int (fun _ _ => rfl)) (pe_ix (k_ix_tup (K := K)) (pv 3) pe_int (fun _ _ => rfl))) pa_nil))) (pe_tup (pa_cons pe_int (pa_cons pe_int pa_nil)))) pa_nil))) pa_nil))) pa_nil))))) (pss_one (ps_ret pe_bl)) pss_nil)
      (pss_cons (ps_if (PW.pt (pw_or (pt_cmpR (k_neD (K := K) hr.units) (pe_own C_moved hr (by first | decide | omega) (pa_cons (pe_ownL C_read_floor hr (by decide) (pa_cons (pv 11) pa_nil)) (pa_cons (pv 10) pa_nil))) (pv 2) (nomark _)) (pw_or1 (pt_cmpR (k_neD (K := K) hr.units) (pe_slice (k_sl_zero (K := K)) (pe_ownL C_read_floor hr (by decide) (pa_cons (pe_op op_add_str pe_str (pv 11)) pa_nil)) po_none (po_some pe_int)) (pe_tup pa_nil) (nomark _))))) (pss_one (ps_ret pe_bl)) pss_nil)
      (pss_cons (ps_set (i := 12) sc_law.nd rfl (Or.inl rfl) (pe_lst (pa_cons (pe_tup (pa_cons pe_str (pa_cons pe_int pa_nil))) (pa_cons (pe_tup (pa_cons pe_str (pa_cons pe_int pa_nil))) (pa_cons (pe_tup (pa_cons pe_str (pa_cons pe_int pa_nil))) (pa_cons (pe_tup (pa_cons pe_str (pa_cons pe_int pa_nil))) (pa_cons (pe_tup (pa_cons pe_str (pa_cons pe_int pa_nil))) (pa_cons (pe_tup (pa_cons pe_str (pa_cons pe_non pa_nil))) (pa_cons (pe_tup (pa_cons pe_str (pa_cons pe_non pa_nil))) pa_nil)))))))))
      (pss_cons (ps_set (i := 12) sc_law.nd rfl (Or.inl rfl) (pe_op op_cat (pv 12) (pe_lst (pa_cons (pe_tup (pa_cons pe_str (pa_cons pe_int pa_nil))) (pa_cons (pe_tup (pa_cons pe_str (pa_cons pe_int pa_nil))) (pa_cons (pe_tup (pa_cons pe_str (pa_cons pe_int pa_nil))) (pa_cons (pe_tup (pa_cons pe_str (pa_cons pe_int pa_nil))) (pa_cons (pe_tup (pa_cons (pe_op (op_slashes (n := 10000) (by decide) (by decide)) pe_str pe_int) (pa_cons pe_int pa_nil))) (pa_cons (pe_tup (pa_cons (pe_op (op_slashes (n := 9999) (by decide) (by decide)) pe_str pe_int) (pa_cons pe_non pa_nil))) pa_nil)))))))))
      (pss_cons (ps_for PassesOwn.never rfl (k_pi_list (K := K) (pv 12)) (pg_tup (by rfl) (pgs_cons (pg_name (i := 15) sc_law.nd rfl (Or.inl rfl)) (pgs_cons (pg_name (i := 16) sc_law.nd rfl (Or.inl rfl)) pgs_nil)))
      (pss_cons (ps_set (i := 17) sc_law.nd rfl (Or.inl rfl) pe_non)
      (pss_cons (ps_try_as (i := 18) (tb := fun W => tDrop (tCallS (spReadF K CI) (WE W) (tCons (tVar 15) tNil))) (ts := fun a cls d => tAsg (tIf (tTest (tCB (rIsEd K mg a cls d) (tCons (tVar 18) (tCons (tC (.ref CI)) tNil)))) (tXf a cls d CI "place" (tVar 18)) (tC (.str "other"))) (gName 17)) (Wout := fun _ _ _ _ => False) rfl rfl sc_law.nd rfl rfl ⟨rfl, by decide, .inl gW⟩ takes0 (fun W pn xe tk _ => pss_one (ps_expr (by exact (pe_ownS C_read_floor tk hr (by decide) (by exact (pa_cons (pv 15) pa_nil)))))) (fun a oe cls d pn hz hf => pss_one (by exact (ps_set (i := 17) sc_law.nd rfl (.inl rfl) (pe_ifExp (pt_val (pe_callB (call_isEd hz hf) (by rfl) T.m_isinstance (by decide +kernel) (pa_cons (pv 18) (pa_cons (pe_glob (by rfl) TI.gC rfl) pa_nil)))) (pe_xf TI.xf FI.no hz hf (pv 18)) pe_str)))))
      (pss_one (ps_if (pt_not (pt_val (pe_own C_law_alike hr (by first | decide | omega) (pa_cons (pv 17) (pa_cons (pv 16) pa_nil))))) (pss_one (ps_ret pe_bl)) pss_nil)))))
      (pss_cons (ps_set (i := 19) sc_law.nd rfl (Or.inl rfl) pe_int)
      (pss_cons (ps_try_as (i := 18) (tb := fun W => tDrop (tCallS (spWriteF K CM) (WE W) (tCons (tTup (tCons (tTup (tCons (tC (.int 0)) (tCons (tC (.int 0)) (tCons (tC (.int 1)) tNil)))) (tCons (tTup (tCons (tC (.int 9999)) (tCons (tC (.int 0)) (tCons (tC (.int 1)) tNil)))) tNil))) tNil))) (ts := fun a cls d => tAsg (tCB (fun xs H Q => ∃ k, xs = [V.bl k] ∧ Q (V.int (if k = true then 1 else 0)) H) (tCons (tAndV (tCB (rIsEd K mg a cls d) (tCons (tVar 18) (tCons (tC (.ref CM)) tNil))) (tOp rEq (tXf a cls d CM "most" (tVar 18)) (tC (.int 9999)))) tNil)) (gName 19)) (Wout := fun _ _ _ _ => False) rfl rfl sc_law.nd rfl rfl ⟨rfl, by decide, .inl gW⟩ takes0 (fun W pn xe tk _ => pss_one (ps_expr (by exact (pe_ownS C_write_floor tk hr (by decide) (by exact (pa_cons (pe_tup (pa_cons (pe_tup (pa_cons pe_int (pa_cons pe_int (pa_cons pe_int pa_nil)))) (pa_cons (pe_tup (pa_cons pe_int (pa_cons pe_int (pa_cons pe_int pa_nil)))) pa_nil))) pa_nil)))))) (fun a oe cls d pn hz hf => pss_one (by exact (ps_set (i := 19) sc_law.nd rfl (.inl rfl) (pe_callTy call_int_b (by rfl) T.m_int (by decide +kernel) (pa_cons (pe_and (pe_callB (call_isEd hz hf) (by rfl) T.m_isinstance (by decide +kernel) (pa_cons (pv 18) (pa_cons (pe_glob (by rfl) TM.gC rfl) pa_nil))) (pe_one (pe_cmpR op_eq (pe_xf TM.xf FM.no hz hf (pv 18)) pe_int (nomark _)))) pa_nil))))))
      (pss_one (ps_ret (pe_and (pe_cmpR op_eq (pv 19) pe_int (nomark _)) (pe_one (pe_cmpR op_eq (pe_ix (k_ix_tup (K := K)) (pe_ownL C_write_floor hr (by decide) (pa_cons (pe_tup (pa_cons (pe_tup (pa_cons pe_int (pa_cons pe_int (pa_cons pe_int pa_nil)))) (pa_cons (pe_tup (pa_cons pe_int (pa_cons pe_int (pa_cons pe_int pa_nil)))) pa_nil))) pa_nil)) pe_int (fun _ _ => rfl)) pe_str (nomark _))))))))))))))))))))))), ?_⟩
    walk_at "st"
    intro r nr
    have R0 : Row K (upd H r (.lst [.ref a, .int 0, .int 11101, .int 0])) r := ⟨a, ns, 0, 11101, 0, upd_same, hS.mono (TK.new nr), by decide, by decide, by decide, by decide⟩
    generalize hH0 : upd H r (.lst [.ref a, .int 0, .int 11101, .int 0]) = H0 at *
    clear hS hH0 nr
    refine gname_seq ?_
    refine seq_assoc ?_
    refine seq_assoc ?_
    refine seq_assoc ?_
    rw [show L2.start ["script", "row", "floor", "move", "far", "quarters", "places", "columns", "lines", "ends", "due", "text", "rows", "y", "there", "some", "place", "told", "error", "wide", "x", "colour", "square", "signs"] [V.ref a] = [some (V.ref a), none, none, none, none, none, none, none, none, none, none, none, none, none, none, none, none, none, none, none, none, none, none, none] from rfl]
    simp only [List.set_cons_zero, List.set_cons_succ]
    refine seq_cutO (fun σ' H' => ∃ (fv mv av : V) (qn : Nat) (pl : Addr) (F : List Sq) (mx my : Int), σ' = [some (.ref a), some (.ref r), some fv, some mv, some av, some (.int (qn : Nat)), some (.ref pl), none, none, none, none, none, none, none, none, none, none, none, none, none, none, none, none, none] ∧ A1 K H' fv mv av qn pl F mx my) ?_ ?_
    rotate_left
    -- <A
    · intro R hR
      have cp1 : CPow 1 100 := ⟨by decide, by decide, by decide⟩
      have cp2 : CPow 1 60 := ⟨by decide, by decide, by decide⟩
      have e100 : (1 : Int) * 2 ^ (100 : Int).toNat = 2 ^ 100 := by decide +kernel
      have e60 : (1 : Int) * 2 ^ (60 : Int).toNat = 2 ^ 60 := by decide +kernel
      have b1 : (0 : Int) ≤ 1 * 2 ^ (100 : Int).toNat := by decide +kernel
      have b2 : (1 : Int) * 2 ^ (100 : Int).toNat < 2 ^ 200 := by decide +kernel
      have b3 : (0 : Int) ≤ 1 * 2 ^ (60 : Int).toNat := by decide +kernel
      have b4 : (1 : Int) * 2 ^ (60 : Int).toNat < 2 ^ 200 := by decide +kernel
      walk_at "st"
      intro fv H1 F fl len hf R1 k1
      walk_at "st"
      intro mx H2 x0 x1 R2 k2
      walk_at "st"
      intro my H3 y0 y1 R3 k3
      rw [e100] at x0 x1
      rw [e60] at y0 y1
      walk_at "st"
      intro ma nma
      have hf3 := Tp.mono ((k2.trans k3).row R1) _ _ hf
      have s4 : Same H3 (upd H3 ma (.tup [.int mx, .int my])) := Same.new nma
      have hma : SqT K (upd H3 ma (.tup [.int mx, .int my])) ma [.int mx, .int my] := SqT.of upd_same
      have R4 := R3.same s4
      have hf4 := Tp.mono (Same.tk s4) _ _ hf3
      generalize upd H3 ma (.tup [.int mx, .int my]) = H4 at *
      walk_at "st"
      intro p5 n5
      have s5 : Same H4 (upd H4 p5 (.tup [fv, .ref ma])) := Same.new n5
      have hma5 := TK.seqT (Same.tk s5) hma
      have R5 := R4.same s5
      have hf5 := Tp.mono (Same.tk s5) _ _ hf4
      have hp5 : SqT K (upd H4 p5 (.tup [fv, .ref ma])) p5 [fv, .ref ma] := SqT.of upd_same
      generalize upd H4 p5 (.tup [fv, .ref ma]) = H5 at *
      obtain ⟨fa, vs, rfl, hs, hvs⟩ := hf5.tupI
      have lvs : vs.length = F.length := by rw [TpAll.length hvs, List.length_map]
      have len9 : F.length ≤ 9 := len
      clear hf hf3 hf4 s4 s5 hma R1 R2 R3 R4 k1 k2 k3 nma n5 b1 b2 b3 b4 e100 e60 cp1 cp2 R0 H0 len
      walk_at "st"
      intro D nD
      simp only [List.set_cons_zero, List.set_cons_succ]
      refine lc_it (walk_tup (K := K) (a := fa) (xs := vs)) (fun i H' => Ok (Same H5 H' ∧ ∃ us, H' D = some (.lst us) ∧ us.length = i ∧ TpAll K H' us (((F.take i).map (shSq mx my)).map sqD))) ⟨Same.new nD, [], upd_same, rfl, .nil⟩ (fun i H' _ ⟨sm, _⟩ => TK.seqT (Same.tk sm) hs) ?_ ?_
      · rintro i x H2 H3 hi ⟨sm, us, hD, lu, hus⟩ ⟨rfl, hx⟩
        have hi : i < F.length := by omega
        have ei : F[i]? = some F[i] := List.getElem?_eq_getElem hi
        have tk1 := take_more ei
        obtain ⟨u, eu, hu⟩ := hvs.get (i := i) (d := sqD F[i]) (by rw [List.getElem?_map, ei]; rfl)
        rw [hx] at eu
        cases eu
        have hu2 := Tp.mono (Same.tk sm) _ _ hu
        generalize F[i] = sq at *
        obtain ⟨pa, rfl, hpa⟩ := hu2.int3
        have hma3 := TK.seqT (Same.tk sm) hma5
        have lt : us.length < sizeLine := Nat.lt_of_le_of_lt (show _ ≤ 1000 by omega) (by decide)
        walk_at "st"
        intro p np
        have s2 : Same H3 (upd H3 p (.tup [.int (sq.1 + mx), .int (sq.2.1 + my), .int sq.2.2])) := Same.new np
        have hD2 := s2 _ _ hD
        have tl := TK.lst (o := .lst (us ++ [V.ref p])) hD2
        refine ⟨us, hD2, lt, ⟨Same.fresh (Same.trans sm s2) nD, us ++ [.ref p], upd_same, by rw [List.length_append]; show _ + 1 = _; omega, ?_⟩⟩
        rw [tk1, List.map_append, List.map_append]
        have f1 : Tp K (upd H3 p (.tup [.int (sq.1 + mx), .int (sq.2.1 + my), .int sq.2.2])) (.ref p) (sqD (shSq mx my sq)) := .tup (SqT.of upd_same) (.cons (.int _) (.cons (.int _) (.cons (.int _) .nil)))
        exact TpAll.append (TpAll.mono (TK.trans (Same.tk s2) tl) _ _ hus) (.cons (Tp.mono tl _ _ f1) .nil)
      · rintro H6 ⟨sm, us, hD, lu, hus⟩
        rw [show vs.length = F.length by omega, List.take_length] at hus
        have hSD := SqL.of (K := K) hD
        walk_at "st"
        intro av nav
        have s7 : Same H6 (upd H6 av (.tup us)) := Same.new nav
        have hav : Tp K (upd H6 av (.tup us)) (.ref av) (floorD (F.map (shSq mx my))) := .tup (SqT.of upd_same) (TpAll.mono (Same.tk s7) _ _ hus)
        have R7 := (R5.same sm).same s7
        have s57 := Same.trans sm s7
        have hma7 := TK.seqT (Same.tk s57) hma5
        have hs7 := TK.seqT (Same.tk s57) hs
        have hvs7 := TpAll.mono (Same.tk s57) _ _ hvs
        generalize upd H6 av (.tup us) = H7 at *
        clear hs hvs hma5 R5 sm hD hus hSD s57 s7 hp5 nav nD lu us
        walk_at "st"
        intro qv H8 q0 q4 R8 k8
        obtain ⟨qn, rfl⟩ := Int.eq_ofNat_of_zero_le q0
        have qn4 : qn < 4 := by omega
        have t8 := k8.row R7
        have hma8 := TK.seqT t8 hma7
        have hs8 := TK.seqT t8 hs7
        have hvs8 := TpAll.mono t8 _ _ hvs7
        have hav8 := Tp.mono t8 _ _ hav
        clear hs7 hvs7 hma7 R7 k8 t8 hav q0 q4
        walk_at "st"
        intro P nP
        simp only [List.set_cons_zero, List.set_cons_succ]
        refine lc_it (walk_tup (K := K) (a := fa) (xs := vs)) (fun i H' => Ok (Same H8 H' ∧ ∃ us, H' P = some (.lst us) ∧ us.length = i ∧ TpAll K H' us (((F.take i).map (rotN qn)).map sqD))) ⟨Same.new nP, [], upd_same, rfl, .nil⟩ (fun i H' _ ⟨sm, _⟩ => TK.seqT (Same.tk sm) hs8) ?_ ?_
        · rintro i x H2 H3 hi ⟨sm, us, hD, lu, hus⟩ ⟨rfl, hx⟩
          have hi : i < F.length := by omega
          have ei : F[i]? = some F[i] := List.getElem?_eq_getElem hi
          have tk1 := take_more ei
          obtain ⟨u, eu, hu⟩ := hvs8.get (i := i) (d := sqD F[i]) (by rw [List.getElem?_map, ei]; rfl)
          rw [hx] at eu
          cases eu
          have hu2 := Tp.mono (Same.tk sm) _ _ hu
          generalize F[i] = sq at *
          obtain ⟨pa, rfl, hpa⟩ := hu2.int3
          have lt : us.length < sizeLine := Nat.lt_of_le_of_lt (show _ ≤ 1000 by omega) (by decide)
          walk_at "st"
          intro p0 n0
          walk_at "st"
          intro p1 n1
          walk_at "st"
          intro p2 n2
          walk_at "st"
          intro p3 n3
          have S1 := Same.new (o := HO.tup [.int sq.1, .int sq.2.1]) n0
          have S2 := Same.new (o := HO.tup [.int (0 - sq.2.1), .int sq.1]) n1
          have S3 := Same.new (o := HO.tup [.int (0 - sq.1), .int (0 - sq.2.1)]) n2
          have S4 := Same.new (o := HO.tup [.int sq.2.1, .int (0 - sq.1)]) n3
          have g0 := S4 _ _ (S3 _ _ (S2 _ _ (upd_same (H := H3) (a := p0) (o := HO.tup [.int sq.1, .int sq.2.1]))))
          have g1 := S4 _ _ (S3 _ _ (upd_same (a := p1) (o := HO.tup [.int (0 - sq.2.1), .int sq.1])))
          have g2 := S4 _ _ (upd_same (a := p2) (o := HO.tup [.int (0 - sq.1), .int (0 - sq.2.1)]))
          have g3 := upd_same (H := upd (upd (upd H3 p0 (.tup [.int sq.1, .int sq.2.1])) p1 (.tup [.int (0 - sq.2.1), .int sq.1])) p2 (.tup [.int (0 - sq.1), .int (0 - sq.2.1)])) (a := p3) (o := HO.tup [.int sq.2.1, .int (0 - sq.1)])
          have S04 := Same.trans S1 (Same.trans S2 (Same.trans S3 S4))
          generalize upd (upd (upd (upd H3 p0 (.tup [.int sq.1, .int sq.2.1])) p1 (.tup [.int (0 - sq.2.1), .int sq.1])) p2 (.tup [.int (0 - sq.1), .int (0 - sq.2.1)])) p3 (.tup [.int sq.2.1, .int (0 - sq.1)]) = H4 at *
          clear S1 S2 S3 S4 n0 n1 n2 n3
          walk_at "st"
          intro L nL
          have S5 := Same.new (o := HO.lst [.ref p0, .ref p1, .ref p2, .ref p3]) nL
          obtain ⟨pq, hpq, hpqv, hcol⟩ := rot_pick qn4 (S5 _ _ g0) (S5 _ _ g1) (S5 _ _ g2) (S5 _ _ g3)
          have hSL := SqL.of (K := K) (upd_same (H := H4) (a := L) (o := HO.lst [.ref p0, .ref p1, .ref p2, .ref p3]))
          have S05 := Same.trans S04 S5
          generalize upd H4 L (.lst [.ref p0, .ref p1, .ref p2, .ref p3]) = H5' at *
          walk_at "st"
          intro t nt
          have S6 := Same.new (o := HO.tup [.int sq.2.2]) nt
          refine catA_of (SqT.of (S6 _ _ hpqv)) (SqT.of upd_same) (by intro z; cases z) (by intro z; cases z) (by show 3 ≤ sizeLine; decide) fun u nu => ?_
          have S7 := Same.new (o := HO.tup ([.int (rotN qn sq).1, .int (rotN qn sq).2.1] ++ [.int sq.2.2])) nu
          have S37 := Same.trans S05 (Same.trans S6 S7)
          have hD7 := S37 _ _ hD
          have tl := TK.lst (o := .lst (us ++ [V.ref u])) hD7
          refine ⟨us, hD7, lt, ⟨Same.fresh (Same.trans sm S37) nP, us ++ [.ref u], upd_same, by rw [List.length_append]; show _ + 1 = _; omega, ?_⟩⟩
          rw [tk1, List.map_append, List.map_append]
          refine TpAll.append (TpAll.mono (TK.trans (Same.tk S37) tl) _ _ hus) (.cons (Tp.mono tl _ _ ?_) .nil)
          rw [← hcol]
          exact .tup (SqT.of upd_same) (.cons (.int _) (.cons (.int _) (.cons (.int _) .nil)))
        · rintro H9 ⟨sm, us, hD, lu, hus⟩
          rw [show vs.length = F.length by omega, List.take_length, ← rotL_map] at hus
          refine hR _ _ ⟨_, _, _, qn, P, F, mx, my, rfl, fl, len9, .tup (TK.seqT (Same.tk sm) hs8) (TpAll.mono (Same.tk sm) _ _ hvs8), .tup (TK.seqT (Same.tk sm) hma8) (.cons (.int _) (.cons (.int _) .nil)), x0, x1, y0, y1, Tp.mono (Same.tk sm) _ _ hav8, qn4, us, hD, hus⟩
    -- >A
    · rintro σ' H1 ⟨fv, mv, av, qn, pl, F, mx, my, rfl, A⟩
      have hfar : FlOk 6 FarI F := A.fl.wide
      have hm : InB FarI (mx, my) := A.mok
      have l1000 : F.length ≤ 1000 := Nat.le_trans A.len (by decide)
      refine seq_ifs false (fun e _ _ => by cases e) (fun _ H2 sm => ?_) (fun Q hQ => ?_)
      rotate_left
      -- <B
      · have hf := A.f
        have hmv := A.m
        walk_at "st"
        rotate_left
        · exact (mx, my)
        refine ⟨hmv, hm, fun v1 H2 hv1 s2 => ?_⟩
        have A2 := A.same s2
        have hf2 := A2.f
        have fo : FloorOf (colF F) F := A2.fl.fl
        have q03 : (0 : Int) ≤ (qn : Int) ∧ (qn : Int) < 4 := ⟨by omega, by have := A2.q4; omega⟩
        obtain ⟨q03, q13⟩ := q03
        walk_at "st"
        intro v2 H3 G hG lG hv2 s3
        rw [Int.toNat_natCast] at hG
        walk_at "st"
        intro L nL
        have sL := Same.new (o := HO.lst [v1, v2]) nL
        have hL := upd_same (H := H3) (a := L) (o := HO.lst [v1, v2])
        have A4 := (A2.same s3).same sL
        have hv1 := Tp.mono (Same.tk (Same.trans s3 sL)) _ _ hv1
        have hv2 := Tp.mono (Same.tk sL) _ _ hv2
        have s14 := Same.trans s2 (Same.trans s3 sL)
        generalize upd H3 L (.lst [v1, v2]) = H4 at *
        obtain ⟨ws, hpl, hws⟩ := A4.pl
        obtain ⟨bs0, e0, e1, hb⟩ := sqs_refs hws
        have hor : SqL K H4 pl (bs0.map fun b => .ref b.1) := SqL.of (by rw [← e0]; exact hpl)
        walk_at "st"
        intro p bs np pm pw
        have pm2 : (bs.map (·.2)).Perm ((rotL qn F).map fun s => [s.1, s.2.1, s.2.2]) := by
          rw [← e1]
          exact pm.map _
        obtain ⟨G2, pG, eG⟩ := perm_lift (fun s : Sq => [s.1, s.2.1, s.2.2]) pm2 _ rfl
        have pwG : G2.Pairwise fun a b => ltZ [b.1, b.2.1, b.2.2] [a.1, a.2.1, a.2.2] = false := by
          have z : (bs.map (·.2)).Pairwise fun x y => ltZ y x = false := List.pairwise_map.mpr pw
          rw [← eG] at z
          exact List.pairwise_map.mp z
        have eGG : G = G2 := hG.uniq ((fo.sqs.rots qn).sorted pG pwG)
        subst eGG
        refine ⟨p, _, rfl, SqL.of upd_same, fun l nl => ?_⟩
        have sP : Same H4 (upd (upd H4 p (.lst (bs.map fun b => .ref b.1))) l (.tup (bs.map fun b => .ref b.1))) := Same.trans (Same.new np) (Same.new nl)
        have hl : Tp K (upd (upd H4 p (.lst (bs.map fun b => .ref b.1))) l (.tup (bs.map fun b => .ref b.1))) (.ref l) (floorD G) := .tup (SqT.of upd_same) (sqs_tp (fun b h => TK.seqT (Same.tk sP) (hb b (pm.mem_iff.mp h)).1) eG.symm)
        have A5 := A4.same sP
        have hL5 := sP _ _ hL
        have hv1 := Tp.mono (Same.tk sP) _ _ hv1
        have hv2 := Tp.mono (Same.tk sP) _ _ hv2
        have s15 := Same.trans s14 sP
        generalize upd (upd H4 p (.lst (bs.map fun b => .ref b.1))) l (.tup (bs.map fun b => .ref b.1)) = H5 at *
        walk_at "st"
        intro M nM
        have sM := Same.new (o := HO.lst [av, .ref l]) nM
        walk_at "st"
        rotate_left
        · exact .list [floorD (F.map (shSq mx my)), floorD G]
        refine ⟨.lst (SqL.of (sM _ _ hL5)) (.cons (Tp.dp _ _ (Tp.mono (Same.tk sM) _ _ hv1)) (.cons (Tp.dp _ _ (Tp.mono (Same.tk sM) _ _ hv2)) .nil)), .lst (SqL.of upd_same) (.cons (Tp.dp _ _ (Tp.mono (Same.tk sM) _ _ A5.far)) (.cons (Tp.dp _ _ (Tp.mono (Same.tk sM) _ _ hl)) .nil)), ⟨by show 2 ≤ 5000; decide, fun d hd => ?_⟩, fun H6 s6 => ⟨_, rfl, hQ _ (Same.trans s15 (Same.trans sM s6))⟩⟩
        simp only [List.mem_cons, List.not_mem_nil, or_false] at hd
        rcases hd with rfl | rfl
        · exact okFl (by rw [List.length_map]; omega)
        · exact okFl (by rw [lG]; omega)
      -- >B
      · replace A := A.same sm
        refine next_seq ?_
        clear sm
        refine seq_assoc ?_
        refine seq_assoc ?_
        refine seq_cutO (fun σ' H' => ∃ (fv mv av ev dv : V) (qn : Nat) (pl : Addr) (y7 y8 : Option V) (F : List Sq) (mx my : Int), σ' = [some (.ref a), some (.ref r), some fv, some mv, some av, some (.int (qn : Nat)), some (.ref pl), y7, y8, some ev, some dv, some (.str (Str.ofString "")), none, none, none, none, none, none, none, none, none, none, none, none] ∧ A1 K H' fv mv av qn pl F mx my ∧ E2 K H' ev dv F) ?_ ?_
        rotate_left
        -- <C
        · intro R hR
          obtain ⟨fa, vs, rfl, hs, hvs⟩ := A.f.tupI
          have lvs : vs.length = F.length := by rw [TpAll.length hvs, List.length_map]
          walk_at "st"
          intro X nX
          refine lc_it (walk_tup (K := K) (a := fa) (xs := vs)) (fun i H' => Ok (Same H2 H' ∧ H' X = some (.lst (((F.take i).map fun s : Sq => s.1).map V.int)))) ⟨Same.new nX, upd_same⟩ (fun i H' _ ⟨s3, _⟩ => TK.seqT (Same.tk s3) hs) ?_ ?_
          · rintro i x H3 H4 hi ⟨s3, hX⟩ ⟨rfl, hx⟩
            have hi : i < F.length := by omega
            have ei : F[i]? = some F[i] := List.getElem?_eq_getElem hi
            have tk1 := take_more ei
            obtain ⟨u, eu, hu⟩ := hvs.get (i := i) (d := sqD F[i]) (by rw [List.getElem?_map, ei]; rfl)
            rw [hx] at eu
            cases eu
            have hu2 := Tp.mono (Same.tk s3) _ _ hu
            generalize F[i] = sq at *
            obtain ⟨pa, rfl, hpa⟩ := hu2.int3
            have lt : (((F.take i).map fun s : Sq => s.1).map V.int).length < sizeLine := by
              rw [List.length_map, List.length_map, List.length_take]
              exact Nat.lt_of_le_of_lt (show _ ≤ 1000 by omega) (by decide)
            walk_at "st"
            exact ⟨Same.fresh s3 nX, by rw [upd_same, tk1, List.map_append, List.map_append]; rfl⟩
          · rintro H3 ⟨s3, hX⟩
            rw [show vs.length = F.length by omega, List.take_length] at hX
            have hSX := SqL.of (K := K) hX
            have len9 := A.len
            have l64 : (F.map fun s : Sq => s.1).length < 64 := by rw [List.length_map]; omega
            walk_at "st"
            intro cs cL pmc pwc ncL
            have s4 := Same.new (o := HO.lst (cs.map V.int)) ncL
            have hcL := upd_same (H := H3) (a := cL) (o := HO.lst (cs.map V.int))
            generalize upd H3 cL (.lst (cs.map V.int)) = H4 at *
            have s24 := Same.trans s3 s4
            have hs4 := TK.seqT (Same.tk s24) hs
            have hvs4 := TpAll.mono (Same.tk s24) _ _ hvs
            walk_at "st"
            intro Y nY
            refine lc_it (walk_tup (K := K) (a := fa) (xs := vs)) (fun i H' => Ok (Same H4 H' ∧ H' Y = some (.lst (((F.take i).map fun s : Sq => s.2.1).map V.int)))) ⟨Same.new nY, upd_same⟩ (fun i H' _ ⟨s5, _⟩ => TK.seqT (Same.tk s5) hs4) ?_ ?_
            · rintro i x H5 H6 hi ⟨s5, hY⟩ ⟨rfl, hx⟩
              have hi : i < F.length := by omega
              have ei : F[i]? = some F[i] := List.getElem?_eq_getElem hi
              have tk1 := take_more ei
              obtain ⟨u, eu, hu⟩ := hvs4.get (i := i) (d := sqD F[i]) (by rw [List.getElem?_map, ei]; rfl)
              rw [hx] at eu
              cases eu
              have hu2 := Tp.mono (Same.tk s5) _ _ hu
              generalize F[i] = sq at *
              obtain ⟨pa, rfl, hpa⟩ := hu2.int3
              have lt : (((F.take i).map fun s : Sq => s.2.1).map V.int).length < sizeLine := by
                rw [List.length_map, List.length_map, List.length_take]
                exact Nat.lt_of_le_of_lt (show _ ≤ 1000 by omega) (by decide)
              walk_at "st"
              exact ⟨Same.fresh s5 nY, by rw [upd_same, tk1, List.map_append, List.map_append]; rfl⟩
            · rintro H5 ⟨s5, hY⟩
              rw [show vs.length = F.length by omega, List.take_length] at hY
              have hSY := SqL.of (K := K) hY
              have l64y : (F.map fun s : Sq => s.2.1).length < 64 := by rw [List.length_map]; omega
              walk_at "st"
              intro rs rL pmr pwr nrL
              have s6 := Same.new (o := HO.lst (rs.map V.int)) nrL
              have hrL := upd_same (H := H5) (a := rL) (o := HO.lst (rs.map V.int))
              generalize upd H5 rL (.lst (rs.map V.int)) = H6 at *
              have s26 := Same.trans s24 (Same.trans s5 s6)
              have A6 := A.same s26
              have hcL6 := (Same.trans s5 s6) _ _ hcL
              have hScL := SqL.of (K := K) hcL6
              have hSrL := SqL.of (K := K) hrL
              clear s3 s4 s24 s5 hX hY hSX hSY hs4 hvs4 hs hvs A nX nY ncL nrL l64 l64y
              refine ⟨_, _, rfl, ?_⟩
              simp only [List.set_cons_zero, List.set_cons_succ]
              have hf6 := A6.f
              have shF := shp_floor F
              have hnil := eqv_nilF F
              walk_at "st"
              intro e1 ne1
              have s7 := Same.new (o := HO.tup []) ne1
              have A7 := A6.same s7
              have hcL7 := s7 _ _ hcL6
              have hrL7 := s7 _ _ hrL
              have hScL := SqL.of (K := K) hcL7
              have hSrL := SqL.of (K := K) hrL7
              have he1 : Dp K (upd H6 e1 (.tup [])) (.ref e1) (.tuple []) := .tup (SqT.of upd_same) .nil
              generalize upd H6 e1 (.tup []) = H7 at *
              refine ⟨floorD F, .tuple [], Tp.dp _ _ A7.f, he1, shF, rfl, ?_⟩
              rw [hnil]
              by_cases ne : F = []
              · rw [decide_eq_true ne]
                walk_at "st"
                intro e2 ne2
                have s8 := Same.new (o := HO.tup [.int 0, .int 0]) ne2
                walk_at "st"
                exact hR _ _ ⟨_, _, _, _, _, qn, pl, _, _, F, mx, my, rfl, A7.same s8, fun _ => ⟨rfl, .tup (SqT.of upd_same) (.cons (.int 0) (.cons (.int 0) .nil))⟩, fun z => absurd ne z⟩
              · rw [decide_eq_false ne]
                obtain ⟨l, t, r', b, bo, i1, i2, i3, i4⟩ := ends_box ne pmc pmr pwc pwr
                walk_at "st"
                intro e2 ne2
                have s8 := Same.new (o := HO.tup [.int l, .int t, .int r', .int b]) ne2
                have he2 := SqT.of (K := K) (upd_same (H := H7) (a := e2) (o := HO.tup [.int l, .int t, .int r', .int b]))
                have A8 := A7.same s8
                generalize upd H7 e2 (.tup [.int l, .int t, .int r', .int b]) = H8 at *
                walk_at "st"
                intro e3 ne3
                have s9 := Same.new (o := HO.tup (cutV [V.int l, .int t, .int r', .int b] none (some 2))) ne3
                walk_at "st"
                exact hR _ _ ⟨_, _, _, _, _, qn, pl, _, _, F, mx, my, rfl, A8.same s9, fun e => absurd e ne, fun _ => ⟨l, t, r', b, bo, .tup (TK.seqT (Same.tk s9) he2) (.cons (.int _) (.cons (.int _) (.cons (.int _) (.cons (.int _) .nil)))), .tup (SqT.of upd_same) (.cons (.int _) (.cons (.int _) .nil))⟩⟩
        -- >C
        · clear A hfar hm l1000
          clear fv mv av pl F mx my qn
          rintro σ' H1 ⟨fv, mv, av, ev, dv, qn, pl, y7, y8, F, mx, my, rfl, A, B⟩
          refine seq_cutO (fun σ' H' => ∃ (fv mv av ev dv : V) (qn : Nat) (pl : Addr) (y7 y8 y12 y13 y14 : Option V) (F : List Sq) (mx my : Int) (z : Str), σ' = [some (.ref a), some (.ref r), some fv, some mv, some av, some (.int (qn : Nat)), some (.ref pl), y7, y8, some ev, some dv, some (.str z), y12, y13, y14, none, none, none, none, none, none, none, none, none] ∧ A1 K H' fv mv av qn pl F mx my ∧ E2 K H' ev dv F ∧ T3 F z) ?_ ?_
          rotate_left
          -- <D
          · intro R hR
            have hf := A.f
            have shF := shp_floor F
            have hnil := eqv_nilF F
            walk_at "st"
            intro e1 ne1
            have s2 := Same.new (o := HO.tup []) ne1
            have A2' := A.same s2
            have B2 := B.same s2
            have he1 : Dp K (upd H1 e1 (.tup [])) (.ref e1) (.tuple []) := .tup (SqT.of upd_same) .nil
            generalize upd H1 e1 (.tup []) = H2 at *
            refine ⟨floorD F, .tuple [], Tp.dp _ _ A2'.f, he1, shF, rfl, ?_⟩
            rw [hnil]
            by_cases ne : F = []
            · rw [decide_eq_true ne]
              walk_at "st"
              exact hR _ _ ⟨_, _, _, _, _, qn, pl, _, _, _, _, _, F, mx, my, _, rfl, A2', B2, fun _ => rfl, fun z => absurd ne z⟩
            · rw [decide_eq_false ne]
              obtain ⟨l, t, r', b, bo, hev, hdv⟩ := B2.e1 ne
              obtain ⟨fr, ⟨l0, l1, l2⟩, t0, t1, t2⟩ := box_rows A2'.fl ne bo
              obtain ⟨ea, evs, rfl, hea, hevs⟩ := hev.tupI
              obtain rfl := hevs.int4
              obtain ⟨fa, vs, rfl, hs, hvs⟩ := A2'.f.tupI
              have lvs : vs.length = F.length := by rw [TpAll.length hvs, List.length_map]
              have len9 := A2'.len
              clear A B hf s2
              walk_at "st"
              intro R12 nR12
              have s3 := Same.new (o := HO.lst []) nR12
              have hea3 := TK.seqT (Same.tk s3) hea
              obtain ⟨k, hk⟩ : ∃ k : Nat, b + 1 - t = (k : Int) := ⟨(b + 1 - t).toNat, by omega⟩
              obtain ⟨w', hw⟩ : ∃ w' : Nat, r' + 1 - l = (w' : Int) := ⟨(r' + 1 - l).toNat, by omega⟩
              rw [show (r' + 1 - l).toNat = w' by omega, show (b - t + 1).toNat = k by omega] at fr
              have hRS := upd_same (H := H2) (a := R12) (o := HO.lst [])
              generalize hH3 : upd H2 R12 (.lst []) = H3 at *
              have hs3 := TK.seqT (Same.tk s3) hs
              have hvs3 := TpAll.mono (Same.tk s3) _ _ hvs
              simp only [List.set_cons_zero, List.set_cons_succ]
              walk_at "st"
              refine for_range (lo := t) (n := (b + 1 - t).toNat) (fun i σ H' => Ok (∃ (y13 y14 : Option V) (zs : List Str), σ = [some (.ref a), some (.ref r), some (.ref fa), some mv, some av, some (.int (qn : Nat)), some (.ref pl), y7, y8, some (.ref ea), some dv, some (.str (Str.ofString "")), some (.ref R12), y13, y14, none, none, none, none, none, none, none, none, none] ∧ Same H2 H' ∧ H' R12 = some (.lst (zs.map V.str)) ∧ zs.map tl = (List.range i).map fun j => wout 0 (rowSq F l t j))) ⟨_, _, [], rfl, s3, hRS, rfl⟩ ?_ ?_
              · rintro i σ H4 hi ⟨y13, y14, zs, rfl, s4, hR4, ez⟩
                have hs4 := TK.seqT (Same.tk s4) hs
                have hvs4 := TpAll.mono (Same.tk s4) _ _ hvs
                have hea4 := TK.seqT (Same.tk s4) hea
                have lzs : zs.length = i := by
                  have z := congrArg List.length ez
                  rw [List.length_map, List.length_map, List.length_range] at z
                  exact z
                have hik : i < k := by omega
                walk_at "st"
                intro D nD
                simp only [List.set_cons_zero, List.set_cons_succ]
                refine lc_it (walk_tup (K := K) (a := fa) (xs := vs)) (fun j H' => Ok (Same H4 H' ∧ ∃ ps : List Addr, H' D = some (.lst (ps.map V.ref)) ∧ ps.length ≤ j ∧ Paired (fun p kv => SqT K H' p [kV kv.1, kv.2]) ps (((F.take j).filter fun s : Sq => decide (s.2.1 = t + (i : Int))).map kvS))) ⟨Same.new nD, [], upd_same, Nat.le_refl _, .nil⟩ (fun j H' _ ⟨s5, _⟩ => TK.seqT (Same.tk s5) hs4) ?_ ?_
                · rintro j x H5 H6 hj ⟨s5, ps, hD, lps, hps⟩ ⟨rfl, hx⟩
                  have hj : j < F.length := by omega
                  have ej : F[j]? = some F[j] := List.getElem?_eq_getElem hj
                  have tk1 := take_more ej
                  obtain ⟨u, eu, hu⟩ := hvs4.get (i := j) (d := sqD F[j]) (by rw [List.getElem?_map, ej]; rfl)
                  rw [hx] at eu
                  cases eu
                  have hu2 := Tp.mono (Same.tk s5) _ _ hu
                  generalize F[j] = sq at *
                  obtain ⟨pa, rfl, hpa⟩ := hu2.int3
                  have lt : (ps.map V.ref).length < sizeLine := by
                    rw [List.length_map]
                    exact Nat.lt_of_le_of_lt (show _ ≤ 1000 by omega) (by decide)
                  walk_at "st"
                  refine ite2 (fun c => ?_) (fun c => ?_)
                  · have c : sq.2.1 = t + (i : Int) := V.int.inj (of_decide_eq_true c)
                    walk_at "st"
                    intro p np
                    have s6 := Same.new (o := HO.tup [.int sq.1, .int sq.2.2]) np
                    have hp6 := upd_same (H := H6) (a := p) (o := HO.tup [.int sq.1, .int sq.2.2])
                    generalize upd H6 p (.tup [.int sq.1, .int sq.2.2]) = H7 at *
                    have hD7 := s6 _ _ hD
                    have tu : TK H7 (upd H7 D (.lst (ps.map V.ref ++ [.ref p]))) := TK.lst hD7
                    refine ⟨_, hD7, lt, ⟨Same.fresh (Same.trans s5 s6) nD, ps ++ [p], by rw [upd_same, List.map_append]; rfl, by rw [List.length_append]; show ps.length + 1 ≤ j + 1; omega, ?_⟩⟩
                    rw [tk1, List.filter_append, List.map_append, List.filter_cons_of_pos (by simpa using c)]
                    refine Paired.snoc (Paired.mapP hps fun p kv h => tu.seqT ((Same.tk s6).seqT h)) ?_
                    exact tu.seqT (SqT.of hp6)
                  · have c : ¬ sq.2.1 = t + (i : Int) := fun m => c (decide_eq_true (congrArg V.int m))
                    walk_at "st"
                    refine ⟨s5, ps, hD, by omega, ?_⟩
                    rw [tk1, List.filter_append, List.filter_cons_of_neg (by simpa using c), List.filter_nil, List.append_nil]
                    exact hps
                · rintro H5 ⟨s5, ps, hD, lps, hps⟩
                  rw [show vs.length = F.length by omega, List.take_length] at hps
                  have hSD := SqL.of (K := K) hD
                  have hR5 := s5 _ _ hR4
                  have hea5 := TK.seqT (Same.tk s5) hea4
                  walk_at "st"
                  intro Dd nDd
                  have s6 := Same.new (o := HO.dK (mergeK [] ((F.filter fun s : Sq => decide (s.2.1 = t + (i : Int))).map kvS))) nDd
                  have hDd := upd_same (H := H5) (a := Dd) (o := HO.dK (mergeK [] ((F.filter fun s : Sq => decide (s.2.1 = t + (i : Int))).map kvS)))
                  generalize upd H5 Dd (.dK (mergeK [] ((F.filter fun s : Sq => decide (s.2.1 = t + (i : Int))).map kvS))) = H6 at *
                  have hR6 := s6 _ _ hR5
                  have hea6 := TK.seqT (Same.tk s6) hea5
                  have s46 := Same.trans s5 s6
                  have rg := row_get (row_pw A2'.fl.asc (t + (i : Int)))
                  have rs := row_signs fr i
                  have rin : ∀ s ∈ F.filter (fun s : Sq => decide (s.2.1 = t + (i : Int))), 1 ≤ s.2.2 ∧ s.2.2 ≤ 5 := fun s hs => by
                    have := (A2'.fl.sq s (List.mem_filter.mp hs).1).2
                    omega
                  have lG : (wout 0 (rowSq F l t i)).length ≤ w' := wout_len _ 0 w' (fr.ok i) (Nat.zero_le _) fun p hp => by
                    unfold rowSq at hp
                    obtain ⟨s, hs, rfl⟩ := List.mem_map.mp hp
                    have h1 := fr.x1 s (List.mem_filter.mp hs).1
                    have h0 := fr.x0 s (List.mem_filter.mp hs).1
                    show (s.1 - l).toNat < w'
                    omega
                  generalize (F.filter fun s : Sq => decide (s.2.1 = t + (i : Int))) = G at *
                  clear s5 s6 hD hps hSD lps nD nDd hR5 hea5
                  walk_at "st"
                  intro E1 nE1
                  refine lc_range (lo := l) (n := (r' + 1 - l).toNat) (fun j H' => Ok (Same H6 H' ∧ H' E1 = some (.lst (((List.range j).map fun q : Nat => (⟨#[sg0 (lookI G (l + (q : Int)))]⟩ : Str)).map V.str)))) ⟨Same.new nE1, upd_same⟩ ?_ ?_
                  · rintro j H7 hj ⟨s7, hE⟩
                    have lt : (((List.range j).map fun q : Nat => (⟨#[sg0 (lookI G (l + (q : Int)))]⟩ : Str)).map V.str).length < sizeLine := by
                      rw [List.length_map, List.length_map, List.length_range]
                      exact Nat.lt_of_le_of_lt (show _ ≤ 1000 by omega) (by decide)
                    have hd7 := s7 _ _ hDd
                    have gd : DGet H7 Dd (.int (l + (j : Int))) ((lookI G (l + (j : Int))).map V.int) := by
                      have z := DGet.k (k := Sum.inl (l + (j : Int))) hd7
                      rw [rg] at z
                      exact z
                    have hat := sg_at (o := lookI G (l + (j : Int))) fun c hc => by
                      obtain ⟨s, hs, rfl⟩ := lookI_mem hc
                      exact rin s hs
                    have hopt : ((lookI G (l + (j : Int))).map V.int).getD (.int 0) = .int ((lookI G (l + (j : Int))).getD 0) := by
                      cases lookI G (l + (j : Int)) <;> rfl
                    walk_at "st"
                    refine ⟨.inl ⟨_, .inl hd7⟩, ?_⟩
                    walk_at "st"
                    refine ⟨Same.fresh s7 nE1, ?_⟩
                    rw [upd_same, List.range_succ, List.map_append, List.map_append]
                    rfl
                  · rintro H7 ⟨s7, hE⟩
                    rw [show (r' + 1 - l).toNat = w' by omega] at hE
                    have hSE := SqL.of (K := K) hE
                    have w7 : w' ≤ 7 := by omega
                    have hR7 := s7 _ _ hR6
                    have lt : (zs.map V.str).length < sizeLine := by
                      rw [List.length_map]
                      exact Nat.lt_of_le_of_lt (show _ ≤ 1000 by omega) (by decide)
                    have hsz : (((List.range w').map fun q : Nat => (⟨#[sg0 (lookI G (l + (q : Int)))]⟩ : Str)).map (·.length)).sum + ((List.range w').map fun q : Nat => (⟨#[sg0 (lookI G (l + (q : Int)))]⟩ : Str)).length * (Str.ofString "").length ≤ 16777216 := by
                      have z := sum_le (fun p : Str => p.length) 1 ((List.range w').map fun q : Nat => (⟨#[sg0 (lookI G (l + (q : Int)))]⟩ : Str)) fun p hp => by
                        obtain ⟨q, _, rfl⟩ := List.mem_map.mp hp
                        exact Nat.le_refl 1
                      rw [List.length_map, List.length_range] at z
                      rw [List.length_map, List.length_range, show (Str.ofString "").length = 0 from rfl]
                      omega
                    have ej : tl (Txt.join (Str.ofString "") ((List.range w').map fun q : Nat => (⟨#[sg0 (lookI G (l + (q : Int)))]⟩ : Str))) = (List.range w').map fun q : Nat => sg0 (lookI G (l + (q : Int))) := by
                      rw [join_eq, tl_join, show tl (Str.ofString "") = [] from rfl, List.map_map]
                      have z := joinL_one ((List.range w').map fun q : Nat => sg0 (lookI G (l + (q : Int))))
                      rw [List.map_map] at z
                      exact z
                    have er : tl (Txt.rstripChars (Txt.join (Str.ofString "") ((List.range w').map fun q : Nat => (⟨#[sg0 (lookI G (l + (q : Int)))]⟩ : Str))) (Str.ofString ".")) = wout 0 (rowSq F l t i) := by
                      rw [← rs]
                      have z := tl_rstrip (Txt.join (Str.ofString "") ((List.range w').map fun q : Nat => (⟨#[sg0 (lookI G (l + (q : Int)))]⟩ : Str))) 46
                      rw [ej] at z
                      exact z
                    have lj : (Txt.join (Str.ofString "") ((List.range w').map fun q : Nat => (⟨#[sg0 (lookI G (l + (q : Int)))]⟩ : Str))).length ≤ sizeLine := by
                      rw [len_tl, ej, List.length_map, List.length_range]
                      exact Nat.le_trans w7 (by decide)
                    walk_at "st"
                    refine ⟨_, _, zs ++ [Txt.rstripChars (Txt.join (Str.ofString "") ((List.range w').map fun q : Nat => (⟨#[sg0 (lookI G (l + (q : Int)))]⟩ : Str))) (Str.ofString ".")], rfl, Same.fresh (Same.trans s4 (Same.trans s46 s7)) nR12, by rw [upd_same, List.map_append]; rfl, ?_⟩
                    rw [List.map_append, ez, List.range_succ, List.map_append]
                    show _ ++ [tl _] = _ ++ [_]
                    rw [er]
              · rintro σ H4 ⟨y13, y14, zs, rfl, s4, hR4, ez⟩
                rw [show (b + 1 - t).toNat = k by omega] at ez
                have hSR4 := SqL.of (K := K) hR4
                have lzs : zs.length = k := by
                  have z := congrArg List.length ez
                  rw [List.length_map, List.length_map, List.length_range] at z
                  exact z
                walk_at "st"
                intro D nD
                refine lc_it (walk_list (K := K) (a := R12) (xs := zs.map V.str)) (fun j H' => Ok (Same H4 H' ∧ ∃ ts : List Str, H' D = some (.lst (ts.map V.str)) ∧ (∀ z ∈ ts, z.length ≤ 18) ∧ ts.map tl = (List.range j).map fun q => runT (rleL (wout 0 (rowSq F l t q))))) ⟨Same.new nD, [], upd_same, fun z hz => absurd hz List.not_mem_nil, rfl⟩ (fun j H' _ ⟨s5, _⟩ => SqL.of (s5 _ _ hR4)) ?_ ?_
                · rintro j x H5 H6 hj ⟨s5, ts, hD, lts, ets⟩ ⟨rfl, hx⟩
                  rw [List.length_map] at hj
                  rw [List.getElem?_map, List.getElem?_eq_getElem hj] at hx
                  obtain rfl := Option.some.inj hx
                  have ezj : tl zs[j] = wout 0 (rowSq F l t j) := by
                    have z := congrArg (fun q : List (List Nat) => q[j]?) ez
                    simp only [List.getElem?_map] at z
                    rw [List.getElem?_eq_getElem hj, List.getElem?_eq_getElem (by rw [List.length_range]; omega), List.getElem_range] at z
                    exact Option.some.inj z
                  generalize zs[j] = zj at *
                  have lG : (wout 0 (rowSq F l t j)).length ≤ w' := wout_len _ 0 w' (fr.ok j) (Nat.zero_le _) fun p hp => by
                    unfold rowSq at hp
                    obtain ⟨s, hs, rfl⟩ := List.mem_map.mp hp
                    have h1 := fr.x1 s (List.mem_filter.mp hs).1
                    have h0 := fr.x0 s (List.mem_filter.mp hs).1
                    show (s.1 - l).toNat < w'
                    omega
                  have lts2 : ts.length = j := by
                    have z := congrArg List.length ets
                    rw [List.length_map, List.length_map, List.length_range] at z
                    exact z
                  have lt : (ts.map V.str).length < sizeLine := by
                    rw [List.length_map]
                    exact Nat.lt_of_le_of_lt (show _ ≤ 1000 by omega) (by decide)
                  have lzj : zj.length ≤ 9 := by
                    rw [len_tl, ezj]
                    omega
                  walk_at "st"
                  intro rz H7 erz s7
                  rw [ezj] at erz
                  have lrz : rz.length ≤ 18 := by
                    rw [len_tl, erz]
                    exact Nat.le_trans (runT_len 9 _ (by omega) (by omega)) (by omega)
                  refine ⟨_, s7 _ _ hD, lt, ⟨Same.fresh (Same.trans s5 s7) nD, ts ++ [rz], by rw [upd_same, List.map_append]; rfl, fun y hy => ?_, ?_⟩⟩
                  · rcases List.mem_append.mp hy with hy | hy
                    · exact lts y hy
                    · rw [List.mem_singleton.mp hy]
                      exact lrz
                  · rw [List.map_append, ets, List.range_succ, List.map_append]
                    show _ ++ [tl rz] = _ ++ [_]
                    rw [erz]
                · rintro H5 ⟨s5, ts, hD, lts, ets⟩
                  rw [List.length_map, lzs] at ets
                  have lts2 : ts.length = k := by
                    have z := congrArg List.length ets
                    rw [List.length_map, List.length_map, List.length_range] at z
                    exact z
                  have hSD := SqL.of (K := K) hD
                  have hsum := sum_le (fun p : Str => p.length) 18 ts lts
                  have hsz : (ts.map (·.length)).sum + ts.length * (Str.ofString "/").length ≤ 16777216 := by
                    rw [show (Str.ofString "/").length = 1 from rfl]
                    omega
                  walk_at "st"
                  refine hR _ _ ⟨_, _, _, _, _, qn, pl, _, _, _, _, _, F, mx, my, _, rfl, A2'.same (Same.trans s4 s5), B2.same (Same.trans s4 s5), fun e => absurd e ne, fun _ l' t' r2 b' bo' => ?_⟩
                  obtain ⟨rfl, rfl, rfl, rfl⟩ := bo.uniq bo'
                  rw [join_eq, tl_join, show tl (Str.ofString "/") = [47] from rfl, joinL_T, ets, show (b - t + 1).toNat = k by omega]
                  unfold writeT
                  congr 1
                  exact List.map_congr_left fun j _ => by rw [rGo_rle (fr.ok j)]
          -- >D
          · clear A B
            clear fv mv av ev dv qn pl y7 y8 F mx my
            rintro σ' H1 ⟨fv, mv, av, ev, dv, qn, pl, y7, y8, y12, y13, y14, F, mx, my, z, rfl, A, B, Tz⟩
            have hfar : FlOk 6 FarI F := A.fl.wide
            have l1000 : F.length ≤ 1000 := Nat.le_trans A.len (by decide)
            refine seq_ifs false (fun e _ _ => by cases e) (fun _ H2 sm => ?_) (fun Q hQ => ?_)
            rotate_left
            -- <E
            · have hf := A.f
              have hokm : FlOk 6 FarI (F.map (shSq mx my)) := A.fl.sh (B' := FarI) (by have := A.mok.1.1; have := A.x0; have := A.x1; have k : (2 : Int) ^ 100 + 3 ≤ FarI := by decide +kernel
                                                                                       exact ⟨by omega, by omega⟩) (by have := A.y0; have := A.y1; have k : (2 : Int) ^ 60 + 3 ≤ FarI := by decide +kernel
                                                                                                                       exact ⟨by omega, by omega⟩)
              have lm20 : (F.map (shSq mx my)).length ≤ 20 := by
                rw [List.length_map]
                exact Nat.le_trans A.len (by decide)
              have shF := shp_floor F
              have hnil := eqv_nilF F
              walk_at "st"
              by_cases he : F = []
              · obtain ⟨rfl, hdv⟩ := B.e0 he
                refine ⟨fun _ H2 s2 => ?_, fun e => absurd he e⟩
                have A2 := A.same s2
                have hav2 := A2.far
                walk_at "st"
                refine ⟨fun _ wv H3 hwv s3 => ?_, fun e => absurd (by rw [he]; rfl) e⟩
                walk_at "st"
                intro L nL
                have s4 := Same.new (o := HO.lst [.non, wv]) nL
                have hL := upd_same (H := H3) (a := L) (o := HO.lst [.non, wv])
                have hwv4 := Tp.mono (Same.tk s4) _ _ hwv
                generalize upd H3 L (.lst [.non, wv]) = H4 at *
                have s14 := Same.trans s2 (Same.trans s3 s4)
                walk_at "st"
                intro e1 ne1
                have s5 := Same.new (o := HO.tup []) ne1
                have he1 : Dp K (upd H4 e1 (.tup [])) (.ref e1) (.tuple []) := .tup (SqT.of upd_same) .nil
                have hL5 := s5 _ _ hL
                have hwv5 := Tp.mono (Same.tk s5) _ _ hwv4
                generalize upd H4 e1 (.tup []) = H5 at *
                have s15 := Same.trans s14 s5
                have A5 := A.same s15
                refine ⟨floorD F, .tuple [], Tp.dp _ _ A5.f, he1, shF, rfl, ?_⟩
                rw [hnil, decide_eq_true he]
                walk_at "st"
                intro e2 ne2
                have s6 := Same.new (o := HO.tup [.int 0, .int 0]) ne2
                have he2 := SqT.of (K := K) (upd_same (H := H5) (a := e2) (o := HO.tup [.int 0, .int 0]))
                walk_at "st"
                intro e3 ne3
                have s7 := Same.new (o := HO.tup [.str z, .ref e2]) ne3
                have he3 := SqT.of (K := K) (upd_same (H := upd H5 e2 (.tup [.int 0, .int 0])) (a := e3) (o := HO.tup [.str z, .ref e2]))
                have he27 := TK.seqT (Same.tk s7) he2
                have s57 := Same.trans s6 s7
                generalize upd (upd H5 e2 (.tup [.int 0, .int 0])) e3 (.tup [.str z, .ref e2]) = H7 at *
                have hL7 := s57 _ _ hL5
                have hwv7 := Tp.mono (Same.tk s57) _ _ hwv5
                walk_at "st"
                intro M nM
                have sM := Same.new (o := HO.lst [.non, .ref e3]) nM
                walk_at "st"
                rotate_left
                · exact .list [.none, .tuple [.str z, .tuple [.int 0, .int 0]]]
                rw [Tz.e0 he] at *
                refine ⟨.lst (SqL.of (sM _ _ hL7)) (.cons .non (.cons (Tp.dp _ _ (Tp.mono (Same.tk sM) _ _ hwv7)) .nil)), .lst (SqL.of upd_same) (.cons .non (.cons (.tup (TK.seqT (Same.tk sM) he3) (.cons (.str _) (.cons (.tup (TK.seqT (Same.tk sM) he27) (.cons (.int 0) (.cons (.int 0) .nil))) .nil))) .nil)), okW, fun H8 s8 => ⟨_, rfl, hQ _ (Same.trans s15 (Same.trans s57 (Same.trans sM s8)))⟩⟩
              · obtain ⟨l, t, r', b, bo, hev, hdv⟩ := B.e1 he
                have hz := Tz.e1 he l t r' b bo
                obtain ⟨_, ⟨l0, l1, l2⟩, t0, t1, t2⟩ := box_rows A.fl he bo
                refine ⟨fun e => absurd e he, fun _ l' t' r2 b' p H2 bo' hp s2 => ?_⟩
                obtain ⟨rfl, rfl, rfl, rfl⟩ := bo.uniq bo'
                have A2 := A.same s2
                have hav2 := A2.far
                walk_at "st"
                refine ⟨fun e => absurd (List.map_eq_nil_iff.mp e) he, fun _ l' t' r2 b' bo' => ?_⟩
                obtain ⟨rfl, rfl, rfl, rfl⟩ := (bo.sh mx my).uniq bo'
                refine ⟨fun _ z' wv H3 hz' hwv s3 => ?_, fun e => absurd ⟨by omega, by omega⟩ e⟩
                rw [show b + my - (t + my) + 1 = b - t + 1 by omega, writeT_sh, ← hz] at hz'
                obtain rfl := ext_tl hz'
                have hp3 := s3 _ _ hp
                walk_at "st"
                intro L nL
                have s4 := Same.new (o := HO.lst [.ref p, wv]) nL
                have hL := upd_same (H := H3) (a := L) (o := HO.lst [.ref p, wv])
                have hwv4 := Tp.mono (Same.tk s4) _ _ hwv
                have hp4 := s4 _ _ hp3
                generalize upd H3 L (.lst [.ref p, wv]) = H4 at *
                have s14 := Same.trans s2 (Same.trans s3 s4)
                walk_at "st"
                intro e1 ne1
                have s5 := Same.new (o := HO.tup []) ne1
                have he1 : Dp K (upd H4 e1 (.tup [])) (.ref e1) (.tuple []) := .tup (SqT.of upd_same) .nil
                have hL5 := s5 _ _ hL
                have hwv5 := Tp.mono (Same.tk s5) _ _ hwv4
                have hp5 := s5 _ _ hp4
                generalize upd H4 e1 (.tup []) = H5 at *
                have s15 := Same.trans s14 s5
                have A5 := A.same s15
                have hev5 := Tp.mono (Same.tk s15) _ _ hev
                obtain ⟨da, rfl, hda⟩ := (Tp.mono (Same.tk s15) _ _ hdv).int2
                obtain ⟨ma, rfl, hma⟩ := A5.m.int2
                refine ⟨floorD F, .tuple [], Tp.dp _ _ A5.f, he1, shF, rfl, ?_⟩
                rw [hnil, decide_eq_false he]
                walk_at "st"
                intro e2 ne2
                have s6 := Same.new (o := HO.tup [.int (l + mx), .int (t + my)]) ne2
                have he2 := SqT.of (K := K) (upd_same (H := H5) (a := e2) (o := HO.tup [.int (l + mx), .int (t + my)]))
                walk_at "st"
                intro e3 ne3
                have s7 := Same.new (o := HO.tup [.str z', .ref e2]) ne3
                have he3 := SqT.of (K := K) (upd_same (H := upd H5 e2 (.tup [.int (l + mx), .int (t + my)])) (a := e3) (o := HO.tup [.str z', .ref e2]))
                have he27 := TK.seqT (Same.tk s7) he2
                have s57 := Same.trans s6 s7
                generalize upd (upd H5 e2 (.tup [.int (l + mx), .int (t + my)])) e3 (.tup [.str z', .ref e2]) = H7 at *
                have hL7 := s57 _ _ hL5
                have hwv7 := Tp.mono (Same.tk s57) _ _ hwv5
                have hp7 := s57 _ _ hp5
                have hev7 := Tp.mono (Same.tk s57) _ _ hev5
                walk_at "st"
                intro M nM
                have sM := Same.new (o := HO.lst [ev, .ref e3]) nM
                walk_at "st"
                rotate_left
                · exact .list [.tuple [.int l, .int t, .int r', .int b], .tuple [.str z', .tuple [.int (l + mx), .int (t + my)]]]
                refine ⟨.lst (SqL.of (sM _ _ hL7)) (.cons (.tup (SqT.of (sM _ _ hp7)) (.cons (.int _) (.cons (.int _) (.cons (.int _) (.cons (.int _) .nil))))) (.cons (Tp.dp _ _ (Tp.mono (Same.tk sM) _ _ hwv7)) .nil)), .lst (SqL.of upd_same) (.cons (Tp.dp _ _ (Tp.mono (Same.tk sM) _ _ hev7)) (.cons (.tup (TK.seqT (Same.tk sM) he3) (.cons (.str _) (.cons (.tup (TK.seqT (Same.tk sM) he27) (.cons (.int _) (.cons (.int _) .nil))) .nil))) .nil)), okW2, fun H8 s8 => ⟨_, rfl, hQ _ (Same.trans s15 (Same.trans s57 (Same.trans sM s8)))⟩⟩
            -- >E
            · replace A := A.same sm
              replace B := B.same sm
              clear sm
              refine next_seq ?_
              obtain ⟨dl, dt, sq, sq1, hdv, hdl, hdt, hr0, pm, hr1, lz⟩ := Tz.back A.fl B
              refine seq_ifs false (fun e _ _ => by cases e) (fun _ H3 sm => ?_) (fun Q hQ => ?_)
              rotate_left
              -- <F
              · have k6 : (6 : Int) ≤ FarI := by decide +kernel
                have okb : FlOk 6 FarI (F.map (shSq (-dl) (-dt))) := A.fl.sh (B' := FarI) ⟨by omega, by omega⟩ ⟨by omega, by omega⟩
                have lz1 : z.length ≤ 100000 := Nat.le_trans lz (by decide)
                walk_at "st"
                refine ⟨fun sq' e v H3 G pg pw hv s3 => ?_, fun p e => by rw [hr0] at e; cases e⟩
                rw [hr0] at e
                obtain rfl := Sum.inr.inj e
                obtain rfl := sorted_sh okb pm pg pw
                have hdv3 := Tp.mono (Same.tk s3) _ _ hdv
                have lb : (F.map (shSq (-dl) (-dt))).length ≤ 1000 := by
                  rw [List.length_map]
                  exact l1000
                have hib : InB FarI (dl, dt) := by
                  have k : (3 : Int) ≤ FarI := by decide +kernel
                  exact ⟨⟨by show -FarI ≤ dl; omega, by show dl ≤ FarI; omega⟩, by show -FarI ≤ dt; omega, by show dt ≤ FarI; omega⟩
                walk_at "st"
                rotate_left
                · exact (dl, dt)
                refine ⟨hdv3, hib, fun v2 H4 hv2 s4 => ?_⟩
                rw [sh_back] at hv2
                have s24 := Same.trans s3 s4
                have A4 := A.same s24
                have shF := (flat_floor 0 F).shp (by decide)
                walk_at "st"
                rotate_left
                · exact floorD F
                · exact floorD F
                refine ⟨Tp.dp _ _ hv2, Tp.dp _ _ A4.f, shF.1, shF.1, ?_⟩
                rw [shF.2]
                have e1z : tl (Str.ofString "1." ++ z) = 49 :: 46 :: tl z := by
                  rw [tl_append]
                  rfl
                have lz2 : (Str.ofString "1.").length + z.length ≤ sizeLine := Nat.le_trans (show 2 + _ ≤ 1000 by omega) (by decide)
                have lz3 : (Str.ofString "1." ++ z).length ≤ 100000 := by
                  rw [len_tl, e1z, List.length_cons, List.length_cons, ← len_tl]
                  omega
                walk_at "st"
                rw [e1z]
                refine ⟨fun sq' e v5 H5 G pg pw hv5 s5 => ?_, fun p e => by rw [hr1] at e; cases e⟩
                obtain ⟨a5, vs5, rfl, ha5, _⟩ := hv5.tupI
                walk_at "st"
                intro p6 H6 s6 hp6
                walk_at "st"
                intro e7 ne7
                have s7 := Same.new (o := HO.tup []) ne7
                refine ⟨.tuple [], .tuple [], .tup (TK.seqT (Same.tk s7) hp6) .nil, .tup (SqT.of upd_same) .nil, rfl, rfl, ?_⟩
                walk_at "st"
                exact hQ _ (Same.trans s24 (Same.trans s5 (Same.trans s6 s7)))
              -- >F
              · refine next_seq ?_
                clear A B Tz hfar l1000 hr0 pm hr1 lz hdv hdl hdt sm
                clear sq sq1
                refine seq_assoc ?_
                refine seq_cutO (fun σ' H' => ∃ (L : Addr) (xs : List V), σ' = [some (.ref a), some (.ref r), some fv, some mv, some av, some (.int (qn : Nat)), some (.ref pl), y7, y8, some ev, some dv, some (.str z), some (.ref L), y13, y14, none, none, none, none, none, none, none, none, none] ∧ H' L = some (.lst xs) ∧ Prs H' xs (lawTx.map fun p => (V.str p.1, plV p.2))) ?_ ?_
                rotate_left
                -- <G
                · intro R hR
                  refine seq_lst (ps := [(tC (.str "f"), .str "f", .int 0), (tC (.str "2"), .str "2", .int 1), (tC (.str "2/"), .str "2/", .int 1), (tC (.str "0a"), .str "0a", .int 1), (tC (.str "00001a"), .str "00001a", .int 5), (tC (.str "0002a"), .str "0002a", .non), (tC (.str "a.//"), .str "a.//", .non)]) (by decide) ?_ ?_
                  · intro p hp H Q h
                    simp only [List.mem_cons, List.not_mem_nil, or_false] at hp
                    rcases hp with rfl | rfl | rfl | rfl | rfl | rfl | rfl <;> exact h
                  intro L1 xs1 H4 s4 hL1 px1
                  simp only [List.set_cons_zero, List.set_cons_succ]
                  refine asg_cat rfl (ps := [(tC (.str "9999.a"), .str "9999.a", .int 5), (tC (.str "9999a"), .str "9999a", .int 0), (tC (.str "a a"), .str "a a", .int 1), (tC (.str "2aA"), .str "2aA", .int 2), (tOp (fun x y H Q => x = .str (Str.ofString "/") ∧ y = .int ((10000 : Nat) : Int) ∧ Q (.str (slashS 10000)) H) (tC (.str "/")) (tC (.int 10000)), .str (slashS 10000), .int 9999), (tOp (fun x y H Q => x = .str (Str.ofString "/") ∧ y = .int ((9999 : Nat) : Int) ∧ Q (.str (slashS 9999)) H) (tC (.str "/")) (tC (.int 9999)), .str (slashS 9999), .non)]) (by decide) ?_ ?_
                  · intro p hp H Q h
                    simp only [List.mem_cons, List.not_mem_nil, or_false] at hp
                    rcases hp with rfl | rfl | rfl | rfl | rfl | rfl
                    · exact h
                    · exact h
                    · exact h
                    · exact h
                    · exact ⟨rfl, rfl, h⟩
                    · exact ⟨rfl, rfl, h⟩
                  intro L2 xs2 H5 s5 hL2 px2
                  refine ⟨L1, L2, xs1, xs2, rfl, rfl, s5 _ _ hL1, hL2, ?_, fun L nL => ?_⟩
                  · rw [px1.1, px2.1]
                    decide
                  · exact hR _ _ ⟨L, xs1 ++ xs2, rfl, upd_same, ((px1.same s5).append px2).same (Same.new nL)⟩
                -- >G
                · rintro σ' H4 ⟨L, xs, rfl, hL, px⟩
                  refine seq_cutO (fun σ' H' => ∃ (y12 y13 y14 y15 y16 y17 y18 : Option V), σ' = [some (.ref a), some (.ref r), some fv, some mv, some av, some (.int (qn : Nat)), some (.ref pl), y7, y8, some ev, some dv, some (.str z), y12, y13, y14, y15, y16, y17, y18, none, none, none, none, none]) ?_ ?_
                  rotate_left
                  -- <I
                  · intro R hR
                    have hSL := SqL.of (K := K) hL
                    walk_at "st"
                    refine for_it (walk_list (K := K) (a := L) (xs := xs)) (fun i σ H' => Ok (∃ y15 y16 y17 y18 : Option V, σ = [some (.ref a), some (.ref r), some fv, some mv, some av, some (.int (qn : Nat)), some (.ref pl), y7, y8, some ev, some dv, some (.str z), some (.ref L), y13, y14, y15, y16, y17, y18, none, none, none, none, none] ∧ Same H4 H')) ⟨_, _, _, _, rfl, Same.refl _⟩ (fun i σ H' _ ⟨_, _, _, _, _, s5⟩ => SqL.of (s5 _ _ hL)) ?_ ?_
                    · rintro i x σ H5 H6 hi ⟨x15, x16, x17, x18, rfl, s5⟩ ⟨rfl, hx⟩
                      have hi2 : i < lawTx.length := by
                        have z := px.1
                        rw [List.length_map] at z
                        omega
                      obtain ⟨pa, hpa1, hpa2⟩ := px.2 i (V.str lawTx[i].1, plV lawTx[i].2) (by rw [List.getElem?_map, List.getElem?_eq_getElem hi2]; rfl)
                      rw [hx] at hpa1
                      obtain rfl := Option.some.inj hpa1
                      obtain ⟨hp, hl⟩ := lawTx_ok lawTx[i] (List.getElem_mem hi2)
                      generalize lawTx[i] = tx at *
                      obtain ⟨tz, tp⟩ := tx
                      have hp : placeF (tl tz) = tp := hp
                      have hl : tz.length ≤ 100000 := hl
                      have hpa := SqT.of (K := K) (s5 _ _ hpa2)
                      walk_at "st"
                      refine ⟨fun sq e v H7 G pg pw hv s7 => ?_, fun pp e d H7 hd s7 => ?_⟩
                      · have e : readF (tl tz) = .inr sq := e
                        have hn : tp = none := by
                          rw [← hp]
                          unfold placeF
                          rw [e]
                        subst hn
                        walk_at "st"
                        intro H8 s8
                        refine ⟨_, rfl, ?_⟩
                        exact ⟨_, _, _, _, rfl, Same.trans s5 (Same.trans s7 s8)⟩
                      · have e : readF (tl tz) = .inl pp := e
                        have hn : tp = some pp := by
                          rw [← hp]
                          unfold placeF
                          rw [e]
                        subst hn
                        refine ⟨true, hxI, fun _ ea na => ?_, fun z => by cases z⟩
                        have hkit := kit_self (K := K) (v := Value.ref CI)
                        have hdok : DOk (some d) H7 := .inr ⟨d, _, rfl, hd⟩
                        walk_at "st"
                        intro H8 s8
                        refine ⟨_, rfl, ?_⟩
                        exact ⟨_, _, _, _, rfl, Same.trans s5 (Same.trans s7 s8)⟩
                    · rintro σ H5 ⟨x15, x16, x17, x18, rfl, s5⟩
                      exact hR _ _ ⟨_, _, _, _, _, _, _, rfl⟩
                  -- >I
                  · rintro σ' H5 ⟨x12, x13, x14, x15, x16, x17, x18, rfl⟩
                    clear px hL
                    walk_at "st"
                    intro t1 n1
                    walk_at "st"
                    intro t2 n2
                    walk_at "st"
                    intro t3 n3
                    have S1 := Same.new (o := HO.tup [.int 0, .int 0, .int 1]) n1
                    have S2 := Same.new (o := HO.tup [.int 9999, .int 0, .int 1]) n2
                    have S3 := Same.new (o := HO.tup [.ref t1, .ref t2]) n3
                    have hT := F1_tp (K := K) (S3 _ _ (S2 _ _ (upd_same (H := H5) (a := t1) (o := HO.tup [.int 0, .int 0, .int 1])))) (S3 _ _ (upd_same (a := t2) (o := HO.tup [.int 9999, .int 0, .int 1]))) (upd_same (a := t3) (o := HO.tup [.ref t1, .ref t2]))
                    have hF := F1_ok (c := 9999) (by decide) (by decide)
                    have lF : (F1 9999).length ≤ 20 := by decide
                    generalize upd (upd (upd H5 t1 (.tup [.int 0, .int 0, .int 1])) t2 (.tup [.int 9999, .int 0, .int 1])) t3 (.tup [.ref t1, .ref t2]) = H6 at *
                    clear S1 S2 S3 n1 n2 n3
                    walk_at "st"
                    refine ⟨fun e => (by cases e), fun _ l t r' b bo => ?_⟩
                    obtain ⟨rfl, rfl, rfl, rfl⟩ := bo.uniq (F1_box (by decide))
                    refine ⟨fun e => absurd e (by decide), fun _ d H7 hd s7 => ?_⟩
                    refine ⟨true, hxM, fun _ ea na => ?_, fun z => by cases z⟩
                    have hkit := kit_self (K := K) (v := Value.ref CM)
                    have hdok : DOk (some d) H7 := .inr ⟨d, _, rfl, hd⟩
                    walk_at "st"
                    intro t1 n1
                    walk_at "st"
                    intro t2 n2
                    walk_at "st"
                    intro t3 n3
                    clear hT hF lF
                    have S1 := Same.new (o := HO.tup [.int 0, .int 0, .int 1]) n1
                    have S2 := Same.new (o := HO.tup [.int 9998, .int 0, .int 1]) n2
                    have S3 := Same.new (o := HO.tup [.ref t1, .ref t2]) n3
                    have hT := F1_tp (K := K) (S3 _ _ (S2 _ _ (upd_same (H := H7) (a := t1) (o := HO.tup [.int 0, .int 0, .int 1])))) (S3 _ _ (upd_same (a := t2) (o := HO.tup [.int 9998, .int 0, .int 1]))) (upd_same (a := t3) (o := HO.tup [.ref t1, .ref t2]))
                    have hF := F1_ok (c := 9998) (by decide) (by decide)
                    have lF : (F1 9998).length ≤ 20 := by decide
                    generalize upd (upd (upd H7 t1 (.tup [.int 0, .int 0, .int 1])) t2 (.tup [.int 9998, .int 0, .int 1])) t3 (.tup [.ref t1, .ref t2]) = H8 at *
                    clear S1 S2 S3 n1 n2 n3
                    walk_at "st"
                    refine ⟨fun e => (by cases e), fun _ l t r' b bo => ?_⟩
                    obtain ⟨rfl, rfl, rfl, rfl⟩ := bo.uniq (F1_box (by decide))
                    refine ⟨fun _ z9 v9 H9 hz9 hv9 s9 => ?_, fun e => absurd ⟨by decide, by decide⟩ e⟩
                    have hz9 : tl z9 = tl (Str.ofString "a9997.a") := hz9.trans F1_text
                    obtain rfl := ext_tl hz9
                    obtain ⟨a9, vs9, rfl, ha9, hvs9⟩ := hv9.tupI
                    obtain ⟨u1, w1, rfl, h1, _⟩ := hvs9.consI
                    obtain rfl := h1.strI
                    walk_at "st"
                    rw [decide_eq_true rfl]
                    exact q _
end

theorem defAt_mk {K : PySem.W.Frag} {mg : Str → Option Value} {h : Heap} {x : Str} {st : Stmt} {ps : List Str} {f : Addr} {od an : Option Addr} {sl : Array (Option Value)} {oc kV dc pm cd ct : Value} (X : K.In h) (G : h.Ns mainGlobals mg) (a : PySem.W.nsIn K mainGlobals x = some (some (.ref f))) (l : K.lookup f = some ⟨oc, od, .func (PySem.W.fnOf x x (defArgs st) (defBody st) (defScope st) .none kV dc pm an cd ct), sl⟩) (c : PySem.W.codeIn K cd x = true) (k : PySem.W.keepIn K (.ref f) = true)
    (hb : ∀ (kV doc pm : Value) (an : Option Addr) (cdv ct : Value) (us : List Value), us.length = ps.length → bindArgs (PySem.W.fnOf x x (defArgs st) (defBody st) (defScope st) .none kV doc pm an cdv ct) ⟨us, []⟩ = pure (ps.zip us)) : DefAt K mg x st ps := by
  have F := fun_mk (st := st) l c k
  exact ⟨f, _, F, PySem.W.mg_of X G a, F.binds hb⟩
theorem metAt_mk {K : PySem.W.Frag} {C : Addr} {m qual : Str} {st : Stmt} {ps : List Str} {f : Addr} {od an : Option Addr} {sl : Array (Option Value)} {oc kV dc pm cd ct : Value} (a : PySem.W.findIn K (.ref C) m = some (some (.ref f))) (t : PySem.W.typeIn K (.ref f) = some (.type "function")) (l : K.lookup f = some ⟨oc, od, .func (PySem.W.fnOf m qual (defArgs st) (defBody st) (defScope st) .none kV dc pm an cd ct), sl⟩) (c : PySem.W.codeIn K cd qual = true) (k : PySem.W.keepIn K (.ref f) = true)
    (hb : ∀ (kV doc pm : Value) (an : Option Addr) (cdv ct : Value) (us : List Value), us.length = ps.length → bindArgs (PySem.W.fnOf m qual (defArgs st) (defBody st) (defScope st) .none kV doc pm an cdv ct) ⟨us, []⟩ = pure (ps.zip us)) : MetAt K C m qual st ps := by
  have F := fun_mk (st := st) l c k
  exact ⟨f, _, a, t, F, F.binds hb⟩
theorem all_mk {P : Program} {w : World} {K : PySem.W.Frag} {h : Heap} {mg : Str → Option Value} {fa : Addr} {f0 : Addr} {od0 an0 : Option Addr} {sl0 : Array (Option Value)} {oc0 kV0 dc0 pm0 cd0 ct0 : Value} {f1 : Addr} {od1 an1 : Option Addr} {sl1 : Array (Option Value)} {oc1 kV1 dc1 pm1 cd1 ct1 : Value} {f2 : Addr} {od2 an2 : Option Addr} {sl2 : Array (Option Value)} {oc2 kV2 dc2 pm2 cd2 ct2 : Value} {f3 : Addr} {od3 an3 : Option Addr} {sl3 : Array (Option Value)} {oc3 kV3 dc3 pm3 cd3 ct3 : Value} {f4 : Addr} {od4 an4 : Option Addr} {sl4 : Array (Option Value)} {oc4 kV4 dc4 pm4 cd4 ct4 : Value} {f5 : Addr} {od5 an5 : Option Addr} {sl5 : Array (Option Value)} {oc5 kV5 dc5 pm5 cd5 ct5 : Value} {f6 : Addr} {od6 an6 : Option Addr} {sl6 : Array (Option Value)} {oc6 kV6 dc6 pm6 cd6 ct6 : Value} {f7 : Addr} {od7 an7 : Option Addr} {sl7 : Array (Option Value)} {oc7 kV7 dc7 pm7 cd7 ct7 : Value} {f8 : Addr} {od8 an8 : Option Addr} {sl8 : Array (Option Value)} {oc8 kV8 dc8 pm8 cd8 ct8 : Value} {f9 : Addr} {od9 an9 : Option Addr} {sl9 : Array (Option Value)} {oc9 kV9 dc9 pm9 cd9 ct9 : Value} {f10 : Addr} {od10 an10 : Option Addr} {sl10 : Array (Option Value)} {oc10 kV10 dc10 pm10 cd10 ct10 : Value} {f11 : Addr} {od11 an11 : Option Addr} {sl11 : Array (Option Value)} {oc11 kV11 dc11 pm11 cd11 ct11 : Value} {f12 : Addr} {od12 an12 : Option Addr} {sl12 : Array (Option Value)} {oc12 kV12 dc12 pm12 cd12 ct12 : Value} {f13 : Addr} {od13 an13 : Option Addr} {sl13 : Array (Option Value)} {oc13 kV13 dc13 pm13 cd13 ct13 : Value} {f14 : Addr} {od14 an14 : Option Addr} {sl14 : Array (Option Value)} {oc14 kV14 dc14 pm14 cd14 ct14 : Value} {f15 : Addr} {od15 an15 : Option Addr} {sl15 : Array (Option Value)} {oc15 kV15 dc15 pm15 cd15 ct15 : Value} {f16 : Addr} {od16 an16 : Option Addr} {sl16 : Array (Option Value)} {oc16 kV16 dc16 pm16 cd16 ct16 : Value} {f17 : Addr} {od17 an17 : Option Addr} {sl17 : Array (Option Value)} {oc17 kV17 dc17 pm17 cd17 ct17 : Value} {f18 : Addr} {od18 an18 : Option Addr} {sl18 : Array (Option Value)} {oc18 kV18 dc18 pm18 cd18 ct18 : Value} {f19 : Addr} {od19 an19 : Option Addr} {sl19 : Array (Option Value)} {oc19 kV19 dc19 pm19 cd19 ct19 : Value} {f20 : Addr} {od20 an20 : Option Addr} {sl20 : Array (Option Value)} {oc20 kV20 dc20 pm20 cd20 ct20 : Value} {f21 : Addr} {od21 an21 : Option Addr} {sl21 : Array (Option Value)} {oc21 kV21 dc21 pm21 cd21 ct21 : Value} {f22 : Addr} {od22 an22 : Option Addr} {sl22 : Array (Option Value)} {oc22 kV22 dc22 pm22 cd22 ct22 : Value} {f23 : Addr} {od23 an23 : Option Addr} {sl23 : Array (Option Value)} {oc23 kV23 dc23 pm23 cd23 ct23 : Value} {t_FAR : Tok} {t_MOST_COLOURS : Tok} {t_FIGURES : Tok} {t_MOST_SQUARES : Tok} {t_LONGEST_SIDE : Tok} {t_MOST_ROWS : Tok} {t_MOST_FIGURES : Tok} {t_SIGNS : Tok} {C_InvalidText : Addr} {nm_InvalidText q_InvalidText : Str} {N_InvalidText : Addr} {bs_InvalidText bm_InvalidText : List Value} {sn_InvalidText : List Str} {sub_InvalidText : List Value} {ab_InvalidText : Bool} {col_InvalidText : Option Bool} {dd_InvalidText : Option Addr} {m0_InvalidText m1_InvalidText m2_InvalidText m3_InvalidText m5_InvalidText : Option Value} {fI_InvalidText : Addr} {odI_InvalidText anI_InvalidText : Option Addr} {slI_InvalidText : Array (Option Value)} {ocI_InvalidText kVI_InvalidText dcI_InvalidText pmI_InvalidText cdI_InvalidText ctI_InvalidText : Value} {C_TooMany : Addr} {nm_TooMany q_TooMany : Str} {N_TooMany : Addr} {bs_TooMany bm_TooMany : List Value} {sn_TooMany : List Str} {sub_TooMany : List Value} {ab_TooMany : Bool} {col_TooMany : Option Bool} {dd_TooMany : Option Addr} {m0_TooMany m1_TooMany m2_TooMany m3_TooMany m5_TooMany : Option Value} {fI_TooMany : Addr} {odI_TooMany anI_TooMany : Option Addr} {slI_TooMany : Array (Option Value)} {ocI_TooMany kVI_TooMany dcI_TooMany pmI_TooMany cdI_TooMany ctI_TooMany : Value} {C_NotText : Addr} {nm_NotText q_NotText : Str} {N_NotText : Addr} {bs_NotText bm_NotText : List Value} {sn_NotText : List Str} {sub_NotText : List Value} {ab_NotText : Bool} {col_NotText : Option Bool} {dd_NotText : Option Addr} {m0_NotText m1_NotText m2_NotText m3_NotText m5_NotText : Option Value} {CW : Addr} (X : K.In h) (G : h.Ns mainGlobals mg) (hfa : mg "law" = some (.ref fa))
    (a0 : PySem.W.nsIn K mainGlobals "is_whole" = some (some (.ref f0)))
    (l0 : K.lookup f0 = some ⟨oc0, od0, .func (PySem.W.fnOf "is_whole" "is_whole" (defArgs s_is_whole) (defBody s_is_whole) (defScope s_is_whole) .none kV0 dc0 pm0 an0 cd0 ct0), sl0⟩)
    (c0 : PySem.W.codeIn K cd0 "is_whole" = true)
    (k0 : PySem.W.keepIn K (.ref f0) = true)
    (a1 : PySem.W.nsIn K mainGlobals "is_place" = some (some (.ref f1)))
    (l1 : K.lookup f1 = some ⟨oc1, od1, .func (PySem.W.fnOf "is_place" "is_place" (defArgs s_is_place) (defBody s_is_place) (defScope s_is_place) .none kV1 dc1 pm1 an1 cd1 ct1), sl1⟩)
    (c1 : PySem.W.codeIn K cd1 "is_place" = true)
    (k1 : PySem.W.keepIn K (.ref f1) = true)
    (a2 : PySem.W.nsIn K mainGlobals "check_number" = some (some (.ref f2)))
    (l2 : K.lookup f2 = some ⟨oc2, od2, .func (PySem.W.fnOf "check_number" "check_number" (defArgs s_check_number) (defBody s_check_number) (defScope s_check_number) .none kV2 dc2 pm2 an2 cd2 ct2), sl2⟩)
    (c2 : PySem.W.codeIn K cd2 "check_number" = true)
    (k2 : PySem.W.keepIn K (.ref f2) = true)
    (a3 : PySem.W.nsIn K mainGlobals "check_place" = some (some (.ref f3)))
    (l3 : K.lookup f3 = some ⟨oc3, od3, .func (PySem.W.fnOf "check_place" "check_place" (defArgs s_check_place) (defBody s_check_place) (defScope s_check_place) .none kV3 dc3 pm3 an3 cd3 ct3), sl3⟩)
    (c3 : PySem.W.codeIn K cd3 "check_place" = true)
    (k3 : PySem.W.keepIn K (.ref f3) = true)
    (a4 : PySem.W.nsIn K mainGlobals "check_text" = some (some (.ref f4)))
    (l4 : K.lookup f4 = some ⟨oc4, od4, .func (PySem.W.fnOf "check_text" "check_text" (defArgs s_check_text) (defBody s_check_text) (defScope s_check_text) .none kV4 dc4 pm4 an4 cd4 ct4), sl4⟩)
    (c4 : PySem.W.codeIn K cd4 "check_text" = true)
    (k4 : PySem.W.keepIn K (.ref f4) = true)
    (a5 : PySem.W.nsIn K mainGlobals "moved" = some (some (.ref f5)))
    (l5 : K.lookup f5 = some ⟨oc5, od5, .func (PySem.W.fnOf "moved" "moved" (defArgs s_moved) (defBody s_moved) (defScope s_moved) .none kV5 dc5 pm5 an5 cd5 ct5), sl5⟩)
    (c5 : PySem.W.codeIn K cd5 "moved" = true)
    (k5 : PySem.W.keepIn K (.ref f5) = true)
    (a6 : PySem.W.nsIn K mainGlobals "turned" = some (some (.ref f6)))
    (l6 : K.lookup f6 = some ⟨oc6, od6, .func (PySem.W.fnOf "turned" "turned" (defArgs s_turned) (defBody s_turned) (defScope s_turned) .none kV6 dc6 pm6 an6 cd6 ct6), sl6⟩)
    (c6 : PySem.W.codeIn K cd6 "turned" = true)
    (k6 : PySem.W.keepIn K (.ref f6) = true)
    (a7 : PySem.W.nsIn K mainGlobals "box" = some (some (.ref f7)))
    (l7 : K.lookup f7 = some ⟨oc7, od7, .func (PySem.W.fnOf "box" "box" (defArgs s_box) (defBody s_box) (defScope s_box) .none kV7 dc7 pm7 an7 cd7 ct7), sl7⟩)
    (c7 : PySem.W.codeIn K cd7 "box" = true)
    (k7 : PySem.W.keepIn K (.ref f7) = true)
    (a8 : PySem.W.nsIn K mainGlobals "write_floor" = some (some (.ref f8)))
    (l8 : K.lookup f8 = some ⟨oc8, od8, .func (PySem.W.fnOf "write_floor" "write_floor" (defArgs s_write_floor) (defBody s_write_floor) (defScope s_write_floor) .none kV8 dc8 pm8 an8 cd8 ct8), sl8⟩)
    (c8 : PySem.W.codeIn K cd8 "write_floor" = true)
    (k8 : PySem.W.keepIn K (.ref f8) = true)
    (a9 : PySem.W.nsIn K mainGlobals "read_floor" = some (some (.ref f9)))
    (l9 : K.lookup f9 = some ⟨oc9, od9, .func (PySem.W.fnOf "read_floor" "read_floor" (defArgs s_read_floor) (defBody s_read_floor) (defScope s_read_floor) .none kV9 dc9 pm9 an9 cd9 ct9), sl9⟩)
    (c9 : PySem.W.codeIn K cd9 "read_floor" = true)
    (k9 : PySem.W.keepIn K (.ref f9) = true)
    (a10 : PySem.W.nsIn K mainGlobals "check_floor" = some (some (.ref f10)))
    (l10 : K.lookup f10 = some ⟨oc10, od10, .func (PySem.W.fnOf "check_floor" "check_floor" (defArgs s_check_floor) (defBody s_check_floor) (defScope s_check_floor) .none kV10 dc10 pm10 an10 cd10 ct10), sl10⟩)
    (c10 : PySem.W.codeIn K cd10 "check_floor" = true)
    (k10 : PySem.W.keepIn K (.ref f10) = true)
    (a11 : PySem.W.nsIn K mainGlobals "box_of" = some (some (.ref f11)))
    (l11 : K.lookup f11 = some ⟨oc11, od11, .func (PySem.W.fnOf "box_of" "box_of" (defArgs s_box_of) (defBody s_box_of) (defScope s_box_of) .none kV11 dc11 pm11 an11 cd11 ct11), sl11⟩)
    (c11 : PySem.W.codeIn K cd11 "box_of" = true)
    (k11 : PySem.W.keepIn K (.ref f11) = true)
    (a12 : PySem.W.nsIn K mainGlobals "_moved_by" = some (some (.ref f12)))
    (l12 : K.lookup f12 = some ⟨oc12, od12, .func (PySem.W.fnOf "_moved_by" "_moved_by" (defArgs s_u_moved_by) (defBody s_u_moved_by) (defScope s_u_moved_by) .none kV12 dc12 pm12 an12 cd12 ct12), sl12⟩)
    (c12 : PySem.W.codeIn K cd12 "_moved_by" = true)
    (k12 : PySem.W.keepIn K (.ref f12) = true)
    (a13 : PySem.W.nsIn K mainGlobals "_is_square" = some (some (.ref f13)))
    (l13 : K.lookup f13 = some ⟨oc13, od13, .func (PySem.W.fnOf "_is_square" "_is_square" (defArgs s_u_is_square) (defBody s_u_is_square) (defScope s_u_is_square) .none kV13 dc13 pm13 an13 cd13 ct13), sl13⟩)
    (c13 : PySem.W.codeIn K cd13 "_is_square" = true)
    (k13 : PySem.W.keepIn K (.ref f13) = true)
    (a14 : PySem.W.nsIn K mainGlobals "_row_text" = some (some (.ref f14)))
    (l14 : K.lookup f14 = some ⟨oc14, od14, .func (PySem.W.fnOf "_row_text" "_row_text" (defArgs s_u_row_text) (defBody s_u_row_text) (defScope s_u_row_text) .none kV14 dc14 pm14 an14 cd14 ct14), sl14⟩)
    (c14 : PySem.W.codeIn K cd14 "_row_text" = true)
    (k14 : PySem.W.keepIn K (.ref f14) = true)
    (a15 : PySem.W.nsIn K mainGlobals "_behind_figures" = some (some (.ref f15)))
    (l15 : K.lookup f15 = some ⟨oc15, od15, .func (PySem.W.fnOf "_behind_figures" "_behind_figures" (defArgs s_u_behind_figures) (defBody s_u_behind_figures) (defScope s_u_behind_figures) .none kV15 dc15 pm15 an15 cd15 ct15), sl15⟩)
    (c15 : PySem.W.codeIn K cd15 "_behind_figures" = true)
    (k15 : PySem.W.keepIn K (.ref f15) = true)
    (a16 : PySem.W.nsIn K mainGlobals "_run_length" = some (some (.ref f16)))
    (l16 : K.lookup f16 = some ⟨oc16, od16, .func (PySem.W.fnOf "_run_length" "_run_length" (defArgs s_u_run_length) (defBody s_u_run_length) (defScope s_u_run_length) .none kV16 dc16 pm16 an16 cd16 ct16), sl16⟩)
    (c16 : PySem.W.codeIn K cd16 "_run_length" = true)
    (k16 : PySem.W.keepIn K (.ref f16) = true)
    (a17 : PySem.W.nsIn K mainGlobals "_run_squares" = some (some (.ref f17)))
    (l17 : K.lookup f17 = some ⟨oc17, od17, .func (PySem.W.fnOf "_run_squares" "_run_squares" (defArgs s_u_run_squares) (defBody s_u_run_squares) (defScope s_u_run_squares) .none kV17 dc17 pm17 an17 cd17 ct17), sl17⟩)
    (c17 : PySem.W.codeIn K cd17 "_run_squares" = true)
    (k17 : PySem.W.keepIn K (.ref f17) = true)
    (a18 : PySem.W.nsIn K mainGlobals "_law_taken" = some (some (.ref f18)))
    (l18 : K.lookup f18 = some ⟨oc18, od18, .func (PySem.W.fnOf "_law_taken" "_law_taken" (defArgs s_law_taken) (defBody s_law_taken) (defScope s_law_taken) .none kV18 dc18 pm18 an18 cd18 ct18), sl18⟩)
    (c18 : PySem.W.codeIn K cd18 "_law_taken" = true)
    (k18 : PySem.W.keepIn K (.ref f18) = true)
    (a19 : PySem.W.nsIn K mainGlobals "_law_signed" = some (some (.ref f19)))
    (l19 : K.lookup f19 = some ⟨oc19, od19, .func (PySem.W.fnOf "_law_signed" "_law_signed" (defArgs s_law_signed) (defBody s_law_signed) (defScope s_law_signed) .none kV19 dc19 pm19 an19 cd19 ct19), sl19⟩)
    (c19 : PySem.W.codeIn K cd19 "_law_signed" = true)
    (k19 : PySem.W.keepIn K (.ref f19) = true)
    (a20 : PySem.W.nsIn K mainGlobals "_law_some_floor" = some (some (.ref f20)))
    (l20 : K.lookup f20 = some ⟨oc20, od20, .func (PySem.W.fnOf "_law_some_floor" "_law_some_floor" (defArgs s_law_some_floor) (defBody s_law_some_floor) (defScope s_law_some_floor) .none kV20 dc20 pm20 an20 cd20 ct20), sl20⟩)
    (c20 : PySem.W.codeIn K cd20 "_law_some_floor" = true)
    (k20 : PySem.W.keepIn K (.ref f20) = true)
    (a21 : PySem.W.nsIn K mainGlobals "_law_alike" = some (some (.ref f21)))
    (l21 : K.lookup f21 = some ⟨oc21, od21, .func (PySem.W.fnOf "_law_alike" "_law_alike" (defArgs s_law_alike) (defBody s_law_alike) (defScope s_law_alike) .none kV21 dc21 pm21 an21 cd21 ct21), sl21⟩)
    (c21 : PySem.W.codeIn K cd21 "_law_alike" = true)
    (k21 : PySem.W.keepIn K (.ref f21) = true)
    (a22 : PySem.W.nsIn K mainGlobals "_law_runs" = some (some (.ref f22)))
    (l22 : K.lookup f22 = some ⟨oc22, od22, .func (PySem.W.fnOf "_law_runs" "_law_runs" (defArgs s_law_runs) (defBody s_law_runs) (defScope s_law_runs) .none kV22 dc22 pm22 an22 cd22 ct22), sl22⟩)
    (c22 : PySem.W.codeIn K cd22 "_law_runs" = true)
    (k22 : PySem.W.keepIn K (.ref f22) = true)
    (a23 : PySem.W.nsIn K mainGlobals "law" = some (some (.ref f23)))
    (l23 : K.lookup f23 = some ⟨oc23, od23, .func (PySem.W.fnOf "law" "law" (defArgs s_law) (defBody s_law) (defScope s_law) .none kV23 dc23 pm23 an23 cd23 ct23), sl23⟩)
    (c23 : PySem.W.codeIn K cd23 "law" = true)
    (k23 : PySem.W.keepIn K (.ref f23) = true)
    (z_ValueError : PySem.W.nsIn K mainGlobals "ValueError" = some none)
    (z_bool : PySem.W.nsIn K mainGlobals "bool" = some none)
    (z_dict : PySem.W.nsIn K mainGlobals "dict" = some none)
    (z_enumerate : PySem.W.nsIn K mainGlobals "enumerate" = some none)
    (z_int : PySem.W.nsIn K mainGlobals "int" = some none)
    (z_isinstance : PySem.W.nsIn K mainGlobals "isinstance" = some none)
    (z_len : PySem.W.nsIn K mainGlobals "len" = some none)
    (z_list : PySem.W.nsIn K mainGlobals "list" = some none)
    (z_max : PySem.W.nsIn K mainGlobals "max" = some none)
    (z_min : PySem.W.nsIn K mainGlobals "min" = some none)
    (z_range : PySem.W.nsIn K mainGlobals "range" = some none)
    (z_sorted : PySem.W.nsIn K mainGlobals "sorted" = some none)
    (z_str : PySem.W.nsIn K mainGlobals "str" = some none)
    (z_tuple : PySem.W.nsIn K mainGlobals "tuple" = some none)
    (g_FAR : PySem.W.nsIn K mainGlobals "FAR" = some (some (.int 1000000000000000000000000000000000000000000000000000000000000 t_FAR)))
    (g_MOST_COLOURS : PySem.W.nsIn K mainGlobals "MOST_COLOURS" = some (some (.int 6 t_MOST_COLOURS)))
    (g_FIGURES : PySem.W.nsIn K mainGlobals "FIGURES" = some (some (.str "0123456789" t_FIGURES)))
    (g_MOST_SQUARES : PySem.W.nsIn K mainGlobals "MOST_SQUARES" = some (some (.int 4000 t_MOST_SQUARES)))
    (g_LONGEST_SIDE : PySem.W.nsIn K mainGlobals "LONGEST_SIDE" = some (some (.int 9999 t_LONGEST_SIDE)))
    (g_MOST_ROWS : PySem.W.nsIn K mainGlobals "MOST_ROWS" = some (some (.int 10000 t_MOST_ROWS)))
    (g_MOST_FIGURES : PySem.W.nsIn K mainGlobals "MOST_FIGURES" = some (some (.int 4 t_MOST_FIGURES)))
    (g_SIGNS : PySem.W.nsIn K mainGlobals "SIGNS" = some (some (.str ".abcde" t_SIGNS)))
    (a_InvalidText : PySem.W.nsIn K mainGlobals "InvalidText" = some (some (.ref C_InvalidText)))
    (xL_InvalidText : K.lookup C_InvalidText = some (PySem.excClassObj nm_InvalidText q_InvalidText C_InvalidText N_InvalidText bs_InvalidText bm_InvalidText true sn_InvalidText sub_InvalidText ab_InvalidText col_InvalidText dd_InvalidText m0_InvalidText m1_InvalidText m2_InvalidText m3_InvalidText m5_InvalidText "ValueError.__new__"))
    (rv_InvalidText : PySem.HandSPX.refsVE bm_InvalidText = true)
    (sa_InvalidText : PySem.W.findIn K (.ref C_InvalidText) "__setattr__" = some (some (.builtin "object.__setattr__")))
    (ga_InvalidText : PySem.W.findIn K (.ref C_InvalidText) "__getattribute__" = some (some (.builtin "BaseException.__getattribute__")))
    (gg_InvalidText : PySem.W.findIn K (.ref C_InvalidText) "__getattr__" = some none)
    (ha_InvalidText : PySem.W.findIn K (.ref C_InvalidText) "__class__" = some (some (.builtin "object.__class__")))
    (eC_InvalidText : PySem.W.subIn K (.ref C_InvalidText) (.type "BaseException") = some true)
    (tC_InvalidText : PySem.W.typeIn K (.ref C_InvalidText) = some (.type "type"))
    (kC_InvalidText : PySem.W.keepIn K (.ref C_InvalidText) = true)
    (hC_InvalidText : PySem.W.hasDictIn K C_InvalidText = true)
    (hm_InvalidText : PySem.W.mroIn K C_InvalidText (.type "object") = some true)
    (iA_InvalidText : PySem.W.findIn K (.ref C_InvalidText) "__init__" = some (some (.ref fI_InvalidText)))
    (iT_InvalidText : PySem.W.typeIn K (.ref fI_InvalidText) = some (.type "function"))
    (iL_InvalidText : K.lookup fI_InvalidText = some ⟨ocI_InvalidText, odI_InvalidText, .func (PySem.W.fnOf "__init__" "InvalidText.__init__" (defArgs s_InvalidText_init) (defBody s_InvalidText_init) (defScope s_InvalidText_init) .none kVI_InvalidText dcI_InvalidText pmI_InvalidText anI_InvalidText cdI_InvalidText ctI_InvalidText), slI_InvalidText⟩)
    (iC_InvalidText : PySem.W.codeIn K cdI_InvalidText "InvalidText.__init__" = true)
    (iK_InvalidText : PySem.W.keepIn K (.ref fI_InvalidText) = true)
    (no_InvalidText : PySem.W.findIn K (.ref C_InvalidText) "place" = some none)
    (a_TooMany : PySem.W.nsIn K mainGlobals "TooMany" = some (some (.ref C_TooMany)))
    (xL_TooMany : K.lookup C_TooMany = some (PySem.excClassObj nm_TooMany q_TooMany C_TooMany N_TooMany bs_TooMany bm_TooMany true sn_TooMany sub_TooMany ab_TooMany col_TooMany dd_TooMany m0_TooMany m1_TooMany m2_TooMany m3_TooMany m5_TooMany "ValueError.__new__"))
    (rv_TooMany : PySem.HandSPX.refsVE bm_TooMany = true)
    (sa_TooMany : PySem.W.findIn K (.ref C_TooMany) "__setattr__" = some (some (.builtin "object.__setattr__")))
    (ga_TooMany : PySem.W.findIn K (.ref C_TooMany) "__getattribute__" = some (some (.builtin "BaseException.__getattribute__")))
    (gg_TooMany : PySem.W.findIn K (.ref C_TooMany) "__getattr__" = some none)
    (ha_TooMany : PySem.W.findIn K (.ref C_TooMany) "__class__" = some (some (.builtin "object.__class__")))
    (eC_TooMany : PySem.W.subIn K (.ref C_TooMany) (.type "BaseException") = some true)
    (tC_TooMany : PySem.W.typeIn K (.ref C_TooMany) = some (.type "type"))
    (kC_TooMany : PySem.W.keepIn K (.ref C_TooMany) = true)
    (hC_TooMany : PySem.W.hasDictIn K C_TooMany = true)
    (hm_TooMany : PySem.W.mroIn K C_TooMany (.type "object") = some true)
    (iA_TooMany : PySem.W.findIn K (.ref C_TooMany) "__init__" = some (some (.ref fI_TooMany)))
    (iT_TooMany : PySem.W.typeIn K (.ref fI_TooMany) = some (.type "function"))
    (iL_TooMany : K.lookup fI_TooMany = some ⟨ocI_TooMany, odI_TooMany, .func (PySem.W.fnOf "__init__" "TooMany.__init__" (defArgs s_TooMany_init) (defBody s_TooMany_init) (defScope s_TooMany_init) .none kVI_TooMany dcI_TooMany pmI_TooMany anI_TooMany cdI_TooMany ctI_TooMany), slI_TooMany⟩)
    (iC_TooMany : PySem.W.codeIn K cdI_TooMany "TooMany.__init__" = true)
    (iK_TooMany : PySem.W.keepIn K (.ref fI_TooMany) = true)
    (no_TooMany : PySem.W.findIn K (.ref C_TooMany) "most" = some none)
    (a_NotText : PySem.W.nsIn K mainGlobals "NotText" = some (some (.ref C_NotText)))
    (xL_NotText : K.lookup C_NotText = some (PySem.excClassObj nm_NotText q_NotText C_NotText N_NotText bs_NotText bm_NotText true sn_NotText sub_NotText ab_NotText col_NotText dd_NotText m0_NotText m1_NotText m2_NotText m3_NotText m5_NotText "ValueError.__new__"))
    (rv_NotText : PySem.HandSPX.refsVE bm_NotText = true)
    (sa_NotText : PySem.W.findIn K (.ref C_NotText) "__setattr__" = some (some (.builtin "object.__setattr__")))
    (ga_NotText : PySem.W.findIn K (.ref C_NotText) "__getattribute__" = some (some (.builtin "BaseException.__getattribute__")))
    (gg_NotText : PySem.W.findIn K (.ref C_NotText) "__getattr__" = some none)
    (ha_NotText : PySem.W.findIn K (.ref C_NotText) "__class__" = some (some (.builtin "object.__class__")))
    (eC_NotText : PySem.W.subIn K (.ref C_NotText) (.type "BaseException") = some true)
    (tC_NotText : PySem.W.typeIn K (.ref C_NotText) = some (.type "type"))
    (kC_NotText : PySem.W.keepIn K (.ref C_NotText) = true)
    (hC_NotText : PySem.W.hasDictIn K C_NotText = true)
    (hm_NotText : PySem.W.mroIn K C_NotText (.type "object") = some true)
    (xP_NotText : PySem.W.excIn K C_NotText [.type "ValueError", .type "Exception", .type "BaseException", .type "object"] "ValueError.__new__" = true)
    (xhn : PySem.W.specialIn K (.builtin "object.__class__") "__get__" = some (some (.builtin "getset_descriptor.__get__")))
    (xht : PySem.W.takesIn K (.builtin "object.__class__") = some true)
    (wA : PySem.W.nsIn K mainGlobals "WalkError" = some (some (.ref CW)))
    (wE : PySem.W.subIn K (.ref CW) (.type "BaseException") = some true)
    (wD : PySem.W.hasDictIn K CW = true)
    (wT : PySem.W.typeIn K (.ref CW) = some (.type "type"))
    (wS_InvalidText : PySem.W.subIn K (.ref C_InvalidText) (.ref CW) = some true)
    (wS_TooMany : PySem.W.subIn K (.ref C_TooMany) (.ref CW) = some true)
    (wS_NotText : PySem.W.subIn K (.ref C_NotText) (.ref CW) = some true)
    : ∃ fd : FuncData, (∀ (s : Shared) (v : Value), BindsTo s fd ⟨[v], []⟩ [("script", v)]) ∧ ∀ base : Heap, K.In base → base.Ns mainGlobals mg → FnOk P w K mg base CX0 7 fa fd ["script"] (spLaw K) := by
  have e := hfa.symm.trans (PySem.W.mg_of X G a23)
  cases e
  have D_is_whole : DefAt K mg "is_whole" s_is_whole ["value", "least", "greatest"] := defAt_mk X G a0 l0 c0 k0 (fun _ _ _ _ _ _ us hl => match us, hl with | [_, _, _], _ => rfl)
  have D_is_place : DefAt K mg "is_place" s_is_place ["value"] := defAt_mk X G a1 l1 c1 k1 (fun _ _ _ _ _ _ us hl => match us, hl with | [_], _ => rfl)
  have D_check_number : DefAt K mg "check_number" s_check_number ["value", "least", "greatest"] := defAt_mk X G a2 l2 c2 k2 (fun _ _ _ _ _ _ us hl => match us, hl with | [_, _, _], _ => rfl)
  have D_check_place : DefAt K mg "check_place" s_check_place ["value"] := defAt_mk X G a3 l3 c3 k3 (fun _ _ _ _ _ _ us hl => match us, hl with | [_], _ => rfl)
  have D_check_text : DefAt K mg "check_text" s_check_text ["value"] := defAt_mk X G a4 l4 c4 k4 (fun _ _ _ _ _ _ us hl => match us, hl with | [_], _ => rfl)
  have D_moved : DefAt K mg "moved" s_moved ["floor", "move"] := defAt_mk X G a5 l5 c5 k5 (fun _ _ _ _ _ _ us hl => match us, hl with | [_, _], _ => rfl)
  have D_turned : DefAt K mg "turned" s_turned ["floor", "quarters"] := defAt_mk X G a6 l6 c6 k6 (fun _ _ _ _ _ _ us hl => match us, hl with | [_, _], _ => rfl)
  have D_box : DefAt K mg "box" s_box ["floor"] := defAt_mk X G a7 l7 c7 k7 (fun _ _ _ _ _ _ us hl => match us, hl with | [_], _ => rfl)
  have D_write_floor : DefAt K mg "write_floor" s_write_floor ["floor"] := defAt_mk X G a8 l8 c8 k8 (fun _ _ _ _ _ _ us hl => match us, hl with | [_], _ => rfl)
  have D_read_floor : DefAt K mg "read_floor" s_read_floor ["text"] := defAt_mk X G a9 l9 c9 k9 (fun _ _ _ _ _ _ us hl => match us, hl with | [_], _ => rfl)
  have D_check_floor : DefAt K mg "check_floor" s_check_floor ["value", "colours"] := defAt_mk X G a10 l10 c10 k10 (fun _ _ _ _ _ _ us hl => match us, hl with | [_, _], _ => rfl)
  have D_box_of : DefAt K mg "box_of" s_box_of ["places"] := defAt_mk X G a11 l11 c11 k11 (fun _ _ _ _ _ _ us hl => match us, hl with | [_], _ => rfl)
  have D_moved_by : DefAt K mg "_moved_by" s_u_moved_by ["floor", "dx", "dy"] := defAt_mk X G a12 l12 c12 k12 (fun _ _ _ _ _ _ us hl => match us, hl with | [_, _, _], _ => rfl)
  have D_is_square : DefAt K mg "_is_square" s_u_is_square ["value", "colours"] := defAt_mk X G a13 l13 c13 k13 (fun _ _ _ _ _ _ us hl => match us, hl with | [_, _], _ => rfl)
  have D_row_text : DefAt K mg "_row_text" s_u_row_text ["row"] := defAt_mk X G a14 l14 c14 k14 (fun _ _ _ _ _ _ us hl => match us, hl with | [_], _ => rfl)
  have D_behind_figures : DefAt K mg "_behind_figures" s_u_behind_figures ["text", "at"] := defAt_mk X G a15 l15 c15 k15 (fun _ _ _ _ _ _ us hl => match us, hl with | [_, _], _ => rfl)
  have D_run_length : DefAt K mg "_run_length" s_u_run_length ["text", "at", "sign_at"] := defAt_mk X G a16 l16 c16 k16 (fun _ _ _ _ _ _ us hl => match us, hl with | [_, _, _], _ => rfl)
  have D_run_squares : DefAt K mg "_run_squares" s_u_run_squares ["x", "y", "sign", "many"] := defAt_mk X G a17 l17 c17 k17 (fun _ _ _ _ _ _ us hl => match us, hl with | [_, _, _, _], _ => rfl)
  have D_law_taken : DefAt K mg "_law_taken" s_law_taken ["row", "many"] := defAt_mk X G a18 l18 c18 k18 (fun _ _ _ _ _ _ us hl => match us, hl with | [_, _], _ => rfl)
  have D_law_signed : DefAt K mg "_law_signed" s_law_signed ["row", "most"] := defAt_mk X G a19 l19 c19 k19 (fun _ _ _ _ _ _ us hl => match us, hl with | [_, _], _ => rfl)
  have D_law_some_floor : DefAt K mg "_law_some_floor" s_law_some_floor ["row", "colours", "most"] := defAt_mk X G a20 l20 c20 k20 (fun _ _ _ _ _ _ us hl => match us, hl with | [_, _, _], _ => rfl)
  have D_law_alike : DefAt K mg "_law_alike" s_law_alike ["found", "due"] := defAt_mk X G a21 l21 c21 k21 (fun _ _ _ _ _ _ us hl => match us, hl with | [_, _], _ => rfl)
  have D_law_runs : DefAt K mg "_law_runs" s_law_runs ["signs"] := defAt_mk X G a22 l22 c22 k22 (fun _ _ _ _ _ _ us hl => match us, hl with | [_], _ => rfl)
  have F_law : Fun K "law" "law" s_law _ _ := fun_mk (st := s_law) l23 c23 k23
  have T : Txt K mg := ⟨PySem.W.mg_none_of X G z_ValueError, PySem.W.mg_none_of X G z_bool, PySem.W.mg_none_of X G z_dict, PySem.W.mg_none_of X G z_enumerate, PySem.W.mg_none_of X G z_int, PySem.W.mg_none_of X G z_isinstance, PySem.W.mg_none_of X G z_len, PySem.W.mg_none_of X G z_list, PySem.W.mg_none_of X G z_max, PySem.W.mg_none_of X G z_min, PySem.W.mg_none_of X G z_range, PySem.W.mg_none_of X G z_sorted, PySem.W.mg_none_of X G z_str, PySem.W.mg_none_of X G z_tuple, ⟨_, PySem.W.mg_of X G g_FAR⟩, ⟨_, PySem.W.mg_of X G g_MOST_COLOURS⟩, ⟨_, PySem.W.mg_of X G g_FIGURES⟩, ⟨_, PySem.W.mg_of X G g_MOST_SQUARES⟩, ⟨_, PySem.W.mg_of X G g_LONGEST_SIDE⟩, ⟨_, PySem.W.mg_of X G g_MOST_ROWS⟩, ⟨_, PySem.W.mg_of X G g_MOST_FIGURES⟩, ⟨_, PySem.W.mg_of X G g_SIGNS⟩⟩
  have T_InvalidText : ExcCls K mg "InvalidText" C_InvalidText := ⟨PySem.W.mg_of X G a_InvalidText, ⟨⟨nm_InvalidText, q_InvalidText, N_InvalidText, bs_InvalidText, bm_InvalidText, sn_InvalidText, sub_InvalidText, ab_InvalidText, col_InvalidText, dd_InvalidText, m0_InvalidText, m1_InvalidText, m2_InvalidText, m3_InvalidText, m5_InvalidText, xL_InvalidText, rv_InvalidText⟩, sa_InvalidText, eC_InvalidText, tC_InvalidText, kC_InvalidText⟩, ⟨ga_InvalidText, gg_InvalidText, eC_InvalidText, hC_InvalidText⟩, ha_InvalidText, xhn, xht, hm_InvalidText⟩
  have M_InvalidText : MetAt K C_InvalidText "__init__" "InvalidText.__init__" s_InvalidText_init ["self", "place"] := metAt_mk iA_InvalidText iT_InvalidText iL_InvalidText iC_InvalidText iK_InvalidText (fun _ _ _ _ _ _ us hl => match us, hl with | [_, _], _ => rfl)
  have T_TooMany : ExcCls K mg "TooMany" C_TooMany := ⟨PySem.W.mg_of X G a_TooMany, ⟨⟨nm_TooMany, q_TooMany, N_TooMany, bs_TooMany, bm_TooMany, sn_TooMany, sub_TooMany, ab_TooMany, col_TooMany, dd_TooMany, m0_TooMany, m1_TooMany, m2_TooMany, m3_TooMany, m5_TooMany, xL_TooMany, rv_TooMany⟩, sa_TooMany, eC_TooMany, tC_TooMany, kC_TooMany⟩, ⟨ga_TooMany, gg_TooMany, eC_TooMany, hC_TooMany⟩, ha_TooMany, xhn, xht, hm_TooMany⟩
  have M_TooMany : MetAt K C_TooMany "__init__" "TooMany.__init__" s_TooMany_init ["self", "most"] := metAt_mk iA_TooMany iT_TooMany iL_TooMany iC_TooMany iK_TooMany (fun _ _ _ _ _ _ us hl => match us, hl with | [_, _], _ => rfl)
  have T_NotText : ExcCls K mg "NotText" C_NotText := ⟨PySem.W.mg_of X G a_NotText, ⟨⟨nm_NotText, q_NotText, N_NotText, bs_NotText, bm_NotText, sn_NotText, sub_NotText, ab_NotText, col_NotText, dd_NotText, m0_NotText, m1_NotText, m2_NotText, m3_NotText, m5_NotText, xL_NotText, rv_NotText⟩, sa_NotText, eC_NotText, tC_NotText, kC_NotText⟩, ⟨ga_NotText, gg_NotText, eC_NotText, hC_NotText⟩, ha_NotText, xhn, xht, hm_NotText⟩
  have TS_NotText : StopCls K mg "NotText" C_NotText := ⟨PySem.W.mg_of X G a_NotText, xP_NotText, kC_NotText, eC_NotText, tC_NotText⟩
  have hex_InvalidText := PySem.W.exm_ref wE wD wT wS_InvalidText
  have hex_TooMany := PySem.W.exm_ref wE wD wT wS_TooMany
  have hex_NotText := PySem.W.exm_ref wE wD wT wS_NotText
  have gW := PySem.W.mg_of X G wA
  refine ⟨PySem.W.fnOf "law" "law" (defArgs s_law) (defBody s_law) (defScope s_law) .none kV23 dc23 pm23 an23 cd23 ct23, fun s v => .of_eq rfl, fun base hb hg => ?_⟩
  have FI_InvalidText := exi_InvalidText (P := P) (w := w) (mg := mg) (base := base) M_InvalidText T_InvalidText.oex no_InvalidText
  have FI_TooMany := exi_TooMany (P := P) (w := w) (mg := mg) (base := base) M_TooMany T_TooMany.oex no_TooMany
  have C_law_taken := ok_law_taken (P := P) (w := w) (base := base) T D_law_taken
  have C_check_text := ok_check_text (P := P) (w := w) (base := base) T TS_NotText D_check_text
  have C_behind_figures := ok_u_behind_figures (P := P) (w := w) (base := base) T D_behind_figures
  have C_run_length := ok_u_run_length (P := P) (w := w) (base := base) T T_InvalidText FI_InvalidText D_run_length
  have C_run_squares := ok_u_run_squares (P := P) (w := w) (base := base) T D_run_squares
  have C_is_whole := ok_is_whole (P := P) (w := w) (base := base) T D_is_whole
  have C_is_place := ok_is_place (P := P) (w := w) (base := base) T D_is_place C_is_whole
  have C_check_number := ok_check_number (P := P) (w := w) (base := base) T D_check_number C_is_whole
  have C_is_square := ok_u_is_square (P := P) (w := w) (base := base) T D_is_square C_is_whole C_is_place
  have C_check_floor := ok_check_floor (P := P) (w := w) (base := base) T D_check_floor C_is_square
  have C_turned := ok_turned (P := P) (w := w) (base := base) T D_turned C_check_floor C_check_number
  have C_read_floor := ok_read_floor (P := P) (w := w) (base := base) T T_InvalidText FI_InvalidText D_read_floor C_check_text C_behind_figures C_run_length C_run_squares
  have C_box_of := ok_box_of (P := P) (w := w) (base := base) T D_box_of
  have C_box := ok_box (P := P) (w := w) (base := base) T D_box C_check_floor C_box_of
  have C_moved_by := ok_u_moved_by (P := P) (w := w) (base := base) T D_moved_by
  have C_check_place := ok_check_place (P := P) (w := w) (base := base) T D_check_place C_is_place
  have C_moved := ok_moved (P := P) (w := w) (base := base) T D_moved C_check_floor C_check_place C_moved_by
  have C_law_runs := ok_law_runs (P := P) (w := w) (base := base) T D_law_runs
  have C_row_text := ok_u_row_text (P := P) (w := w) (base := base) T D_row_text
  have C_write_floor := ok_write_floor (P := P) (w := w) (base := base) T T_TooMany FI_TooMany D_write_floor C_box C_row_text
  have C_law_signed := ok_law_signed (P := P) (w := w) (base := base) T D_law_signed C_law_taken
  have C_law_some_floor := ok_law_some_floor (P := P) (w := w) (base := base) T D_law_some_floor C_law_taken C_law_signed
  have C_law_alike := ok_law_alike (P := P) (w := w) (base := base) T D_law_alike 5
  exact ok_law T T_InvalidText T_TooMany FI_InvalidText FI_TooMany gW hex_InvalidText hex_TooMany F_law C_law_taken C_law_signed C_law_some_floor C_law_alike C_law_runs C_moved C_turned C_box C_write_floor C_read_floor
end Sb
open PySem PySem.W PyProof.Rows
set_option maxHeartbeats 0 in
theorem PySem.Challenge.cw_streetpapers_k01_whole_floors_holds : PySem.Challenge.rw_streetpapers_k01_whole_floors.Holds := by
  w_on; o_law; k_head; (case hw => w_witness2)
  k_fill
  refine L2.walk_of (l := PySem.Challenge.rw_streetpapers_k01_whole_floors) (n := 63) (k := 7) (x := "script") (CX := fun _ => L2.CX0) (sp := fun w => Sb.spLaw _) rfl (by decide) rfl ⟨rfl, by decide, by decide⟩ (fun w h Y => PySem.W.kIn_of Y) ?F (fun _ _ a ns hl o hS => ⟨a, ns, rfl, Sb.Scr.of o hS, fun _ => rfl⟩) (fun _ _ _ _ _ h => h)
  case F =>
    intro w mg fa h KX G hmg
    refine' Sb.all_mk KX G hmg ?a0 ?l0 ?c0 ?k0 ?a1 ?l1 ?c1 ?k1 ?a2 ?l2 ?c2 ?k2 ?a3 ?l3 ?c3 ?k3 ?a4 ?l4 ?c4 ?k4 ?a5 ?l5 ?c5 ?k5 ?a6 ?l6 ?c6 ?k6 ?a7 ?l7 ?c7 ?k7 ?a8 ?l8 ?c8 ?k8 ?a9 ?l9 ?c9 ?k9 ?a10 ?l10 ?c10 ?k10 ?a11 ?l11 ?c11 ?k11 ?a12 ?l12 ?c12 ?k12 ?a13 ?l13 ?c13 ?k13 ?a14 ?l14 ?c14 ?k14 ?a15 ?l15 ?c15 ?k15 ?a16 ?l16 ?c16 ?k16 ?a17 ?l17 ?c17 ?k17 ?a18 ?l18 ?c18 ?k18 ?a19 ?l19 ?c19 ?k19 ?a20 ?l20 ?c20 ?k20 ?a21 ?l21 ?c21 ?k21 ?a22 ?l22 ?c22 ?k22 ?a23 ?l23 ?c23 ?k23 ?z_ValueError ?z_bool ?z_dict ?z_enumerate ?z_int ?z_isinstance ?z_len ?z_list ?z_max ?z_min ?z_range ?z_sorted ?z_str ?z_tuple ?g_FAR ?g_MOST_COLOURS ?g_FIGURES ?g_MOST_SQUARES ?g_LONGEST_SIDE ?g_MOST_ROWS ?g_MOST_FIGURES ?g_SIGNS ?a_InvalidText ?xL_InvalidText ?rv_InvalidText ?sa_InvalidText ?ga_InvalidText ?gg_InvalidText ?ha_InvalidText ?eC_InvalidText ?tC_InvalidText ?kC_InvalidText ?hC_InvalidText ?hm_InvalidText ?iA_InvalidText ?iT_InvalidText ?iL_InvalidText ?iC_InvalidText ?iK_InvalidText ?no_InvalidText ?a_TooMany ?xL_TooMany ?rv_TooMany ?sa_TooMany ?ga_TooMany ?gg_TooMany ?ha_TooMany ?eC_TooMany ?tC_TooMany ?kC_TooMany ?hC_TooMany ?hm_TooMany ?iA_TooMany ?iT_TooMany ?iL_TooMany ?iC_TooMany ?iK_TooMany ?no_TooMany ?a_NotText ?xL_NotText ?rv_NotText ?sa_NotText ?ga_NotText ?gg_NotText ?ha_NotText ?eC_NotText ?tC_NotText ?kC_NotText ?hC_NotText ?hm_NotText ?xP_NotText ?xhn ?xht ?wA ?wE ?wD ?wT ?wS_InvalidText ?wS_TooMany ?wS_NotText
    (case a0 => k_is)
    (case l0 => k_is)
    (case c0 => k_is)
    (case k0 => k_is)
    (case a1 => k_is)
    (case l1 => k_is)
    (case c1 => k_is)
    (case k1 => k_is)
    (case a2 => k_is)
    (case l2 => k_is)
    (case c2 => k_is)
    (case k2 => k_is)
    (case a3 => k_is)
    (case l3 => k_is)
    (case c3 => k_is)
    (case k3 => k_is)
    (case a4 => k_is)
    (case l4 => k_is)
    (case c4 => k_is)
    (case k4 => k_is)
    (case a5 => k_is)
    (case l5 => k_is)
    (case c5 => k_is)
    (case k5 => k_is)
    (case a6 => k_is)
    (case l6 => k_is)
    (case c6 => k_is)
    (case k6 => k_is)
    (case a7 => k_is)
    (case l7 => k_is)
    (case c7 => k_is)
    (case k7 => k_is)
    (case a8 => k_is)
    (case l8 => k_is)
    (case c8 => k_is)
    (case k8 => k_is)
    (case a9 => k_is)
    (case l9 => k_is)
    (case c9 => k_is)
    (case k9 => k_is)
    (case a10 => k_is)
    (case l10 => k_is)
    (case c10 => k_is)
    (case k10 => k_is)
    (case a11 => k_is)
    (case l11 => k_is)
    (case c11 => k_is)
    (case k11 => k_is)
    (case a12 => k_is)
    (case l12 => k_is)
    (case c12 => k_is)
    (case k12 => k_is)
    (case a13 => k_is)
    (case l13 => k_is)
    (case c13 => k_is)
    (case k13 => k_is)
    (case a14 => k_is)
    (case l14 => k_is)
    (case c14 => k_is)
    (case k14 => k_is)
    (case a15 => k_is)
    (case l15 => k_is)
    (case c15 => k_is)
    (case k15 => k_is)
    (case a16 => k_is)
    (case l16 => k_is)
    (case c16 => k_is)
    (case k16 => k_is)
    (case a17 => k_is)
    (case l17 => k_is)
    (case c17 => k_is)
    (case k17 => k_is)
    (case a18 => k_is)
    (case l18 => k_is)
    (case c18 => k_is)
    (case k18 => k_is)
    (case a19 => k_is)
    (case l19 => k_is)
    (case c19 => k_is)
    (case k19 => k_is)
    (case a20 => k_is)
    (case l20 => k_is)
    (case c20 => k_is)
    (case k20 => k_is)
    (case a21 => k_is)
    (case l21 => k_is)
    (case c21 => k_is)
    (case k21 => k_is)
    (case a22 => k_is)
    (case l22 => k_is)
    (case c22 => k_is)
    (case k22 => k_is)
    (case a23 => k_is)
    (case l23 => k_is)
    (case c23 => k_is)
    (case k23 => k_is)
    (case z_ValueError => k_is)
    (case z_bool => k_is)
    (case z_dict => k_is)
    (case z_enumerate => k_is)
    (case z_int => k_is)
    (case z_isinstance => k_is)
    (case z_len => k_is)
    (case z_list => k_is)
    (case z_max => k_is)
    (case z_min => k_is)
    (case z_range => k_is)
    (case z_sorted => k_is)
    (case z_str => k_is)
    (case z_tuple => k_is)
    (case g_FAR => k_is)
    (case g_MOST_COLOURS => k_is)
    (case g_FIGURES => k_is)
    (case g_MOST_SQUARES => k_is)
    (case g_LONGEST_SIDE => k_is)
    (case g_MOST_ROWS => k_is)
    (case g_MOST_FIGURES => k_is)
    (case g_SIGNS => k_is)
    (case a_InvalidText => k_is)
    (case xL_InvalidText => k_is)
    (case rv_InvalidText => decide +kernel)
    (case sa_InvalidText => k_is)
    (case ga_InvalidText => k_is)
    (case gg_InvalidText => k_is)
    (case ha_InvalidText => k_is)
    (case eC_InvalidText => k_is)
    (case tC_InvalidText => k_is)
    (case kC_InvalidText => k_is)
    (case hC_InvalidText => k_is)
    (case hm_InvalidText => k_is)
    (case iA_InvalidText => k_is)
    (case iT_InvalidText => k_is)
    (case iL_InvalidText => k_is)
    (case iC_InvalidText => k_is)
    (case iK_InvalidText => k_is)
    (case no_InvalidText => k_is)
    (case a_TooMany => k_is)
    (case xL_TooMany => k_is)
    (case rv_TooMany => decide +kernel)
    (case sa_TooMany => k_is)
    (case ga_TooMany => k_is)
    (case gg_TooMany => k_is)
    (case ha_TooMany => k_is)
    (case eC_TooMany => k_is)
    (case tC_TooMany => k_is)
    (case kC_TooMany => k_is)
    (case hC_TooMany => k_is)
    (case hm_TooMany => k_is)
    (case iA_TooMany => k_is)
    (case iT_TooMany => k_is)
    (case iL_TooMany => k_is)
    (case iC_TooMany => k_is)
    (case iK_TooMany => k_is)
    (case no_TooMany => k_is)
    (case a_NotText => k_is)
    (case xL_NotText => k_is)
    (case rv_NotText => decide +kernel)
    (case sa_NotText => k_is)
    (case ga_NotText => k_is)
    (case gg_NotText => k_is)
    (case ha_NotText => k_is)
    (case eC_NotText => k_is)
    (case tC_NotText => k_is)
    (case kC_NotText => k_is)
    (case hC_NotText => k_is)
    (case hm_NotText => k_is)
    (case xP_NotText => first | k_exc | decide +kernel)
    (case xhn => k_is)
    (case xht => k_is)
    (case wA => k_is)
    (case wE => k_is)
    (case wD => k_is)
    (case wT => k_is)
    (case wS_InvalidText => k_is)
    (case wS_TooMany => k_is)
    (case wS_NotText => k_is)
