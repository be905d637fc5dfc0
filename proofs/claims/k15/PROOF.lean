import PyProof.Rows.All
import Wide.All
import OpenK.AllK
import Wide.FinOn
import HandS.ForMost
import HandS.Wide
import HandS.IsInst
import HandS.TupAny
import HandS.Style
import HandS.FStr
import HandS.StrMore
import HandS.WordsExc
import HandS.ExcInit
import HandS.ExcField
import HandS.CallSlots
import HandS.Defaults
import KE.KExcIs
import HandS.ExcIs
import KE.GoesMore
import KE.GoesEnum
import HandS.Iter
import HandS.Walk
import HandS.DictComp
import KE.KSortTupUse
import KE.KDictSum
import KE.KDictCopyH
import HandS.SortRule
import HandS.Conv
import HandS.Set
import HandS.Keys
import HandS.DictTup
import KE.KDictPairs
import HandS.WideBits
import HandS.TupLe
import HandS.TupLen
import HandS.Conv
import HandS.Deep
import KE.DataEq
import HandS.Star
import HandS.RaiseMore
import PyProof.StrOps2
import HandS.Lambda
import KE.KDflt
import HandS.EndOwn
import PySem.Challenge.RW_streetpapers_k15_whole_notes
set_option Elab.async false
set_option linter.all false
set_option maxRecDepth 100000
set_option maxHeartbeats 4000000
namespace Sb
open PySem PySem.Spec PyProof.Rows L2 TL
/-! ### defs of the text, and what they promise -/
structure DefAt (K : PySem.W.Frag) (mg : Str → Option Value) (x : Str) (st : Stmt) (ps : List Str) : Prop where
  ex : ∃ (f : Addr) (fd : FuncData), Fun K x x st f fd ∧ mg x = some (.ref f) ∧ Binds K fd ps []
structure Cal (P : Program) (w : World) (K : PySem.W.Frag) (mg : Str → Option Value) (base : Heap) (CX : CXT) (x : Str) (k : Nat) (ps : List Str) (sp : Sp) : Prop where
  ex : ∃ (f : Addr) (fd : FuncData), FnOk P w K mg base CX k f fd ps sp ∧ mg x = some (.ref f) ∧ PySem.W.keepIn K (.ref f) = true ∧ Binds K fd ps []
section
variable {P : Program} {w : World} {K : PySem.W.Frag} {mg : Str → Option Value} {base : Heap}
theorem Cal.mono {CX : CXT} {x : Str} {j k : Nat} {ps : List Str} {sp : Sp} (C : Cal P w K mg base CX x j ps sp) (h : j ≤ k) : Cal P w K mg base CX x k ps sp := by
  obtain ⟨f, fd, F, m, kp, b⟩ := C.ex
  exact ⟨f, fd, F.mono h, m, kp, b⟩
theorem Cal.imp {CX : CXT} {x : Str} {k : Nat} {ps : List Str} {sp sp' : Sp} (C : Cal P w K mg base CX x k ps sp) (h : ∀ vs H Q E, sp' vs H Q E → sp vs H Q E) : Cal P w K mg base CX x k ps sp' := by
  obtain ⟨f, fd, F, m, kp, b⟩ := C.ex
  exact ⟨f, fd, F.imp h, m, kp, b⟩
theorem DefAt.cal {x : Str} {st : Stmt} {N ps : List Str} {k : Nat} {sp : Sp} (D : DefAt K mg x st ps) (S : FnScope N ps (defScope st)) (len : ∀ vs H Q E, sp vs H Q E → vs.length = ps.length)
    (hbody : ∀ (f : Addr) (cdv : Value) (A : Around) (outer : List Env) (s : Shared) (H : Hp) (vs : List V) (Q : VK) (E : XK), Room k (A.deeper (envOfC x (defScope st) s.heap.objs.size f cdv)) → sp vs H Q E →
      ∃ t, PSs (cxOf CX0 P w K mg base N x (defScope st) f cdv A outer s H E).nox (defBody st) t ∧ t { nx := fun _ H' => Q .non H', rt := Q } (start N vs) H) : Cal P w K mg base CX0 x (k + 1) ps sp := by
  obtain ⟨f, fd, F, m, b⟩ := D.ex
  exact ⟨f, fd, F.ok S len (hbody f), m, F.kp, b⟩
end
section
variable {X : Cx} {CX : CXT} {k j : Nat} {ps : List Str} {sp : Sp} {x : Str} {p pos : Pos} {e : Expr} {es : List Expr} {t : TA}
theorem pe_own (C : Cal X.prog X.w X.K X.mg X.base CX0 x k ps sp) (hr : Room j X.A) (hk : k ≤ j) (ha : PA X (e :: es) t) (hg : Gl X x := by rfl) (hdb : (x == ("__debug__" : Str)) = false := by decide)
    (he : starEach (e :: es) X.env = (false, eval e X.env) :: starEach es X.env := by rfl) (hpl : (backTo pos (starEach es X.env)).any (·.1) = false := by rfl) : PE X (.Call (.Name x p) (e :: es) [] pos) (tCall sp [] E0 t) := by
  obtain ⟨f, fd, F, m, kp, b⟩ := C.ex
  exact pe_call F (hr.mono hk) hg m kp b .nil pass0 ha hdb he hpl
theorem pe_own0 (C : Cal X.prog X.w X.K X.mg X.base CX0 x k ps sp) (hr : Room j X.A) (hk : k ≤ j) (hg : Gl X x := by rfl) (hdb : (x == ("__debug__" : Str)) = false := by decide) : PE X (.Call (.Name x p) [] [] pos) (tCall sp [] E0 tNil) := by
  obtain ⟨f, fd, F, m, kp, b⟩ := C.ex
  exact pe_call0 F (hr.mono hk) hg m kp b .nil pass0 hdb
end
/-- a word that the steps do not enter -/
structure Ok (p : Prop) : Prop where
  o : p
/-! ### heaps -/
def KeepB (r : Addr) (H H' : Hp) : Prop := ∀ b o, b ≠ r → H b = some o → H' b = some o
theorem KeepB.refl (r : Addr) (H : Hp) : KeepB r H H := fun _ _ _ h => h
theorem KeepB.trans {r : Addr} {H H1 H2 : Hp} (a : KeepB r H H1) (b : KeepB r H1 H2) : KeepB r H H2 := fun c o n h => b c o n (a c o n h)
theorem KeepB.put {r : Addr} {H : Hp} {o : HO} : KeepB r H (upd H r o) := fun b u n h => by
  rw [upd_ne n]
  exact h
theorem Same.keepB {r : Addr} {H H' : Hp} (s : Same H H') : KeepB r H H' := fun b o _ h => s b o h
theorem Same.new {H : Hp} {p : Addr} {o : HO} (h : H p = none) : Same H (upd H p o) := fun b u e => by
  rw [upd_ne (ne_of_none e h)]
  exact e
/-- tuples and what is frozen stay -/
structure TK (H H' : Hp) : Prop where
  tup : ∀ b xs, H b = some (.tup xs) → H' b = some (.tup xs)
  frz : ∀ b o u, H b = some (.frz o u) → H' b = some (.frz o u)
theorem TK.refl (H : Hp) : TK H H := ⟨fun _ _ h => h, fun _ _ _ h => h⟩
theorem TK.trans {H H1 H2 : Hp} (a : TK H H1) (b : TK H1 H2) : TK H H2 := ⟨fun c x h => b.tup c x (a.tup c x h), fun c o u h => b.frz c o u (a.frz c o u h)⟩
theorem Same.tk {H H' : Hp} (s : Same H H') : TK H H' := ⟨fun b xs h => s b _ h, fun b o u h => s b _ h⟩
theorem KeepB.tk {r : Addr} {H H' : Hp} {xs : List V} (s : KeepB r H H') (h : H r = some (.lst xs)) : TK H H' :=
  ⟨fun b ys e => s b _ (ne_of e h (by intro z; cases z)) e, fun b o u e => s b _ (ne_of e h (by intro z; cases z)) e⟩
theorem TK.seqT {K : PySem.W.Frag} {H H' : Hp} {a : Addr} {xs : List V} (t : TK H H') (h : SqT K H a xs) : SqT K H' a xs := by
  rcases h with (h | ⟨o, h⟩) | h
  · exact .inl (.inl (t.tup _ _ h))
  · exact .inl (.inr ⟨o, t.frz _ _ _ h⟩)
  · exact .inr h
theorem TK.new {H : Hp} {p : Addr} {o : HO} (h : H p = none) : TK H (upd H p o) := Same.tk (Same.new h)
theorem TK.lst {H : Hp} {p : Addr} {xs : List V} {o : HO} (h : H p = some (.lst xs)) : TK H (upd H p o) := (KeepB.put (r := p)).tk h
theorem KeepB.new {r : Addr} {H : Hp} {p : Addr} {o : HO} (h : H p = none) : KeepB r H (upd H p o) := Same.keepB (Same.new h)
/-- a change at an object that the first heap does not know -/
theorem KeepB.fresh {r : Addr} {H H' : Hp} {p : Addr} {o : HO} (k : KeepB r H H') (h : H p = none) : KeepB r H (upd H' p o) := fun b u n e => by
  rw [upd_ne (ne_of_none e h)]
  exact k b u n e
/-- what the later heap does not know the earlier did not -/
theorem KeepB.back {r : Addr} {H H' : Hp} {p : Addr} (k : KeepB r H H') (h : H' p = none) (n : p ≠ r) : H p = none := by
  cases e : H p with
  | none => rfl
  | some o =>
    rw [k p o n e] at h
    cases h
theorem Same.fresh {H H' : Hp} {p : Addr} {o : HO} (k : Same H H') (h : H p = none) : Same H (upd H' p o) := fun b u e => by
  rw [upd_ne (ne_of_none e h)]
  exact k b u e
/-! ### immutable data -/
mutual
inductive Tp (K : PySem.W.Frag) (H : Hp) : V → PyData → Prop
  | non : Tp K H .non .none
  | bl (b : Bool) : Tp K H (.bl b) (.bool b)
  | int (i : Int) : Tp K H (.int i) (.int i)
  | str (x : Str) : Tp K H (.str x) (.str x)
  | tup {a : Addr} {xs : List V} {ds : List PyData} : SqT K H a xs → TpAll K H xs ds → Tp K H (.ref a) (.tuple ds)
inductive TpAll (K : PySem.W.Frag) (H : Hp) : List V → List PyData → Prop
  | nil : TpAll K H [] []
  | cons {v : V} {vs : List V} {d : PyData} {ds : List PyData} : Tp K H v d → TpAll K H vs ds → TpAll K H (v :: vs) (d :: ds)
end
section
variable {K : PySem.W.Frag} {H H' : Hp}
mutual
theorem Tp.mono (t : TK H H') : ∀ (d : PyData) (v : V), Tp K H v d → Tp K H' v d
  | .none, _, h => by cases h; exact .non
  | .bool b, _, h => by cases h; exact .bl b
  | .int i, _, h => by cases h; exact .int i
  | .str x, _, h => by cases h; exact .str x
  | .list ds, _, h => by cases h
  | .dict _, _, h => by cases h
  | .tuple ds, _, h => by
    cases h with
    | tup hs ha => exact .tup (t.seqT hs) (TpAll.mono t ds _ ha)
theorem TpAll.mono (t : TK H H') : ∀ (ds : List PyData) (vs : List V), TpAll K H vs ds → TpAll K H' vs ds
  | [], _, h => by cases h; exact .nil
  | d :: ds, _, h => by
    cases h with
    | cons h1 h2 => exact .cons (Tp.mono t d _ h1) (TpAll.mono t ds _ h2)
end
mutual
theorem Tp.dp : ∀ (d : PyData) (v : V), Tp K H v d → Dp K H v d
  | .none, _, h => by cases h; exact .non
  | .bool b, _, h => by cases h; exact .bl b
  | .int i, _, h => by cases h; exact .int i
  | .str x, _, h => by cases h; exact .str x
  | .list ds, _, h => by cases h
  | .dict _, _, h => by cases h
  | .tuple ds, _, h => by
    cases h with
    | tup hs ha => exact .tup hs (TpAll.dp ds _ ha)
theorem TpAll.dp : ∀ (ds : List PyData) (vs : List V), TpAll K H vs ds → DpAll K H vs ds
  | [], _, h => by cases h; exact .nil
  | d :: ds, _, h => by
    cases h with
    | cons h1 h2 => exact .cons (Tp.dp d _ h1) (TpAll.dp ds _ h2)
end
mutual
theorem Dp.mono (s : Same H H') : ∀ (d : PyData) (v : V), Dp K H v d → Dp K H' v d
  | .none, _, h => by cases h; exact .non
  | .bool b, _, h => by cases h; exact .bl b
  | .int i, _, h => by cases h; exact .int i
  | .str x, _, h => by cases h; exact .str x
  | .dict _, _, h => by cases h
  | .list ds, _, h => by
    cases h with
    | lst hs ha => exact .lst (s.seq hs) (DpAll.mono s ds _ ha)
  | .tuple ds, _, h => by
    cases h with
    | tup hs ha => exact .tup ((Same.tk s).seqT hs) (DpAll.mono s ds _ ha)
theorem DpAll.mono (s : Same H H') : ∀ (ds : List PyData) (vs : List V), DpAll K H vs ds → DpAll K H' vs ds
  | [], _, h => by cases h; exact .nil
  | d :: ds, _, h => by
    cases h with
    | cons h1 h2 => exact .cons (Dp.mono s d _ h1) (DpAll.mono s ds _ h2)
end
theorem TpAll.length : ∀ {vs : List V} {ds : List PyData}, TpAll K H vs ds → vs.length = ds.length
  | [], [], _ => rfl
  | _ :: _, [], h => by cases h
  | [], _ :: _, h => by cases h
  | v :: vs, d :: ds, h => by
    cases h with
    | cons h1 h2 =>
      show vs.length + 1 = ds.length + 1
      rw [TpAll.length h2]
theorem TpAll.get : ∀ {vs : List V} {ds : List PyData} {i : Nat} {d : PyData}, TpAll K H vs ds → ds[i]? = some d → ∃ v, vs[i]? = some v ∧ Tp K H v d
  | [], [], _, _, _, e => by simp at e
  | _ :: _, [], _, _, h, _ => by cases h
  | [], _ :: _, _, _, h, _ => by cases h
  | v :: vs, d :: ds, 0, _, h, e => by
    cases h with
    | cons h1 h2 =>
      have e : d = _ := Option.some.inj e
      subst e
      exact ⟨v, rfl, h1⟩
  | v :: vs, d :: ds, i + 1, _, h, e => by
    cases h with
    | cons h1 h2 => exact TpAll.get (i := i) h2 e
theorem TpAll.append : ∀ {vs ws : List V} {ds es : List PyData}, TpAll K H vs ds → TpAll K H ws es → TpAll K H (vs ++ ws) (ds ++ es)
  | [], _, [], _, _, h => h
  | _ :: _, _, [], _, h, _ => by cases h
  | [], _, _ :: _, _, h, _ => by cases h
  | v :: vs, _, d :: ds, _, h, h' => by
    cases h with
    | cons h1 h2 => exact .cons h1 (TpAll.append h2 h')
end
/-! ### the draws -/
/-- the script: frozen, or an object of the written part -/
def Scr (K : PySem.W.Frag) (H : Hp) (s : Addr) (ns : List Int) : Prop := (∃ o, H s = some (.frz o (.lst (ns.map V.int)))) ∨ ∃ (o : Obj) (its : Array Value) (n : Nat), K.lookup s = some o ∧ o.cls = .type "list" ∧ o.dict = none ∧ o.data = .seq its n ∧ its.size ≤ sizeLine ∧ Vals (ns.map V.int) its.toList
theorem Scr.sq {K : PySem.W.Frag} {H : Hp} {s : Addr} {ns : List Int} (h : Scr K H s ns) : SqL K H s (ns.map V.int) := by
  rcases h with ⟨o, h⟩ | h
  · exact .inl (.inr ⟨o, h⟩)
  · exact .inr h
theorem Scr.mono {K : PySem.W.Frag} {H H' : Hp} {s : Addr} {ns : List Int} (t : TK H H') (h : Scr K H s ns) : Scr K H' s ns := by
  rcases h with ⟨o, h⟩ | h
  · exact .inl ⟨o, t.frz _ _ _ h⟩
  · exact .inr h
theorem Scr.of {K : PySem.W.Frag} {H : Hp} {s : Addr} {ns : List Int} (o : Only H) (h : SqL K H s (ns.map V.int)) : Scr K H s ns := by
  rcases h with (h | ⟨u, h⟩) | h
  · rcases o s with z | ⟨u, xs, z⟩ <;> (rw [h] at z; cases z)
  · exact .inl ⟨u, h⟩
  · exact .inr h
/-- row: the script, the place in it, the mixed number, the rest of a great cell -/
def Row (K : PySem.W.Frag) (H : Hp) (r : Addr) : Prop := ∃ (s : Addr) (ns : List Int) (i m c : Int), H r = some (.lst [.ref s, .int i, .int m, .int c]) ∧ Scr K H s ns ∧ 0 ≤ i ∧ 0 ≤ m ∧ m < 2147483647 ∧ 0 ≤ c
theorem Row.lst {K : PySem.W.Frag} {H : Hp} {r : Addr} (h : Row K H r) : ∃ xs, H r = some (.lst xs) := by
  obtain ⟨s, ns, i, m, c, e, _⟩ := h
  exact ⟨_, e⟩
theorem Row.keep {K : PySem.W.Frag} {H H' : Hp} {r : Addr} (h : Row K H r) (t : TK H H') (e : H' r = H r) : Row K H' r := by
  obtain ⟨s, ns, i, m, c, e0, hs, q⟩ := h
  exact ⟨s, ns, i, m, c, e.trans e0, hs.mono t, q⟩
theorem Row.same {K : PySem.W.Frag} {H H' : Hp} {r : Addr} (h : Row K H r) (s : Same H H') : Row K H' r := by
  obtain ⟨xs, e⟩ := h.lst
  exact h.keep (Same.tk s) ((s _ _ e).trans e.symm)
theorem Row.new {K : PySem.W.Frag} {H : Hp} {r p : Addr} {o : HO} (h : Row K H r) (n : H p = none) : Row K (upd H p o) r := h.same (Same.new n)
theorem Row.ne {K : PySem.W.Frag} {H : Hp} {r p : Addr} (h : Row K H r) (n : H p = none) : p ≠ r := by
  obtain ⟨xs, e⟩ := h.lst
  exact (ne_of_none e n).symm
/-- another list changes -/
theorem Row.put {K : PySem.W.Frag} {H : Hp} {r p : Addr} {xs : List V} {o : HO} (h : Row K H r) (e : H p = some (.lst xs)) (n : p ≠ r) : Row K (upd H p o) r := h.keep (TK.lst e) (upd_ne n.symm)
theorem KeepB.row {K : PySem.W.Frag} {H H' : Hp} {r : Addr} (k : KeepB r H H') (h : Row K H r) : TK H H' := by
  obtain ⟨xs, e⟩ := h.lst
  exact k.tk e
def spTaken (K : PySem.W.Frag) : Sp := fun vs H Q _ => ∃ (r : Addr) (many : Int), vs = [.ref r, .int many] ∧ Row K H r ∧ 0 < many ∧ many < 2 ^ 250 ∧ ∀ (v : Int) (H' : Hp), 0 ≤ v → v < many → Row K H' r → KeepB r H H' → Q (.int v) H'
section
variable {X : Cx}
theorem CallR.imp {f : Value} {r r' : List V → Hp → VK → Prop} (h : CallR X f r) (i : ∀ xs H Q, r' xs H Q → r xs H Q) : CallR X f r' := fun pins s σ H xs us Q I rv q => h pins s σ H xs us Q I rv (i _ _ _ q)
theorem call_int_i : CallR X (.type "int") (fun xs H Q => ∃ i, xs = [.int i] ∧ Q (.int i) H) := CallR.imp call_int1 fun _ _ _ h => .inl h
theorem call_len_l : CallR X (.builtin "len") (fun xs H Q => ∃ p ys, xs = [.ref p] ∧ SqL X.K H p ys ∧ Q (.int ys.length) H) := CallR.imp call_len_seq fun _ _ _ ⟨p, ys, e, h, q⟩ => ⟨p, ys, e, .inl h, q⟩
theorem call_len_t : CallR X (.builtin "len") (fun xs H Q => ∃ p ys, xs = [.ref p] ∧ SqT X.K H p ys ∧ Q (.int ys.length) H) := CallR.imp call_len_seq fun _ _ _ ⟨p, ys, e, h, q⟩ => ⟨p, ys, e, .inr h, q⟩
theorem call_tuple_l : CallR X (.type "tuple") (fun xs H Q => ∃ p ys, xs = [.ref p] ∧ SqL X.K H p ys ∧ ∀ l, H l = none → Q (.ref l) (upd H l (.tup ys))) := CallR.imp call_tuple_of fun _ _ _ ⟨p, ys, e, h, q⟩ => ⟨p, ys, e, .inl ⟨h, q⟩⟩
theorem call_tuple_t : CallR X (.type "tuple") (fun xs H Q => ∃ p ys, xs = [.ref p] ∧ SqT X.K H p ys ∧ Q (.ref p) H) := CallR.imp call_tuple_of fun _ _ _ ⟨p, ys, e, h, q⟩ => ⟨p, ys, e, .inr ⟨h, q⟩⟩
end
section
variable {X : Cx} {x : Str} {pos : Pos}
theorem pe_gint {i : Int} (hg : Gl X x) (hm : ∃ t, X.mg x = some (.int i t)) (hd : (x == ("__debug__" : Str)) = false := by decide) : PE X (.Name x pos) (tC (.int i)) := by
  obtain ⟨t, h⟩ := hm
  exact pe_glob hg h ⟨t, rfl⟩ hd
theorem pe_gstr {y : Str} (hg : Gl X x) (hm : ∃ t, X.mg x = some (.str y t)) (hd : (x == ("__debug__" : Str)) = false := by decide) : PE X (.Name x pos) (tC (.str y)) := by
  obtain ⟨t, h⟩ := hm
  exact pe_glob hg h ⟨t, rfl⟩ hd
theorem pe_ty (n : String) (hg : Gl X x) (hm : X.mg x = none) (hv : bootBuiltins x = some (.type n)) (hn : x ≠ "__name__" := by decide) (hd : (x == ("__debug__" : Str)) = false := by decide) : PE X (.Name x pos) (tC (.ty n)) := pe_bltn hg hm hv rfl hn hd
/-- isinstance against a built-in class -/
def rIsN (K : PySem.W.Frag) : List V → Hp → VK → Prop := fun xs H Q => ∃ (y : V) (n : String) (t : String) (b : Bool), xs = [y, .ty n] ∧ TyX K H y (.type t) ∧ kitB t n = some b ∧ Q (.bl b) H
theorem call_isN : CallR X (.builtin "isinstance") (rIsN X.K) := CallR.imp call_isi fun _ _ _ ⟨y, n, t, b, e, h, k, q⟩ => ⟨y, .ty n, .type t, .type n, b, e, .ty n, h, kit_ty k, q⟩
/-- against two of them -/
def kitB2 (t m n : String) : Option Bool := match kitB t m with
  | some true => some true
  | some false => kitB t n
  | none => none
def rIsT2 (K : PySem.W.Frag) : List V → Hp → VK → Prop := fun xs H Q => ∃ (y : V) (p : Addr) (m n : String) (t : String) (b : Bool), xs = [y, .ref p] ∧ H p = some (.tup [.ty m, .ty n]) ∧ TyX K H y (.type t) ∧ kitB2 t m n = some b ∧ Q (.bl b) H
theorem kit2 {K : PySem.W.Frag} {t m n : String} {b : Bool} (h : kitB2 t m n = some b) : PySem.W.kitAny K (.type t) [.type m, .type n] = some b := by
  unfold kitB2 at h
  split at h
  · rename_i e
    cases h
    exact kitAny_cons (kit_ty e) (fun z => by cases z) (fun _ => rfl)
  · rename_i e
    refine kitAny_cons (kit_ty e) (fun _ => ?_) (fun z => by cases z)
    exact kitAny_cons (b := b) (kit_ty h) (fun z => by rw [z]; exact kitAny_nil) (fun z => z)
  · cases h
theorem call_isT2 : CallR X (.builtin "isinstance") (rIsT2 X.K) := CallR.imp call_isiT fun _ _ _ ⟨y, p, m, n, t, b, e, hp, h, k, q⟩ => ⟨y, p, [.ty m, .ty n], .type t, [.type m, .type n], b, e, hp, .cons (.ty m) (.cons (.ty n) .nil), h, kit2 k, q⟩
/-- s.index(c), where it is found -/
def rIndexIn : L2.St → V → List V → Hp → VK → Prop := fun _ x xs H Q => ∃ (a b : Str) (k : Nat), x = .str a ∧ xs = [.str b] ∧ Txt.index0 a b = some k ∧ Q (.int (k : Nat)) H
theorem mt_indexIn (hc : X.calm = true) : MtS X "str.index" rIndexIn := fun pins s σ H x xs v us Q I rx rs ⟨a, b, k, e1, e2, e3, q⟩ =>
  mt_indexX hc takes0 pins s σ H x xs v us Q I rx rs ⟨a, b, e1, e2, fun k' h => by rw [e3] at h; cases h; exact q, fun h => by rw [e3] at h; cases h⟩
end
section
variable {K : PySem.W.Frag} {H : Hp}
theorem tyx_tup {a : Addr} {xs : List V} (h : SqT K H a xs) : TyX K H (.ref a) (.type "tuple") := by
  rcases h with (h | ⟨o, h⟩) | ⟨o, its, n, e, c, _⟩
  · exact .base (.tup h)
  · exact .fTuple h
  · exact .kTuple e c
theorem tyx_lst {a : Addr} {xs : List V} (h : SqL K H a xs) : TyX K H (.ref a) (.type "list") := by
  rcases h with (h | ⟨o, h⟩) | ⟨o, its, n, e, c, _⟩
  · exact .base (.lst h)
  · exact .base (.frz h)
  · exact .kList e c
theorem Tp.tupI {v : V} {ds : List PyData} (h : Tp K H v (.tuple ds)) : ∃ (a : Addr) (xs : List V), v = .ref a ∧ SqT K H a xs ∧ TpAll K H xs ds := by
  cases h with
  | tup hs ha => exact ⟨_, _, rfl, hs, ha⟩
theorem Tp.intI {v : V} {i : Int} (h : Tp K H v (.int i)) : v = .int i := by cases h; rfl
theorem Tp.nonI {v : V} (h : Tp K H v .none) : v = .non := by cases h; rfl
theorem Tp.strI {v : V} {x : Str} (h : Tp K H v (.str x)) : v = .str x := by cases h; rfl
theorem Tp.blI {v : V} {b : Bool} (h : Tp K H v (.bool b)) : v = .bl b := by cases h; rfl
theorem TpAll.consI {vs : List V} {d : PyData} {ds : List PyData} (h : TpAll K H vs (d :: ds)) : ∃ v ws, vs = v :: ws ∧ Tp K H v d ∧ TpAll K H ws ds := by
  cases h with
  | cons h1 h2 => exact ⟨_, _, rfl, h1, h2⟩
theorem TpAll.nilI {vs : List V} (h : TpAll K H vs []) : vs = [] := by cases h; rfl
/-- three numbers -/
theorem Tp.int3 {v : V} {i j k : Int} (h : Tp K H v (.tuple [.int i, .int j, .int k])) : ∃ a, v = .ref a ∧ SqT K H a [.int i, .int j, .int k] := by
  obtain ⟨a, xs, rfl, hs, h⟩ := h.tupI
  obtain ⟨x, _, rfl, h1, h⟩ := h.consI
  obtain ⟨y, _, rfl, h2, h⟩ := h.consI
  obtain ⟨z, _, rfl, h3, h⟩ := h.consI
  rw [h1.intI, h2.intI, h3.intI, h.nilI] at hs
  exact ⟨a, rfl, hs⟩
end
theorem at0 {α : Type} {v : α} {r : List α} : atI (v :: r) (0 : Int) = some v := atI_nat (j := 0) rfl
theorem at1 {α : Type} {u v : α} {r : List α} : atI (u :: v :: r) (1 : Int) = some v := atI_nat (j := 1) rfl
theorem at2 {α : Type} {t u v : α} {r : List α} : atI (t :: u :: v :: r) (2 : Int) = some v := atI_nat (j := 2) rfl
theorem at3 {α : Type} {s t u v : α} {r : List α} : atI (s :: t :: u :: v :: r) (3 : Int) = some v := atI_nat (j := 3) rfl
theorem small_le {n : Nat} (h : n ≤ 1000) : n ≤ sizeLine := Nat.le_of_lt (small1000 h)
/-! ### answers read -/
theorem ne_tr {a b : Int} (h : (!decide (V.int a = V.int b)) = true) : a ≠ b := fun e => by
  rw [e, decide_eq_true rfl] at h
  cases h
theorem ne_fl {a b : Int} (h : ¬ (!decide (V.int a = V.int b)) = true) : a = b := by
  by_cases e : a = b
  · exact e
  · exact absurd (by rw [decide_eq_false (fun z => e (V.int.inj z))]; rfl) h
theorem eq_tr {a b : Int} (h : decide (V.int a = V.int b) = true) : a = b := V.int.inj (of_decide_eq_true h)
theorem eq_fl {a b : Int} (h : ¬ decide (V.int a = V.int b) = true) : a ≠ b := fun e => h (decide_eq_true (by rw [e]))
theorem d_fl {p : Prop} [Decidable p] (h : ¬ decide p = true) : ¬ p := fun q => h (decide_eq_true q)
theorem nd_tr {p : Prop} [Decidable p] (h : (!decide p) = true) : ¬ p := fun q => by
  rw [decide_eq_true q] at h
  cases h
theorem nd_fl {p : Prop} [Decidable p] (h : ¬ (!decide p) = true) : p := by
  by_cases e : p
  · exact e
  · exact absurd (by rw [decide_eq_false e]; rfl) h
theorem nb_tr {b : Bool} (h : (!b) = true) : b = false := by cases b <;> simp_all
theorem nb_fl {b : Bool} (h : ¬ (!b) = true) : b = true := by cases b <;> simp_all
theorem take_more {α : Type} {l : List α} {i : Nat} {x : α} (h : l[i]? = some x) : l.take (i + 1) = l.take i ++ [x] := by
  rw [List.take_add_one, h]
  rfl
/-! ### the rules that speak of the written part, with its letter -/
section
variable {X : Cx} {K : PySem.W.Frag}
theorem k_len_l (hK : X.K = K := by rfl) : CallR X (.builtin "len") (fun xs H Q => ∃ p ys, xs = [.ref p] ∧ SqL K H p ys ∧ Q (.int ys.length) H) := hK ▸ call_len_l
theorem k_len_t (hK : X.K = K := by rfl) : CallR X (.builtin "len") (fun xs H Q => ∃ p ys, xs = [.ref p] ∧ SqT K H p ys ∧ Q (.int ys.length) H) := hK ▸ call_len_t
theorem k_tuple_l (hK : X.K = K := by rfl) : CallR X (.type "tuple") (fun xs H Q => ∃ p ys, xs = [.ref p] ∧ SqL K H p ys ∧ ∀ l, H l = none → Q (.ref l) (upd H l (.tup ys))) := hK ▸ call_tuple_l
theorem k_tuple_t (hK : X.K = K := by rfl) : CallR X (.type "tuple") (fun xs H Q => ∃ p ys, xs = [.ref p] ∧ SqT K H p ys ∧ Q (.ref p) H) := hK ▸ call_tuple_t
theorem k_isN (hK : X.K = K := by rfl) : CallR X (.builtin "isinstance") (rIsN K) := hK ▸ call_isN
theorem k_isT2 (hK : X.K = K := by rfl) : CallR X (.builtin "isinstance") (rIsT2 K) := hK ▸ call_isT2
theorem k_all (hc : X.calm = true) (hK : X.K = K := by rfl) : CallR X (.builtin "all") (rAll K) := hK ▸ cr_all hc
theorem k_any (hc : X.calm = true) (hK : X.K = K := by rfl) : CallR X (.builtin "any") (rAny K) := hK ▸ cr_any hc
theorem k_sum (hc : X.calm = true) (hK : X.K = K := by rfl) : CallR X (.builtin "sum") (rSum K) := hK ▸ cr_sum hc
theorem k_max (hc : X.calm = true) (hK : X.K = K := by rfl) : CallR X (.builtin "max") (rMax K) := hK ▸ cr_max hc
theorem k_min (hc : X.calm = true) (hK : X.K = K := by rfl) : CallR X (.builtin "min") (rMin K) := hK ▸ cr_min hc
theorem k_ix_list (hK : X.K = K := by rfl) : IxR X (rIxL K) := hK ▸ ix_list
theorem k_ix_tup (hK : X.K = K := by rfl) : IxR X (rIxT K) := hK ▸ ix_tup
theorem k_len_seq (hK : X.K = K := by rfl) : CallR X (.builtin "len") (fun xs H Q => ∃ p ys, xs = [.ref p] ∧ (SqL K H p ys ∨ SqT K H p ys) ∧ Q (.int ys.length) H) := hK ▸ call_len_seq
theorem IxR.imp {r r' : R2} (h : IxR X r) (i : ∀ x y H Q, r' x y H Q → r x y H Q) : IxR X r' := fun a b pins s σ H x y v u Q I rx ry q e => h a b pins s σ H x y v u Q I rx ry (i _ _ _ _ q) e
/-- an item of a list or of a tuple -/
def rIxA (K : PySem.W.Frag) : R2 := fun x y H Q => ∃ p xs i v, x = .ref p ∧ y = .int i ∧ (SqL K H p xs ∨ SqT K H p xs) ∧ atI xs i = some v ∧ Q v H
theorem k_ix_seq (hK : X.K = K := by rfl) : IxR X (rIxA K) := hK ▸ IxR.imp ix_seq fun x y H Q ⟨p, xs, i, v, e1, e2, h, a, q⟩ => by
  rcases h with h | h
  · exact .inl ⟨p, xs, i, v, e1, e2, h, a, q⟩
  · exact .inr (.inl ⟨p, xs, i, v, e1, e2, h, a, q⟩)
theorem k_sl_list (hK : X.K = K := by rfl) : SlR X (rSlL K) := hK ▸ sl_list
theorem k_sl_tup (hK : X.K = K := by rfl) : SlR X (rSlT K) := hK ▸ sl_tup
theorem k_catA (hK : X.K = K := by rfl) : OpR X (binaryOp .Add) (rCatA K) := hK ▸ op_catA
theorem k_eqD (hu : X.A.units + 64 < cLine) (hK : X.K = K := by rfl) : OpR X (compareOp .Eq) (rEqD K) := hK ▸ op_eqD hu
theorem k_neD (hu : X.A.units + 64 < cLine) (hK : X.K = K := by rfl) : OpR X (compareOp .NotEq) (rNeD K) := hK ▸ op_neD hu
theorem k_pi_list {tg l : Expr} {tl : TE} (hl : PE X l tl) (hK : X.K = K := by rfl) : PI X tg l (iList K tl) := hK ▸ pi_list hl
theorem k_pi_tup {tg l : Expr} {tl : TE} (hl : PE X l tl) (hK : X.K = K := by rfl) : PI X tg l (iTup K tl) := hK ▸ pi_tup hl
theorem k_mt_join (hK : X.K = K := by rfl) : MtR X "str.join" (fun x xs H Q => ∃ a p, ∃ ys : List Str, x = .str a ∧ xs = [.ref p] ∧ (SqL K H p (ys.map V.str) ∨ SqT K H p (ys.map V.str)) ∧ (ys.map (·.length)).sum + ys.length * a.length ≤ 16777216 ∧ Q (.str (Txt.join a ys)) H) := hK ▸ mt_join
end
/-! ### own errors -/
/-- what the written part says of an error's class -/
structure ExcCls (K : PySem.W.Frag) (mg : Str → Option Value) (x : Str) (C : Addr) : Prop where
  gC : mg x = some (.ref C)
  oex : OexC K C
  xf : XfC K C
  ha : PySem.W.findIn K (.ref C) "__class__" = some (some (.builtin "object.__class__"))
  hn : PySem.W.specialIn K (.builtin "object.__class__") "__get__" = some (some (.builtin "getset_descriptor.__get__"))
  ht : PySem.W.takesIn K (.builtin "object.__class__") = some true
  hm : PySem.W.mroIn K C (.type "object") = some true
/-- the error's own dict -/
def DOk (d : Option Addr) (H : Hp) : Prop := d = none ∨ ∃ dd fs, d = some dd ∧ H dd = some (.xd fs)
section
variable {X : Cx} {a : Addr} {oe : Obj} {cls : Value} {d : Option Addr} {pn : List (Addr × Obj)}
def rIsEd (K : PySem.W.Frag) (mg : Str → Option Value) (a : Addr) (cls : Value) (d : Option Addr) : List V → Hp → VK → Prop := fun xs H Q => ∃ (C D : Addr) (x : Str) (b : Bool), xs = [.ref a, .ref D] ∧ cls = .ref C ∧ ExcCls K mg x C ∧ DOk d H ∧ PySem.W.kitOne K (.ref C) (.ref D) = some b ∧ Q (.bl b) H
theorem oex_cls {K : PySem.W.Frag} {C : Addr} (T : OexC K C) : (PySem.W.clsIn K C).isSome = true := by
  obtain ⟨nm, q, N, bs, bm, sn, sub, ab, col, dd, k0, k1, k2, k3, k5, hC, hbm⟩ := T.cls
  unfold PySem.W.clsIn
  rw [hC] <;> rfl
theorem inst_exc {pins : List (Addr × Obj)} {σ : L2.St} {H : Hp} {s : Shared} {C : Addr} (I : Inv (X.suite a ((a, oe) :: pn)) pins σ H s) (hz : Zc (.ref C) d oe) (hf : ∃ vs, oe.data = .fields vs) (hd : DOk d H) : ∃ od, PySem.W.InstAt s.heap a oe C od := by
  obtain ⟨hget, _⟩ := I.pin (a, oe) (List.mem_append_left _ List.mem_cons_self)
  obtain ⟨vs, hv⟩ := hf
  rcases hd with rfl | ⟨dd, fs, rfl, ea⟩
  · exact ⟨none, hget, hz.1, by unfold PySem.W.notCls; rw [hv] <;> rfl, by rw [hz.2]; trivial⟩
  · have hx : ObjOk X.prog X.w H s.heap dd (.xd fs) := I.hok dd _ ea
    obtain ⟨mA, hns, hr⟩ := hx
    obtain ⟨od, ho, hl⟩ := lookIn_ns hns
    exact ⟨some od, hget, hz.1, by unfold PySem.W.notCls; rw [hv] <;> rfl, by rw [hz.2]; exact ho⟩
theorem call_isEd (hz : Zc cls d oe) (hf : ∃ vs, oe.data = .fields vs) : CallR (X.suite a ((a, oe) :: pn)) (.builtin "isinstance") (rIsEd X.K X.mg a cls d) := by
  intro pins s σ H xs us Q I r h
  obtain ⟨C, D, x, b, rfl, rfl, T, hd, e, q⟩ := h
  obtain ⟨od, J⟩ := inst_exc I hz hf hd
  cases r with
  | cons rx rr =>
    cases rr with
    | cons rt rr =>
      cases rr
      cases rx
      cases rt
      exact PySem.W.kia_one (PySem.W.kitx_exc (oex_cls T.oex) T.xf.ga T.xf.gg T.xf.exC T.ha T.hn T.ht T.hm) I.kIn J e (fun z => nomatch z) fun tk => ⟨.bl b, H, I.tok tk, rfl, q⟩
end
/-! ### an error with one field, made by its __init__ -/
def spInit1 (K : PySem.W.Frag) (C : Addr) (f : Str) : Sp := fun vs H Q _ => ∃ (a : Addr) (y : V), vs = [.ref a, y] ∧ H a = some (exo a C none) ∧ ∀ dx, H dx = none → dx ≠ a → Q .non (upd (upd H dx (exd dx [(f, y)])) a (exo a C (some dx)))
/-- the __init__ of the class at C stands -/
structure ExcInit1 (P : Program) (w : World) (K : PySem.W.Frag) (mg : Str → Option Value) (base : Heap) (C : Addr) (f : Str) : Prop where
  no : PySem.W.findIn K (.ref C) f = some none
  init : ∃ (fI : Addr) (fd : FuncData) (ps : List Str), PySem.W.findIn K (.ref C) "__init__" = some (some (.ref fI)) ∧ PySem.W.typeIn K (.ref fI) = some (.type "function") ∧ FnOk P w K mg base CX0 1 fI fd ps (spInit1 K C f) ∧ Binds K fd ps []
theorem raise1 {K : PySem.W.Frag} {C : Addr} {f : Str} {H1 : Hp} {y : V} {Q : XK} (q : ∀ d H', H1 d = none → Same H1 H' → H' d = some (.xd [(f, y)]) → Q (.ref C) (some d) H') :
    ∀ a, H1 a = none → spInit1 K C f (.ref a :: ([y] ++ [])) (upd H1 a (exo a C none)) (fun v H2 => v = .non ∧ ∃ (d : Addr) (fs : List (Str × V)), H2 a = some (exo a C (some d)) ∧ H2 d = some (exd d fs) ∧ H1 d = none ∧ Q (.ref C) (some d) (upd (del H2 a) d (.xd fs))) (fun _ _ _ => False) := fun a na => by
  refine ⟨a, y, rfl, upd_same, fun dx nx ne => ⟨rfl, dx, [(f, y)], upd_same, ?_, ?_, ?_⟩⟩
  · rw [upd_ne ne, upd_same]
  · rw [upd_ne ne] at nx
    exact nx
  · have nx1 : H1 dx = none := by
      rw [upd_ne ne] at nx
      exact nx
    refine q dx _ nx1 (fun b o hb => ?_) upd_same
    have h1 : b ≠ dx := ne_of_none hb nx1
    have h2 : b ≠ a := ne_of_none hb na
    rw [upd_ne h1, del_ne h2, upd_ne h2, upd_ne h1, upd_ne h2]
    exact hb
section
variable {X : Cx} {C : Addr} {f x : Str} {W : WX} {ta : TA} {e : Expr} {p pos pos2 : Pos} {k : Nat}
theorem ps_raise1 (hc : X.calm = true) (tk : Takes X W) (T : ExcCls X.K X.mg x C) (F : ExcInit1 X.prog X.w X.K X.mg X.base C f) (hr : Room k X.A) (hk : 2 ≤ k) (ha : PA X [e] ta) (hg : Gl X x := by rfl) (hdb : (x == ("__debug__" : Str)) = false := by decide)
    (he : starEach (e :: []) X.env = (false, eval e X.env) :: starEach [] X.env := by rfl) (hpl : (backTo pos (starEach [] X.env)).any (·.1) = false := by rfl) :
    PS X (.Raise (some (.Call (.Name x p) [e] [] pos)) none pos2) (fun _ σ H => tMkO C (spInit1 X.K C f) [] ta σ H fun cls d H' => W cls d σ H') := by
  obtain ⟨fI, fd, ps, iC, tI, F1, hb⟩ := F.init
  exact ps_raise hc tk (pmk_oex (dvs := []) T.oex iC tI F1 (hr.mono hk) hb .nil pass0 hg T.gC ha hdb he hpl)
end
/-! ### defs that may raise -/
section
variable {P : Program} {w : World} {K : PySem.W.Frag} {mg : Str → Option Value} {base : Heap}
theorem DefAt.calX {x : Str} {st : Stmt} {N ps : List Str} {k : Nat} {sp : Sp} (D : DefAt K mg x st ps) (S : FnScope N ps (defScope st)) (len : ∀ vs H Q E, sp vs H Q E → vs.length = ps.length)
    (hbody : ∀ (f : Addr) (cdv : Value) (A : Around) (outer : List Env) (s : Shared) (H : Hp) (vs : List V) (Q : VK) (E : XK), Room k (A.deeper (envOfC x (defScope st) s.heap.objs.size f cdv)) → sp vs H Q E →
      ∃ t, PSs (cxOf (L2.CX P w) P w K mg base N x (defScope st) f cdv A outer s H E) (defBody st) t ∧ t { nx := fun _ H' => Q .non H', rt := Q } (start N vs) H) : Cal P w K mg base (L2.CX P w) x (k + 1) ps sp := by
  obtain ⟨f, fd, F, m, b⟩ := D.ex
  exact ⟨f, fd, F.okX S len (hbody f), m, F.kp, b⟩
end
section
variable {X : Cx} {k j : Nat} {ps : List Str} {sp : Sp} {x : Str} {p pos : Pos} {e : Expr} {es : List Expr} {t : TA} {W : WX}
/-- a call of a def that may raise: what it lets out is wished for here -/
theorem pe_ownS (C : Cal X.prog X.w X.K X.mg X.base (L2.CX X.prog X.w) x k ps sp) (tk : Takes X W) (hr : Room j X.A) (hk : k ≤ j) (ha : PA X (e :: es) t) (hg : Gl X x := by rfl) (hdb : (x == ("__debug__" : Str)) = false := by decide)
    (he : starEach (e :: es) X.env = (false, eval e X.env) :: starEach es X.env := by rfl) (hpl : (backTo pos (starEach es X.env)).any (·.1) = false := by rfl) : PE X (.Call (.Name x p) (e :: es) [] pos) (tCallS sp (WE W) t) := by
  obtain ⟨f, fd, F, m, kp, b⟩ := C.ex
  exact pe_callS F (hr.mono hk) hg m kp b (fun σ => passAt tk σ) ha hdb he hpl
end
section
variable {X : Cx} {k j : Nat} {ps : List Str} {sp : Sp} {x : Str} {p pos : Pos} {e : Expr} {es : List Expr} {t : TA}
/-- a call of such a def where it raises nothing -/
theorem pe_ownL (C : Cal X.prog X.w X.K X.mg X.base (L2.CX X.prog X.w) x k ps sp) (hr : Room j X.A) (hk : k ≤ j) (ha : PA X (e :: es) t) (hg : Gl X x := by rfl) (hdb : (x == ("__debug__" : Str)) = false := by decide)
    (he : starEach (e :: es) X.env = (false, eval e X.env) :: starEach es X.env := by rfl) (hpl : (backTo pos (starEach es X.env)).any (·.1) = false := by rfl) : PE X (.Call (.Name x p) (e :: es) [] pos) (tCall sp [] E0 t) := by
  obtain ⟨f, fd, F, m, kp, b⟩ := C.ex
  exact pe_call F (hr.mono hk) hg m kp b .nil passL ha hdb he hpl
end
/-! ### one step at a time -/
theorem asg_lst {t : TA} {g : TG} {D : Ends} {σ : L2.St} {H : Hp} (h : t σ H (fun xs H1 => xs.length ≤ sizeLine ∧ ∀ p, H1 p = none → g (.ref p) σ (upd H1 p (.lst xs)) D.nx)) : tAsg (tLst t) g D σ H := h
theorem asg_op {r : R2} {i : Nat} {v : V} {t : TA} {g : TG} {D : Ends} {σ : L2.St} {H : Hp} (e : σ[i]? = some (some v)) (h : t σ H (fun xs H1 => xs.length ≤ sizeLine ∧ ∀ p, H1 p = none → r v (.ref p) (upd H1 p (.lst xs)) fun z H3 => g z σ H3 D.nx)) : tAsg (tOp r (tVar i) (tLst t)) g D σ H := ⟨v, e, h⟩
theorem seq_of {t u : TS} {D : Ends} {σ : L2.St} {H : Hp} (h : t { D with nx := u D } σ H) : tSeq t u D σ H := h
theorem next_of {D : Ends} {σ : L2.St} {H : Hp} (h : D.nx σ H) : tNext D σ H := h
theorem if_not {A B : Prop} (h : B) : if (!true) = true then A else B := h
/-! ### lists of pairs, a text and a number -/
/-- an expression that gives the text s, laying things at most -/
def Evs (ta : TE) (s : Str) : Prop := ∀ σ H (Q : VK), (∀ H', Same H H' → Q (.str s) H') → ta σ H Q
theorem evs_c {s : Str} : Evs (tC (.str s)) s := fun σ H Q q => q H (Same.refl H)
def tPairs : List (TE × V) → TA
  | [] => tNil
  | p :: r => tCons (tTup (tCons p.1 (tCons (tC p.2) tNil))) (tPairs r)
abbrev PairsAt (H : Hp) : List Addr → List (Str × V) → Prop := Paired fun a q => H a = some (.tup [.str q.1, q.2])
theorem PairsAt.same {H H' : Hp} (s : Same H H') : ∀ {as : List Addr} {qs : List (Str × V)}, PairsAt H as qs → PairsAt H' as qs
  | _, _, .nil => .nil
  | _, _, .cons h r => .cons (s _ _ h) (PairsAt.same s r)
theorem PairsAt.app {H : Hp} : ∀ {as bs : List Addr} {qs rs : List (Str × V)}, PairsAt H as qs → PairsAt H bs rs → PairsAt H (as ++ bs) (qs ++ rs)
  | _, _, _, _, .nil, h => h
  | _, _, _, _, .cons h r, h' => .cons h (PairsAt.app r h')
theorem PairsAt.get {H : Hp} : ∀ {as : List Addr} {qs : List (Str × V)} {i : Nat} {a : Addr}, PairsAt H as qs → as[i]? = some a → ∃ q, qs[i]? = some q ∧ H a = some (.tup [.str q.1, q.2])
  | _, _, _, _, .nil, e => by simp at e
  | _, _, 0, _, .cons h r, e => by
    have e := Option.some.inj e
    subst e
    exact ⟨_, rfl, h⟩
  | _, _, i + 1, _, .cons h r, e => PairsAt.get (i := i) r e
theorem pairs_run : ∀ {ps : List (TE × V)} {qs : List (Str × V)}, Paired (fun p q => Evs p.1 q.1 ∧ p.2 = q.2) ps qs → ∀ (σ : L2.St) (H : Hp) (Q : List V → Hp → Prop), (∀ as H', Same H H' → PairsAt H' as qs → Q (as.map V.ref) H') → tPairs ps σ H Q
  | _, _, .nil, σ, H, Q, q => q [] H (Same.refl H) .nil
  | _, _, @Paired.cons _ _ _ p w ps qs h r, σ, H, Q, q => by
    obtain ⟨h1, h2⟩ := h
    refine h1 σ H _ fun H1 s1 => ?_
    refine ⟨Nat.le_of_ble_eq_true rfl, fun a na => ?_⟩
    refine pairs_run r σ _ _ fun as H2 s2 hp => ?_
    refine q (a :: as) H2 (Same.trans (Same.trans s1 (Same.new na)) s2) (.cons ?_ hp)
    rw [← h2]
    exact s2 _ _ upd_same
theorem rows_first {ps : List (TE × V)} {qs : List (Str × V)} {i : Nat} {D : Ends} {σ : L2.St} {H : Hp} (hp : Paired (fun p q => Evs p.1 q.1 ∧ p.2 = q.2) ps qs) (hl : qs.length ≤ 1000)
    (k : ∀ (as : List Addr) (R : Addr) (H' : Hp), Same H H' → PairsAt H' as qs → H' R = some (.lst (as.map V.ref)) → as.length = qs.length → D.nx (σ.set i (some (.ref R))) H') : tAsg (tLst (tPairs ps)) (gName i) D σ H := by
  refine pairs_run hp σ H _ fun as H1 s1 pa => ?_
  have la : as.length = qs.length := Paired.length pa
  refine ⟨small_le (by rw [List.length_map]; omega), fun R nR => ?_⟩
  exact k as R _ (Same.trans s1 (Same.new nR)) (PairsAt.same (Same.new nR) pa) upd_same la
theorem rows_step {ps : List (TE × V)} {qs qs' : List (Str × V)} {i : Nat} {D : Ends} {σ : L2.St} {H : Hp} {R : Addr} {as : List Addr} (hp : Paired (fun p q => Evs p.1 q.1 ∧ p.2 = q.2) ps qs') (hR : H R = some (.lst (as.map V.ref))) (pa : PairsAt H as qs)
    (hs : σ[i]? = some (some (.ref R))) (hl : as.length + qs'.length ≤ 1000)
    (k : ∀ (as' : List Addr) (R' : Addr) (H' : Hp), Same H H' → PairsAt H' as' (qs ++ qs') → H' R' = some (.lst (as'.map V.ref)) → as'.length = as.length + qs'.length → D.nx (σ.set i (some (.ref R'))) H') : tAsg (tOp rCat (tVar i) (tLst (tPairs ps))) (gName i) D σ H := by
  refine ⟨_, hs, pairs_run hp σ H _ fun bs H1 s1 pb => ?_⟩
  have lb : bs.length = qs'.length := Paired.length pb
  refine ⟨small_le (by rw [List.length_map]; omega), fun B nB => ?_⟩
  refine ⟨R, B, as.map V.ref, bs.map V.ref, rfl, rfl, Same.new nB _ _ (s1 _ _ hR), upd_same, small_le (by rw [List.length_map, List.length_map]; omega), fun R' nR' => ?_⟩
  have s2 : Same H1 (upd (upd H1 B (.lst (bs.map V.ref))) R' (.lst (as.map V.ref ++ bs.map V.ref))) := Same.trans (Same.new nB) (Same.new nR')
  refine k (as ++ bs) R' _ (Same.trans s1 s2) (PairsAt.app (PairsAt.same (Same.trans s1 s2) pa) (PairsAt.same s2 pb)) (by rw [upd_same, List.map_append]) (by rw [List.length_append, lb])
/-! ### __init__: self.f = f -/
/-- the class's __init__, as it stands -/
structure MetAt (K : PySem.W.Frag) (C : Addr) (m qual : Str) (st : Stmt) (ps : List Str) : Prop where
  ex : ∃ (f : Addr) (fd : FuncData), PySem.W.findIn K (.ref C) m = some (some (.ref f)) ∧ PySem.W.typeIn K (.ref f) = some (.type "function") ∧ Fun K m qual st f fd ∧ Binds K fd ps []
/-! ### enumerate over a tuple -/
theorem enNewB {v : Value} {ob : Obj} {Hh : Heap → Prop} (B : Begins v ob Hh) :
    Meets (Builtin.«enumerate.__new__» ⟨[.type "enumerate", v], []⟩) (fun _ R z => Hh z.heap ∧
      R (.ok (.ret (.ref (z.heap.push ob).objs.size))) { z with heap := (z.heap.push ob).push { cls := .type "enumerate", data := .fields #[.none, .bool false, .ref z.heap.objs.size, rawInt 0, .none, .none] } }) :=
  .of_wp fun prog w A R z hz => by
    obtain ⟨hp, gs, dr, tk, os⟩ := z
    obtain ⟨hB, fin⟩ := hz
    have hsub := sub_enumerate
    have begin1 : ∀ {A' : Around} {E : Value → Shared → Prop} {Q : Value → Shared → Prop}, Q (.ref hp.objs.size) ⟨hp.push ob, gs, dr, tk, os⟩ → wpAny (model prog w) A' (pyIter v) Q E ⟨hp, gs, dr, tk, os⟩ :=
      fun q => B.iter prog w _ _ ⟨hp, gs, dr, tk, os⟩ _ hB q
    wp_walk using begin1
    refine wpAny_stack_any fun _ => wpAny_pure ?_
    split
    · rename_i c _ _ _ _ _
      cases (c == Value.type "enumerate") <;> (wp_walk using begin1; exact ⟨_, rfl, fin⟩)
    · wp_walk using begin1
      exact ⟨_, rfl, fin⟩
theorem enCallB {prog : Program} {w : World} {A : Around} {E : Value → Shared → Prop} {z : Shared} {v : Value} {ob : Obj} {Hh : Heap → Prop} {Q : Value → Shared → Prop} (B : Begins v ob Hh) (hB : Hh z.heap)
    (fin : ∀ h', IsEnum h' (z.heap.objs.size + 1) z.heap.objs.size 0 .none → h'.get? z.heap.objs.size = some ob →
      (∀ b o, z.heap.get? b = some o → h'.get? b = some o) → Q (.ref (z.heap.objs.size + 1)) { z with heap := h' }) :
    wpAny (model prog w) A (call (.type "enumerate") [v]) Q E z := by
  refine callType_new F.called_enumerate (by decide) (F.typeCall_enumerate_1 _) (F.newCall_enumerate_1 _) (fun obj => F.args_object_init_2 obj _) F.entry_enumerate_new (enNewB B) ⟨hB, ?_⟩
  have sz : (z.heap.push ob).objs.size = z.heap.objs.size + 1 := Heap.size_push ..
  have top := Heap.get?_push_size (z.heap.push ob) (o := { cls := .type "enumerate", data := .fields #[.none, .bool false, .ref z.heap.objs.size, rawInt 0, .none, .none] }) rfl
  rw [sz] at top
  show _ ∧ _
  rw [sz]
  exact ⟨⟨_, top, rfl⟩, fin _ top (Heap.get?_push_of_some _ (Heap.get?_push_size _ B.free)) fun b o x => Heap.get?_push_of_some _ (Heap.get?_push_of_some _ x)⟩

/-- the tuple at a, each item with its count in a pair of its own -/
def ItEn (K : PySem.W.Frag) (a : Addr) : It where
  go i H := ∃ (xs : List V) (x : V), SqT K H a xs ∧ xs[i]? = some x
  yld i H v H' := ∃ T x, v = .ref T ∧ H T = none ∧ H' = upd H T (.tup [.int (i : Nat), x]) ∧ ∀ xs, SqT K H a xs → xs[i]? = some x
  stop i H := ∃ xs : List V, SqT K H a xs ∧ xs.length ≤ i
theorem turnEn {P : Program} {w : World} {K : PySem.W.Frag} {elts : List Expr} {kk : Nat} {tpos : Pos} (a e it : Addr) :
    Turn P w K (.Tuple elts kk tpos) (ItEn K a) [e, it] e (fun i h => (∃ old, IsEnum h e it ((i : Nat) : Int) old) ∧ h.IsTupleIter it a i ∧ e ≠ it) where
  mem := List.mem_cons_self
  obj i h st b hb := by
    obtain ⟨⟨old, he⟩, ⟨o, ho, hc, hd⟩, _⟩ := st
    rcases List.mem_cons.mp hb with rfl | hb
    · exact ⟨_, he, fun v q => nomatch q⟩
    · cases List.mem_singleton.mp hb
      exact ⟨o, ho, fun v q => by rw [hd] at q; cases q⟩
  keep i h h' st k := by
    obtain ⟨⟨old, he⟩, hi, hne⟩ := st
    exact ⟨⟨old, k e List.mem_cons_self _ he⟩, hi.at fun o q => k it (List.mem_cons_of_mem _ List.mem_cons_self) o q, hne⟩
  item := by
    intro X hP hw hK hc i pins s σ H E I hf st hg
    subst hP hw hK
    obtain ⟨⟨old, he⟩, hit, hne⟩ := st
    obtain ⟨xs, x, hq, hx⟩ := hg
    obtain ⟨its, rv, p, hz⟩ := I.tuple hq
    obtain ⟨u, hu, ru⟩ := rv.get hx
    have ht : s.heap.IsTuple a its.toArray := p
    have tof : it ∈ [e, it] := List.mem_cons_of_mem _ List.mem_cons_self
    have le : e < s.heap.objs.size := Heap.lt_size he
    have li : it < s.heap.objs.size := by obtain ⟨_, q, _⟩ := hit; exact Heap.lt_size q
    have ane : a ≠ it := fun z => by
      obtain ⟨o1, g1, c1, _⟩ := hit
      obtain ⟨o2, g2, c2, _⟩ := ht
      rw [z, g1] at g2
      cases g2
      rw [c1] at c2
      exact absurd c2 (by decide)
    have ane2 : a ≠ e := fun z => by
      obtain ⟨o2, g2, c2, _⟩ := ht
      rw [z, he] at g2
      cases g2
      exact absurd (show Value.type "enumerate" = Value.type "tuple" from c2) (by decide)
    have D := Draws.tuple (prog := X.prog) (w := X.w) (A := X.A.in1) (I.ok.hd hc) it a ane its.toArray
    have hlt : i < its.toArray.size := by
      rw [List.size_toArray]
      exact (List.getElem?_eq_some_iff.mp hu).1
    refine wpAny_pyNext_enum_itemD D he ⟨hit, ht⟩ hlt hne (fun z => ?_) fun u2 h' tk hP ho st' hT hsz hk => ?_
    · rcases List.mem_cons.mp z with z | z
      · exact hne z
      · exact ane2 (List.mem_singleton.mp z).symm
    have eu : u2 = u := by
      have q : its.toArray[i]? = some u2 := hP
      rw [List.getElem?_toArray, hu] at q
      exact (Option.some.inj q).symm
    subst eu
    refine ⟨_, rfl, wpAny_letOwnedTupleGo_enum (s := { s with heap := h', toks := tk + 1 }) ho fun h2 he2 sb => ?_⟩
    have gT : h2.get? s.heap.objs.size = some { cls := .type "tuple", data := .seq #[.int i tk, u2] } := (sb.2 _ (Nat.ne_of_gt le)).trans hT
    have okT : ObjOk X.prog X.w (upd H s.heap.objs.size (.tup [.int (i : Nat), x])) h2 s.heap.objs.size (.tup [.int (i : Nat), x]) :=
      ⟨by show 2 ≤ sizeLine; decide, [.int i tk, u2], .cons ⟨_, rfl⟩ (.cons ru .nil), ⟨_, gT, rfl, _, rfl⟩⟩
    have J : Inv X pins σ (upd H s.heap.objs.size (.tup [.int (i : Nat), x])) { s with heap := h2, toks := tk + 1 } := by
      refine I.turnedNew (ch := [e, it]) (fun b ob hb q => ?_) hf (Nat.le_refl _) okT
      have b1 : b ≠ e := fun z => hb (z ▸ List.mem_cons_self)
      have b2 : b ≠ it := fun z => hb (z ▸ tof)
      exact (sb.2 b b1).trans (hk b ob b1 b2 q)
    refine ⟨.ref s.heap.objs.size, _, J, rfl, ⟨_, x, rfl, I.hok.fresh (Nat.le_refl _), rfl, fun ys hy => ?_⟩, ⟨⟨u2, ?_⟩, st'.1.at fun o q => (sb.2 it (Ne.symm hne)).trans q, hne⟩, fun b hb => ?_⟩
    · rw [I.tuple_inj hy hq]
      exact hx
    · have e1 : ((i + 1 : Nat) : Int) = (i : Int) + 1 := Int.natCast_succ i
      rw [e1]
      exact he2
    · have lb : b < s.heap.objs.size := by
        rcases List.mem_cons.mp hb with z | z
        · exact z ▸ le
        · exact List.mem_singleton.mp z ▸ li
      rw [upd_ne (Nat.ne_of_lt lb)]
      exact (hf b hb).1
  done := by
    intro X hP hw hK hc i pins s σ H E I hf st hg
    subst hP hw hK
    obtain ⟨⟨old, he⟩, hit, hne⟩ := st
    obtain ⟨xs, hq, hx⟩ := hg
    obtain ⟨its, rv, p, hz⟩ := I.tuple hq
    have ht : s.heap.IsTuple a its.toArray := p
    have fit := hf it (List.mem_cons_of_mem _ List.mem_cons_self)
    have hT : s.TypeIs (.ref e) "enumerate" := ⟨_, he, rfl⟩
    have none1 : its.toArray[i]? = none := by
      have := rv.length
      rw [List.getElem?_toArray]
      exact List.getElem?_eq_none (by omega)
    unfold pyNext
    refine wpAny_bind (wpAny_attempt (wpAny_callSpecial?_slot (name := Str.ofString "__next__") hT F.slot_enumerate_next (wpAny_call_entry F.slot_enumerate_next hT F.entry_enumerate_next ?_ (F.args_enumerate_next_1 _))))
    show wpAny _ _ (field (.ref e) 2 >>= _) _ _ _
    refine wpAny_bind (wpAny_field he rfl (x := .ref it) rfl ?_)
    refine wpAny_bind (wpAny_nextOf_tuple_end (I.ok.hd hc) hit ht none1 fun h2 x2 eb ⟨ox, hox, hcx⟩ => ?_)
    refine wpAny_bind (wpAny_isInstance (T := "StopIteration") (b := true) ⟨ox, hox, hcx⟩ isSubtype_stop ?_)
    exact wpAny_pure ⟨rfl, I.turned (t' := s.toks) (fun b o hb q => eb b o hb q) fit.1 fit.2.1 fit.2.2.2.1 fit.2.2.2.2.1 fit.2.2.2.2.2⟩
  self A i s Q E st h := let ⟨⟨_, he⟩, _⟩ := st; wpAny_pyIter_enum he h
def iEnT (K : PySem.W.Frag) (ta : TA) : TI := fun σ H R => ta σ H fun vs H1 => ∃ a xs, vs = [.ref a] ∧ SqT K H1 a xs ∧ R (ItEn K a) H1
theorem pi_enT {X : Cx} {e : Expr} {ta : TA} {p pos tpos : Pos} {elts : List Expr} {kk : Nat} (hg : Gl X "enumerate") (hm : X.mg "enumerate" = none) (ha : PA X [e] ta) (hs : starEach [e] X.env = [(false, eval e X.env)] := by rfl) :
    PI X (.Tuple elts kk tpos) (.Call (.Name "enumerate" p) [e] [] pos) (iEnT X.K ta) := by
  refine ⟨fun pins s σ H R I h => ?_⟩
  refine Call_ (ld_blt I hg hm boot_enumerate (PyProof.Rows.callWith_type1 (thn (ha.run pos pins s σ H _ I h) fun us s1 ⟨vs, H1, I1, r1, q1⟩ => ?_) hs rfl))
  obtain ⟨a, xs, rfl, hq, q⟩ := q1
  obtain ⟨u, rfl, ru⟩ := vals1 r1
  obtain rfl : u = Value.ref a := ru
  obtain ⟨its, rv, p', hz⟩ := I1.tuple hq
  refine enCallB (begins_tuple a its.toArray) p' fun h' he hit hk => wpAny_pyIter_enum he ?_
  have I2 : Inv X pins σ H1 { s1 with heap := h' } := I1.kept (t' := s1.toks) hk
  refine ⟨s1.heap.objs.size + 1, [s1.heap.objs.size + 1, s1.heap.objs.size], _, _, H1, rfl, I2, turnEn a (s1.heap.objs.size + 1) s1.heap.objs.size, ⟨⟨.none, he⟩, ⟨_, hit, rfl, rfl⟩, Nat.succ_ne_self _⟩, fun b hb => ?_, q⟩
  have up : s1.heap.objs.size ≤ b := by
    rcases List.mem_cons.mp hb with z | z
    · rw [z]
      exact Nat.le_succ _
    · rw [List.mem_singleton.mp z]
      exact Nat.le_refl _
  exact I1.fpOk up (I1.hok.fresh up)
theorem walkEn {K : PySem.W.Frag} {a : Addr} {xs : List V} : Walk (ItEn K a) xs.length (fun H => SqT K H a xs) (YPair (fun i => some (.int (i : Nat))) (fun i => xs[i]?)) where
  goes i _ hi q := ⟨xs, xs[i], q, List.getElem?_eq_getElem hi⟩
  stops _ q := ⟨xs, q, Nat.le_refl _⟩
  yields i H v H' _ q y := by
    obtain ⟨T, x, h1, h2, h3, h4⟩ := y
    exact ⟨T, .int (i : Nat), x, h1, h2, h3, rfl, h4 xs q⟩
/-! ### a dict whose keys are tuples, made by a comprehension -/
theorem dsetT {X : Cx} {pins : List (Addr × Obj)} {σ : L2.St} {H : Hp} {z : Shared} {E : Value → Shared → Prop} {D b : Addr} {kvs : List (List Key × V)} {k : List Key} {v : V} {r : Value} {Q : Unit → Shared → Prop}
    (room : X.A.units < cLine) (I : Inv X pins σ H z) (hD : H D = some (.dT kvs)) (hb : H b = some (.tup (k.map kV))) (lt : kvs.length < sizeLine) (rv : RelV v r)
    (fin : ∀ z', Inv X pins σ (upd H D (.dT (putK kvs k v))) z' → Q () z') : wpAny (model X.prog X.w) X.A (dictSet D (.ref b) r) Q E z := by
  obtain ⟨_, hs, xs, kt, dd⟩ := dt_of I.hok hD
  have small : xs.length ≤ sizeLine := by
    rw [← Paired.length kt]
    omega
  have grown : (putK kvs k v).length ≤ sizeLine := by
    have := length_putK kvs k v
    omega
  refine wpAny_dictSet_heap (hsz := small) room (key_of I.hok hb) dd fun h2 d2 sb => fin _ ?_
  obtain ⟨o2, es, ep, g2, c2, t2, e2, _, n2⟩ := d2
  refine d_write I (by rw [hD]; trivial) sb ⟨o2, g2⟩ ⟨grown, hs, _, (kt.put k hb rv).keeps fun c ys ec => ?_, o2, es, ep, g2, c2, t2, e2, n2⟩
  exact (upd_ne (ne_of ec hD (fun z => nomatch z))).trans ec
def tDcT (wi : TI) (g : TG) (tk tv : TE) (own : List Nat) : TE := fun σ H Q => wi σ H fun J H1 => ∀ D, H1 D = none → ∃ W : Nat → Nat → Hp → Prop, (∃ m, W 0 m (upd H1 D (.dT []))) ∧ ∀ i m H, W i m H →
  (J.stop i H ∧ Q (.ref D) H) ∨ (J.go i H ∧ ∃ Nx : Hp → Prop, (∀ H', Nx H' → ∃ m', m' < m ∧ W (i + 1) m' H') ∧ ∀ x H', J.yld i H x H' → g x (wipe σ own) H' fun σ2 H2 => wipe σ2 own = wipe σ own ∧
    tk σ2 H2 fun y H3 => tv σ2 H3 fun c H4 => ∃ kvs k b, y = .ref b ∧ H4 b = some (.tup (k.map kV)) ∧ H4 D = some (.dT kvs) ∧ kvs.length < sizeLine ∧ Nx (upd H4 D (.dT (putK kvs k c))))
theorem pe_dcT {X : Cx} {kx vx tg iter : Expr} {scope : Scope} {own : List (Str × Nat)} {pos : Pos} {wi : TI} {g : TG} {tk tv : TE} (calm : X.calm = true) (room : X.A.units < cLine) (nd : X.N.Nodup) (src : PI X tg iter wi) (blk : BlkOk X.N X.env.scope scope own)
    (aim : ∀ (z : Shared) (Hz : Hp) (cl : List (Str × Addr)) (C : Addr) (fp : List Addr), PG (X.blk z Hz scope (compEnvC scope cl C X.env) fp) tg g)
    (key : ∀ (z : Shared) (Hz : Hp) (cl : List (Str × Addr)) (C : Addr) (fp : List Addr), PE (X.blk z Hz scope (compEnvC scope cl C X.env) fp) kx tk)
    (val : ∀ (z : Shared) (Hz : Hp) (cl : List (Str × Addr)) (C : Addr) (fp : List Addr), PE (X.blk z Hz scope (compEnvC scope cl C X.env) fp) vx tv) (plain : ∀ x, foldedSetIterable iter X.env x = pure x := by intro _; rfl) :
    PE X (.DictComp kx vx [⟨tg, iter, [], 0⟩] scope pos) (tDcT wi g tk tv (own.map (·.2))) := by
  refine ⟨fun pins s σ H Q I want => ?_⟩
  rw [arm_eval_DictComp]
  have outer : ∀ y ∈ scope.names, y.2 = .free → ∃ c, X.env.cells.lookup y.1 = some c := fun y hy e => (blk.free y hy e).elim (fun k => I.ok.has _ (.inl k)) fun k => I.ok.has _ (.inr k)
  refine wpAny_comprehension_free (use := none) rfl plain (closure_ok outer) blk.kind (fun y hy e => by rw [blk.uniq y hy, e]) (thn (src.run pins s σ H _ I want) fun _ _ begun => thn begun fun itv s2 ready => ?_)
  obtain ⟨it, fp, tn, J, H2, rfl, I2, T, at0, out2, rest⟩ := ready
  refine wpAny_newObj_type (newEnv_comp ?_)
  have fresh : H2 s2.heap.objs.size = none := I2.hok.fresh (Nat.le_refl _)
  obtain ⟨W, ⟨m0, w0⟩, turn⟩ := rest _ fresh
  have laid := I2.laid (a := s2.heap.objs.size) (o := .dT []) (t' := s2.toks) (fun b o e => Heap.get?_push_of_some _ e) (Nat.le_refl _) (dt_empty s2.heap I2.big)
  have below : ∀ b ∈ fp, b < s2.heap.objs.size := fun b hb => let ⟨_, e, _⟩ := T.obj _ _ at0 b hb; Heap.lt_size e
  have fp3 : ∀ b ∈ fp, FpOk X pins (upd H2 s2.heap.objs.size (.dT [])) b ∧ b < (s2.heap.push { cls := .type "dict", data := .dict #[] }).objs.size := fun b hb => by
    refine ⟨⟨(upd_ne (Nat.ne_of_lt (below b hb))).trans (out2 b hb).1, (out2 b hb).2⟩, ?_⟩
    rw [Heap.size_push]
    exact Nat.lt_succ_of_lt (below b hb)
  have at3 : tn 0 (s2.heap.push { cls := .type "dict", data := .dict #[] }) := T.keep _ _ _ at0 fun b _ o e => Heap.get?_push_of_some _ e
  generalize hz : ({ s2 with heap := s2.heap.push { cls := .type "dict", data := .dict #[] } } : Shared) = z at laid
  have hzh : z.heap = s2.heap.push { cls := .type "dict", data := .dict #[] } := by rw [← hz]
  rw [← hzh] at fp3 at3
  have inner := block_start laid blk nd fp3
  have aim' := aim z (upd H2 s2.heap.objs.size (.dT [])) (cellsFrom (z.heap.objs.size + 1) scope.names (cloFrom X.env.cells scope.names [])) z.heap.objs.size fp
  have key' := key z (upd H2 s2.heap.objs.size (.dT [])) (cellsFrom (z.heap.objs.size + 1) scope.names (cloFrom X.env.cells scope.names [])) z.heap.objs.size fp
  have val' := val z (upd H2 s2.heap.objs.size (.dT [])) (cellsFrom (z.heap.objs.size + 1) scope.names (cloFrom X.env.cells scope.names [])) z.heap.objs.size fp
  have noFp : ∀ b ∈ fp, upd H2 s2.heap.objs.size (.dT []) b = none := fun b hb => (fp3 b hb).1.1
  have goal2 : codeAny (model X.prog X.w) X.A (.compStart (.DictComp kx vx [⟨tg, iter, [], 0⟩] scope pos) 0 (.ref it) (.ref s2.heap.objs.size) (compEnvC scope (cellsFrom (z.heap.objs.size + 1) scope.names (cloFrom X.env.cells scope.names [])) z.heap.objs.size X.env))
      (compPost (model X.prog X.w) X.A X.xe none (EP X pins σ Q) (.ref s2.heap.objs.size) z.heap.objs.size) { z with heap := pushCells (z.heap.push { cls := .type "dict", data := .dict #[] }) scope.names } := ?_
  · exact goal2
  generalize hce : compEnvC scope (cellsFrom (z.heap.objs.size + 1) scope.names (cloFrom X.env.cells scope.names [])) z.heap.objs.size X.env = ce at inner aim' key' val' ⊢
  have loc : ce.locals = z.heap.objs.size := by rw [← hce]; rfl
  generalize hB : upd H2 s2.heap.objs.size (.dT []) = Hb at laid inner aim' key' val' w0 noFp fp3
  generalize hs4 : ({ z with heap := pushCells (z.heap.push { cls := .type "dict", data := .dict #[] }) scope.names } : Shared) = s4 at inner ⊢
  have at4 : tn 0 s4.heap := T.keep _ _ _ at3 fun b _ o e => by
    rw [← hs4]
    exact pushCells_keeps _ _ _ _ (Heap.get?_push_of_some _ e)
  have apart : ∀ {σ1 : L2.St} {H1 : Hp} {z1 : Shared}, Inv (X.blk z Hb scope ce fp) [] σ1 H1 z1 → (∀ b ∈ fp, H1 b = none) → ∀ b ∈ fp, FpOk (X.blk z Hb scope ce fp) [] H1 b := fun I1 n1 b hb =>
    ⟨n1 b hb, (I1.ok.exf b hb).1, I1.ok.exfs b hb, .inl hb, fun x c e => (I1.ok.exf b hb).2 x c e, fun p hp => nomatch hp⟩
  have loop : codeAny (model X.prog X.w) X.A (.compLoop (.DictComp kx vx [⟨tg, iter, [], 0⟩] scope pos) 0 (.ref it) (.ref s2.heap.objs.size) ce) (compPost (model X.prog X.w) X.A X.xe none (EP X pins σ Q) (.ref s2.heap.objs.size) z.heap.objs.size) s4 := by
    refine compLoop_anyD (fun n z1 => ∃ i H1, Inv (X.blk z Hb scope ce fp) [] (wipe σ (own.map (·.2))) H1 z1 ∧ tn i z1.heap ∧ (∀ b ∈ fp, H1 b = none) ∧ W i n H1) ?_ m0 ⟨0, Hb, inner, at4, noFp, w0⟩
    rintro n z5 ⟨i, H5, I5, at5, n5, w5⟩
    cases turn i n H5 w5 with
    | inl over =>
      obtain ⟨stop, told⟩ := over
      refine thnF (T.done (X.blk z Hb scope ce fp) rfl rfl rfl calm i [] z5 _ H5 (fun _ _ => False) I5 (apart I5 n5) at5 stop) fun r z6 ⟨hr, I6⟩ => ?_
      subst hr
      have back : Inv X pins σ H5 z6 := laid.call' (ch := fp) I6.os I6.base I6.hok I6.bare fun b hb => let f := (fp3 b hb).1; ⟨f.2.2.2.1, f.2.1, f.2.2.2.2.1, f.2.2.2.2.2⟩
      have nL : H5 z.heap.objs.size = none := by rw [← loc]; exact I6.free
      obtain ⟨m, ns, _⟩ := I6.loc
      have ns' : z6.heap.Ns ce.locals m := ns
      rw [loc] at ns'
      refine ⟨m, ns', fun h7 sb => ?_⟩
      have f := laid.fpOk (Nat.le_refl z.heap.objs.size) nL
      exact ⟨.ref s2.heap.objs.size, H5, back.turned (t' := z6.toks) (fun b o hb e => (sb.2 b hb).trans e) f.1 f.2.1 f.2.2.2.1 f.2.2.2.2.1 f.2.2.2.2.2, rfl, told⟩
    | inr more =>
      obtain ⟨go, Nx, after, step⟩ := more
      refine thnF (T.item (X.blk z Hb scope ce fp) rfl rfl rfl calm i [] z5 _ H5 (fun _ _ => False) I5 (apart I5 n5) at5 go) fun r z6 ⟨u, hr, h6⟩ => ?_
      subst hr
      refine thnF h6 fun _ z7 ⟨x, H7, I7, r7, y7, at7, n7⟩ => ?_
      refine thnF (aim'.run _ z7 _ H7 x u _ (I7.pinned (apart I7 n7) (T.obj _ _ at7)) r7 (step x H7 y7)) fun _ z8 ⟨σ8, H8, I8, same8, q8⟩ => ?_
      refine wpAny_pure ?_
      show if true = true then _ else _
      rw [if_pos rfl]
      refine thnF (key'.run _ z8 σ8 H8 _ I8 q8) fun ky z9 ⟨yk, H9, I9, r9, q9⟩ => ?_
      refine thnF (val'.run _ z9 σ8 H9 _ I9 q9) fun vy z10 ⟨yv, H10, I10, r10, kvs, k, b, eb, hb10, hD10, lt10, nx⟩ => ?_
      subst eb
      obtain rfl : ky = Value.ref b := r9
      refine dsetT (X := X.blk z Hb scope ce fp) room I10 hD10 hb10 lt10 r10 fun z11 I11 => ?_
      obtain ⟨m', less, w'⟩ := after _ nx
      have pin : ∀ c ∈ fp, ∀ o, z7.heap.get? c = some o → z11.heap.get? c = some o ∧ upd H10 s2.heap.objs.size (.dT (putK kvs k yv)) c = none := fun c hc o e => by
        have p := I11.pin (c, o) (List.mem_append_right _ (List.mem_append_right _ (mem_pinsAt hc e)))
        exact ⟨p.1, p.2.1⟩
      refine ⟨m', less, i + 1, _, (I11.unpinned (pins := [])).weak ?_ (fun j v e => ?_), T.keep _ _ _ at7 fun c hc o e => (pin c hc o e).1, fun c hc => ?_, w'⟩
      · rw [← same8, wipe_length]
      · rw [← same8] at e
        exact (wipe_some e).1
      · obtain ⟨o, e, _⟩ := T.obj _ _ at7 c hc
        exact (pin c hc o e).2
  exact codeAny_compStart_dict loop (T.self X.A 0 _ _ _ at4 loop)
/-! ### sorting tuples of ints -/
/-- the order of tuples of ints -/
def ltZ : List Int → List Int → Bool
  | [], [] => false
  | [], _ :: _ => true
  | _ :: _, [] => false
  | x :: r, y :: t => decide (x < y) || (!decide (y < x) && ltZ r t)
theorem ltZ_lex : ∀ a b : List Int, lexLt itemOrd (a.map Sum.inl) (b.map Sum.inl) = ltZ a b
  | [], [] => rfl
  | [], _ :: _ => rfl
  | _ :: _, [] => rfl
  | x :: r, y :: t => by
    show lexLt itemOrd (Sum.inl x :: r.map Sum.inl) (Sum.inl y :: t.map Sum.inl) = _
    rw [lex_cons, ltZ_lex r t]
    rfl
def TupI (h : Heap) (u : Value) (ks : List Int) : Prop := ∃ a o its n, u = Value.ref a ∧ h.get? a = some o ∧ o.cls = .type "tuple" ∧ o.data = .seq its n ∧ Vals (ks.map V.int) its.toList
theorem TupI.keep {h h' : Heap} {u : Value} {ks : List Int} (t : TupI h u ks) (k : ∀ b o, h.get? b = some o → h'.get? b = some o) : TupI h' u ks := by
  obtain ⟨a, o, its, n, e, g, r⟩ := t
  exact ⟨a, o, its, n, e, k _ _ g, r⟩
theorem tupItems_ints : ∀ (ks : List Int) (us : List Value) (i : Nat), Vals (ks.map V.int) us → tupItems (fun _ => false) i us = some (ks.map Sum.inl)
  | [], us, i, r => by
    cases r
    rfl
  | k :: ks, us, i, r => by
    cases r with
    | cons r1 r2 =>
      obtain ⟨t, rfl⟩ := r1
      show (if (fun _ : Nat => false) i = true then none else (tupItems (fun _ => false) (i + 1) _).map (Sum.inl k :: ·)) = _
      rw [if_neg (fun z => nomatch z), tupItems_ints ks _ (i + 1) r2]
      rfl
theorem TupI.key {h : Heap} {u : Value} {ks : List Int} (t : TupI h u ks) : G.tupKeyC h (fun _ => false) u = some (ks.map Sum.inl) := by
  obtain ⟨a, o, its, n, rfl, g, c, d, r⟩ := t
  exact G.tupKeyC_of g c d (tupItems_ints ks _ 0 r)
theorem tupsOf_ints {h : Heap} {k : Value → List Int} : ∀ {vs : List Value}, (∀ u ∈ vs, TupI h u (k u) ∧ k u ≠ []) → ∃ fs, TupsOf h (fun _ => false) vs fs
  | [], _ => ⟨[], .nil⟩
  | u :: vs, e => by
    obtain ⟨fs, r⟩ := tupsOf_ints (vs := vs) fun y hy => e y (List.mem_cons_of_mem _ hy)
    obtain ⟨t, ne⟩ := e u List.mem_cons_self
    obtain ⟨a, o, its, n, rfl, g, c, d, rv⟩ := t
    revert ne rv
    generalize k (Value.ref a) = ks
    intro ne rv
    cases ks with
    | nil => exact absurd rfl ne
    | cons k0 kr =>
      generalize hl : its.toList = l at rv
      cases rv with
      | cons r1 r2 =>
        obtain ⟨t, rfl⟩ := r1
        have h0 : its[0]? = some (Value.int k0 t) := by rw [← Array.getElem?_toList, hl]; rfl
        exact ⟨_, .cons ⟨a, o, its, n, rfl, g, c, d, h0, fun _ => ⟨_, _, rfl⟩, fun z => nomatch z⟩ r⟩
/-- what a sort of keyed pairs leaves, told of the values -/
theorem sorted_told {h : Heap} {k : Value → List Int} {vs : List Value} {arr : Array Keyed} (each : ∀ u ∈ vs, TupI h u (k u)) (hp : arr.Perm (PyProof.Rows.pairsOf vs)) (hs : SortedToK (G.tupKindC h fun _ => false) arr (PyProof.Rows.pairsOf vs).size) :
    (arr.map (·.2)).toList.Perm vs ∧ (arr.map (·.2)).toList.Pairwise fun x y => ltZ (k y) (k x) = false := by
  have pl := Array.perm_iff_toList_perm.mp hp
  rw [pairsOf_toList] at pl
  have two : ∀ p ∈ arr.toList, p.1 = p.2 ∧ p.1 ∈ vs := fun p m => mem_zip_self (pl.mem_iff.mp m)
  have e : (arr.map (·.2)).toList = arr.toList.map (·.2) := by simp
  rw [e]
  constructor
  · have z := pl.map (·.2)
    rw [List.map_snd_zip (Nat.le_refl _)] at z
    exact z
  · rw [List.pairwise_map, List.pairwise_iff_getElem]
    intro i j hi hj lt
    have sz : arr.size = (PyProof.Rows.pairsOf vs).size := hp.size_eq
    have q := hs i j (Nat.le_of_lt lt) (by rw [← sz]; simpa using hj)
    have at_ : ∀ (n : Nat) (hn : n < arr.toList.length), KK (G.tupKindC h fun _ => false) arr n = (k (arr.toList[n]).2).map Sum.inl := fun n hn => by
      obtain ⟨e1, m1⟩ := two _ (List.getElem_mem hn)
      have g : arr[n]? = some arr.toList[n] := by rw [← Array.getElem?_toList]; exact List.getElem?_eq_getElem hn
      unfold KK
      rw [g]
      show (G.tupKeyC h (fun _ => false) (arr.toList[n]).1).getD [] = _
      rw [(each _ m1).key, ← e1]
      rfl
    have q2 : lexLt itemOrd (KK (G.tupKindC h fun _ => false) arr j) (KK (G.tupKindC h fun _ => false) arr i) = false := q
    rw [at_ i hi, at_ j hj, ltZ_lex] at q2
    exact q2
section
variable {prog : Program} {w : World} {A : Around} {E : Value → Shared → Prop} {z : Shared}
/-- sorted(v), v's items tuples of ints -/
theorem sort_ints_of {v : Value} {vs : List Value} {k : Value → List Int} {Q : Value → Shared → Prop} (each : ∀ u ∈ vs, TupI z.heap u (k u) ∧ k u ≠ []) (small : vs.length ≤ sizeLine)
    (col : ∀ (A' : Around) (R : List Value → Shared → Prop) (E' : Value → Shared → Prop), A'.handled = A.handled → (∀ h' tk, (∀ b o, z.heap.get? b = some o → h'.get? b = some o) → z.heap.objs.size ≤ h'.objs.size → R vs { z with heap := h', toks := tk }) → wpAny (model prog w) A' (collect v) R E' z)
    (fin : ∀ h' tk p (out : Array Value) n, (∀ b o, z.heap.get? b = some o → h'.get? b = some o) → z.heap.objs.size ≤ p → h'.get? p = some (seqObj "list" out n) → out.toList.Perm vs → (out.toList.Pairwise fun x y => ltZ (k y) (k x) = false) → Q (.ref p) { z with heap := h', toks := tk }) :
    wpAny (model prog w) A (call (.builtin "sorted") [v]) Q E z := by
  refine Calls.call_function_entry kind_sorted plain_sorted entry_sorted (args_sorted1 _) ?_
  unfold Builtin.«sorted»
  refine wpAny_bind (m := checkCount "sorted" 1 1 _) (wpAny_pure ?_)
  refine wpAny_bind (col _ _ _ rfl fun h1 tk kp le => ?_)
  refine wpAny_bind (wpAny_newList ?_)
  have gL : (h1.push (seqObj "list" vs.toArray 0)).get? h1.objs.size = some (seqObj "list" vs.toArray 0) := Heap.get?_push_size _ rfl
  have kp2 : ∀ b o, z.heap.get? b = some o → (h1.push (seqObj "list" vs.toArray 0)).get? b = some o := fun b o e => Heap.get?_push_of_some _ (kp b o e)
  have each2 : ∀ u ∈ vs, TupI (h1.push (seqObj "list" vs.toArray 0)) u (k u) ∧ k u ≠ [] := fun u hu => ⟨(each u hu).1.keep kp2, (each u hu).2⟩
  obtain ⟨fs, tf⟩ := tupsOf_ints each2
  refine wpAny_bind (wpAny_holding (wpAny_call_entry slot_list_sort ⟨_, gL, rfl⟩ entry_list_sort
    (G.list_sort_tups (s := { z with heap := h1.push (seqObj "list" vs.toArray 0), toks := tk }) gL tf (fun u hu => ⟨_, (each2 u hu).1.key⟩) small fun st' a1 a2 a3 => ⟨_, rfl, ?_⟩) (args_list_sort _)))
  obtain ⟨t1, t2⟩ := sorted_told (fun u hu => (each2 u hu).1) a1 a2
  obtain ⟨n, gn⟩ := sortedHeap_at (vs := vs) (out := (arrOf st').map (·.2)) gL
  exact wpAny_pure ⟨_, rfl, fin _ _ _ _ n (fun b o e => (sortedHeap_old (Nat.ne_of_lt (Nat.lt_of_lt_of_le (Heap.lt_size e) le)) (Heap.lt_size (kp2 b o e))).trans (kp2 b o e)) le gn t1 t2⟩
theorem ints_inj : ∀ {ks ls : List Int}, ks.map V.int = ls.map V.int → ks = ls
  | [], [], _ => rfl
  | [], _ :: _, e => nomatch e
  | _ :: _, [], e => nomatch e
  | k :: ks, l :: ls, e => by
    obtain ⟨e1, e2⟩ := List.cons.inj e
    rw [V.int.inj e1, ints_inj e2]
theorem TupI.uniq {h : Heap} {u : Value} {ks ls : List Int} (a : TupI h u ks) (b : TupI h u ls) : ks = ls := by
  obtain ⟨p, o, its, n, e, g, _, d, r⟩ := a
  obtain ⟨p2, o2, its2, n2, e2, g2, _, d2, r2⟩ := b
  obtain rfl : p = p2 := Value.ref.inj (e.symm.trans e2)
  rw [g] at g2
  obtain rfl := Option.some.inj g2
  rw [d] at d2
  obtain ⟨rfl, rfl⟩ := Data.seq.inj d2
  exact ints_inj (r.inj r2)
open Classical in
/-- the ints of a tuple in the heap -/
noncomputable def kOf (h : Heap) (u : Value) : List Int := if e : ∃ ks, TupI h u ks then e.choose else []
theorem kOf_at {h : Heap} {u : Value} {ks : List Int} (t : TupI h u ks) : kOf h u = ks := by
  unfold kOf
  rw [dif_pos ⟨ks, t⟩]
  exact (Exists.choose_spec (⟨ks, t⟩ : ∃ ks, TupI h u ks)).uniq t
end
theorem vals_fun : ∀ (as : List Addr) {us : List Value}, Vals (as.map V.ref) us → us = as.map Value.ref
  | [], _, r => by cases r; rfl
  | a :: as, us, r => by
    cases r with
    | cons r1 r2 =>
      cases r1
      rw [vals_fun as r2]
      rfl
section
variable {X : Cx} {pins : List (Addr × Obj)} {σ : L2.St} {H : Hp} {z : Shared}
theorem tupI_of (I : Inv X pins σ H z) {a : Addr} {ks : List Int} (e : SqT X.K H a (ks.map V.int)) : TupI z.heap (.ref a) ks := by
  obtain ⟨its, r, p, _⟩ := I.tuple e
  obtain ⟨o, g, c, n, d⟩ := p
  exact ⟨a, o, _, n, rfl, g, c, d, r⟩
theorem sort_core {A : Around} {E : Value → Shared → Prop} {v : Value} {bs0 : List (Addr × List Int)} {Q : VK} (I : Inv X pins σ H z) (tups : ∀ b ∈ bs0, SqT X.K H b.1 (b.2.map V.int) ∧ b.2 ≠ []) (small : bs0.length ≤ sizeLine)
    (col : ∀ (A' : Around) (R : List Value → Shared → Prop) (E' : Value → Shared → Prop), A'.handled = A.handled → (∀ h' tk, (∀ b o, z.heap.get? b = some o → h'.get? b = some o) → z.heap.objs.size ≤ h'.objs.size → R (bs0.map fun b => .ref b.1) { z with heap := h', toks := tk }) → wpAny (model X.prog X.w) A' (collect v) R E' z)
    (q : ∀ p (bs : List (Addr × List Int)), H p = none → bs.Perm bs0 → (bs.Pairwise fun x y => ltZ y.2 x.2 = false) → Q (.ref p) (upd H p (.lst (bs.map fun b => .ref b.1)))) :
    wpAny (model X.prog X.w) A (call (.builtin "sorted") [v]) (EP X pins σ Q) E z := by
  have at_ : ∀ b ∈ bs0, kOf z.heap (.ref b.1) = b.2 := fun b hb => kOf_at (tupI_of I (tups b hb).1)
  refine sort_ints_of (k := kOf z.heap) (vs := bs0.map fun b => .ref b.1) (fun u hu => ?_) (by rw [List.length_map]; exact small) col fun h' tk p out n kp le gp pm pw => ?_
  · obtain ⟨b, hb, rfl⟩ := List.mem_map.mp hu
    rw [at_ b hb]
    exact ⟨tupI_of I (tups b hb).1, (tups b hb).2⟩
  · obtain ⟨bs, pb, eb⟩ := L2.perm_lift (fun b : Addr × List Int => Value.ref b.1) pm bs0 rfl
    have none1 : H p = none := I.hok.fresh le
    have rv : Vals (bs.map fun b => V.ref b.1) out.toList := by
      rw [← eb]
      exact vals_maps (fun b : Addr × List Int => V.ref b.1) (fun b => Value.ref b.1) bs fun _ _ => rfl
    have pw2 : bs.Pairwise fun x y => ltZ y.2 x.2 = false := by
      rw [← eb, List.pairwise_map] at pw
      refine List.Pairwise.imp_of_mem (fun {x y} hx hy h => ?_) pw
      rw [at_ x (pb.mem_iff.mp hx), at_ y (pb.mem_iff.mp hy)] at h
      exact h
    refine ⟨.ref p, upd H p (.lst (bs.map fun b => .ref b.1)), I.laid (t' := tk) kp le ⟨?_, out.toList, n, rv, ?_⟩, rfl, q p bs none1 pb pw2⟩
    · rw [List.length_map, pb.length_eq]
      exact small
    · rw [Array.toArray_toList]
      exact gp
/-- sorted(xs), xs a list of tuples of ints -/
def rSortT (K : PySem.W.Frag) : List V → Hp → VK → Prop := fun vs H Q => ∃ (a : Addr) (bs0 : List (Addr × List Int)), vs = [.ref a] ∧ SqL K H a (bs0.map fun b => .ref b.1) ∧ (∀ b ∈ bs0, SqT K H b.1 (b.2.map V.int) ∧ b.2 ≠ []) ∧
  ∀ p (bs : List (Addr × List Int)), H p = none → bs.Perm bs0 → (bs.Pairwise fun x y => ltZ y.2 x.2 = false) → Q (.ref p) (upd H p (.lst (bs.map fun b => .ref b.1)))
theorem cr_sortT : CallR X (.builtin "sorted") (rSortT X.K) := by
  intro pins s σ H vs us Q I r h
  obtain ⟨a, bs0, rfl, hs, tups, q⟩ := h
  obtain ⟨its, rv, pl, hz⟩ := I.list hs
  obtain ⟨u, rfl, ru⟩ := vals1 r
  obtain rfl : u = Value.ref a := ru
  have ei : its = bs0.map fun b => .ref b.1 := by
    have e := vals_fun (bs0.map (·.1)) (by rw [List.map_map]; exact rv)
    rw [e, List.map_map]
    rfl
  rw [List.length_map] at hz
  subst ei
  refine sort_core I tups hz (fun A' R E' _ fin => collect_list pl.isList (fin _ s.toks (fun b o e => ?_) ?_) (by rw [List.length_map]; exact hz)) q
  · rw [Heap.get?_update_ne _ _ _ _ (Nat.ne_of_lt (Heap.lt_size e))]
    exact Heap.get?_push_of_some _ e
  · rw [Heap.size_update, Heap.size_push]
    exact Nat.le_succ _
end
/-! ### sorted(d.keys()), the keys tuples of ints -/
theorem keys_paired {H : Hp} : ∀ {kvs : List (List Key × V)} {xs : List (List Key × Addr × Value)} {ks : List (List Int)}, KT H kvs xs → kvs.map (·.1) = ks.map (fun k => k.map Sum.inl) → xs.length = ks.length ∧ ∀ b ∈ (xs.map (fun x => x.2.1)).zip ks, H b.1 = some (.tup (b.2.map V.int))
  | _, _, ks, .nil, e => by
    cases ks with
    | nil => exact ⟨rfl, fun b hb => nomatch hb⟩
    | cons k kr => exact nomatch (show ([] : List (List Key)) = _ :: _ from e)
  | _, _, ks, .cons (a := p) (b := x) h t, e => by
    cases ks with
    | nil => exact nomatch (show _ :: _ = ([] : List (List Key)) from e)
    | cons k kr =>
      obtain ⟨e1, e2⟩ := List.cons.inj (show p.1 :: _ = k.map Sum.inl :: _ from e)
      obtain ⟨l, r⟩ := keys_paired t e2
      refine ⟨congrArg (· + 1) l, fun b hb => ?_⟩
      rcases List.mem_cons.mp (show b ∈ (x.2.1, k) :: _ from hb) with rfl | hb
      · have q := h.2.1
        rw [e1, List.map_map] at q
        exact q
      · exact r b hb
def tSKT (td : TE) : TE := fun σ H Q => td σ H fun v H1 => ∃ (d : Addr) (kvs : List (List Key × V)) (ks : List (List Int)), v = .ref d ∧ H1 d = some (.dT kvs) ∧ kvs.map (·.1) = ks.map (fun k => k.map Sum.inl) ∧ (∀ k ∈ ks, k ≠ []) ∧
  ∀ p (bs : List (Addr × List Int)), H1 p = none → (bs.map (·.2)).Perm ks → (bs.Pairwise fun x y => ltZ y.2 x.2 = false) → (∀ b ∈ bs, H1 b.1 = some (.tup (b.2.map V.int))) → Q (.ref p) (upd H1 p (.lst (bs.map fun b => .ref b.1)))
theorem pe_sKT {X : Cx} {e : Expr} {td : TE} {p pos apos cpos : Pos} (calm : X.calm = true) (hg : Gl X "sorted") (hm : X.mg "sorted" = none) (hv : bootBuiltins "sorted" = some (.builtin "sorted")) (he : PE X e td) (hbase : attributeBase e "keys" X.env (eval e X.env) = eval e X.env := by rfl)
    (hline : (apos.endLine == cpos.line) = true := by rfl)
    (hs : starEach [.Call (.Attribute e "keys" apos) [] [] cpos] X.env = [(false, eval (.Call (.Attribute e "keys" apos) [] [] cpos) X.env)] := by rfl) (hpl : (backTo pos (starEach [.Call (.Attribute e "keys" apos) [] [] cpos] X.env)) = [(false, eval (.Call (.Attribute e "keys" apos) [] [] cpos) X.env)] := by rfl)
    (hn : ("sorted" : Str) ≠ "__name__" := by decide) (hdb : (("sorted" : Str) == ("__debug__" : Str)) = false := by decide) :
    PE X (.Call (.Name "sorted" p) [.Call (.Attribute e "keys" apos) [] [] cpos] [] pos) (tSKT td) := by
  refine ⟨fun pins s σ H Q I want => ?_⟩
  refine wpAny_Call_Name_kw (ld_blt I hg hm hv ?_ hn hdb)
  rw [hpl]
  refine PySem.callWith_builtin1 ?_
  refine wpAny_Call_method (T := "dict") (id := "dict.keys") hbase rfl hline F.plainAttrs_dict F.slot_dict_keys F.type_dict_keys (thn (he.run pins s σ H _ I want) fun u s1 told => ?_)
  obtain ⟨x, H1, I1, rx, d, kvs, ks, rfl, hd, eks, ne, q⟩ := told
  obtain rfl : u = Value.ref d := rx
  obtain ⟨hz, ns, xs, kt, dd⟩ := dt_of I1.hok hd
  obtain ⟨es, ep, raw, esz, enth⟩ := dd.raw
  refine ⟨raw.typeIs, dictOfH_noDict dd, ?_⟩
  show wpAny _ _ (callWith cpos (.builtin "dict.keys") [.ref d] [] []) _ X.xe s1
  refine method_meetsIn F.slot_dict_keys F.entry_dict_keys rfl (PySem.evalArgs_none ⟨rfl, raw.typeIs, F.args_dict_keys_1 _, _, meets_dict_keys_raw d ns, ⟨es, ep, raw⟩, ?_⟩)
  have I2 : Inv X pins σ H1 { s1 with heap := s1.heap.push { cls := .type "dict_keys", data := .fields #[.ref d] } } := I1.kept (t' := s1.toks) fun b o e => Heap.get?_push_of_some _ e
  obtain ⟨lx, tups⟩ := keys_paired kt eks
  have lk : (xs.map fun x => x.2.1).length = ks.length := by rw [List.length_map]; exact lx
  have n2 : ((xs.map fun x => x.2.1).zip ks).length = es.size := by rw [List.length_zip, lk, Nat.min_self, ← lx, esz]
  have top : (s1.heap.push { cls := .type "dict_keys", data := .fields #[.ref d] }).get? s1.heap.objs.size = some { cls := .type "dict_keys", data := .fields #[.ref d] } := Heap.get?_push_size _ rfl
  refine sort_core (bs0 := (xs.map fun x => x.2.1).zip ks) I2 (fun b hb => ⟨SqT.of (tups b hb), ne b.2 (List.of_mem_zip hb).2⟩) ?_ (fun A' R E' hA fin => ?_) fun p bs hp pm pw => ?_
  · rw [n2, esz, ← Paired.length kt]
    exact hz
  · refine PySem.W.kdu_collect (KdlSrc.rawKeys (r := s1.heap.objs.size) (d := d) (es := es) (ep := ep)) (hA.trans (I1.ok.hd calm)) ⟨⟨_, top, rfl, rfl⟩, raw.at fun o e => Heap.get?_push_of_some _ e⟩ ?_ fun h' tk acc kp it => ?_
    · rw [esz, ← Paired.length kt]
      exact hz
    · have eacc : acc.toList = ((xs.map fun x => x.2.1).zip ks).map fun b => .ref b.1 := by
        have la : acc.toList.length = es.size := by rw [Array.length_toList]; exact it.1
        apply List.ext_getElem (by rw [List.length_map, n2, la])
        intro i h1 h2
        have hi : i < es.size := by omega
        obtain ⟨hi', ev⟩ := it.2 i acc.toList[i] (by rw [← Array.getElem?_toList]; exact List.getElem?_eq_getElem h1)
        obtain ⟨y, hy, ek, _⟩ := enth i hi
        obtain ⟨hx, exy⟩ := List.getElem?_eq_some_iff.mp hy
        rw [ev, ek, List.getElem_map, List.getElem_zip, List.getElem_map, exy]
      rw [eacc]
      refine fin h' tk kp ?_
      have lt : s1.heap.objs.size < h'.objs.size := Heap.lt_size (kp _ _ top)
      show (s1.heap.push _).objs.size ≤ _
      rw [Heap.size_push]
      exact lt
  · refine q p bs hp ?_ pw fun b hb => tups b (pm.mem_iff.mp hb)
    have z := pm.map (·.2)
    rw [List.map_snd_zip (Nat.le_of_eq lk.symm)] at z
    exact z
/-! ### dict(xs), xs a list of pairs (tuple, value) -/
/-- a pair's place, its key's place, the key, the value -/
abbrev PKV := Addr × Addr × List Key × V
def putAllK (acc : List (List Key × V)) (ps : List PKV) : List (List Key × V) := ps.foldl (fun acc x => putK acc x.2.2.1 x.2.2.2) acc
theorem putAllK_len : ∀ (ps : List PKV) (acc : List (List Key × V)), (putAllK acc ps).length ≤ acc.length + ps.length
  | [], _ => Nat.le_refl _
  | x :: ps, acc => by
    have h1 := putAllK_len ps (putK acc x.2.2.1 x.2.2.2)
    have h2 := length_putK acc x.2.2.1 x.2.2.2
    show (putAllK (putK acc x.2.2.1 x.2.2.2) ps).length ≤ _
    rw [List.length_cons]
    omega
def PkOk (H : Hp) (x : PKV) : Prop := H x.1 = some (.tup [.ref x.2.1, x.2.2.2]) ∧ H x.2.1 = some (.tup (x.2.2.1.map kV))
/-- the pairs as they lie in the heap -/
def PkAt (H : Hp) (h : Heap) (x : PKV) (r : List Key × Addr × Value) : Prop := x.2.2.1 = r.1 ∧ x.2.1 = r.2.1 ∧ RelV x.2.2.2 r.2.2 ∧ H r.2.1 = some (.tup (r.1.map kV)) ∧ PairAt h x.1 (.ref r.2.1) r.2.2
section
variable {X : Cx} {pins : List (Addr × Obj)} {σ : L2.St} {H : Hp} {z : Shared}
theorem pk_at (I : Inv X pins σ H z) : ∀ ps : List PKV, (∀ x ∈ ps, PkOk H x) → ∃ rs, Paired (PkAt H z.heap) ps rs
  | [], _ => ⟨[], .nil⟩
  | x :: ps, e => by
    obtain ⟨rs, r⟩ := pk_at I ps fun y hy => e y (List.mem_cons_of_mem _ hy)
    obtain ⟨e1, e2⟩ := e x List.mem_cons_self
    obtain ⟨_, its, rv, o, g, c, n, d⟩ := (show ObjOk X.prog X.w H z.heap x.1 (.tup [.ref x.2.1, x.2.2.2]) from I.hok _ _ e1)
    obtain ⟨u1, u2, rfl, r1, r2⟩ := vals2 rv
    obtain rfl : u1 = Value.ref x.2.1 := r1
    exact ⟨(x.2.2.1, x.2.1, u2) :: rs, .cons ⟨rfl, rfl, r2, e2, .inl ⟨o, g, c, n, d⟩⟩ r⟩
end
theorem pk_kt {H H2 : Hp} {h : Heap} (tk : ∀ b ys, H b = some (.tup ys) → H2 b = some (.tup ys)) : ∀ {ps : List PKV} {rs : List (List Key × Addr × Value)} {kvs : List (List Key × V)} {xs : List (List Key × Addr × Value)}, Paired (PkAt H h) ps rs → KT H2 kvs xs → KT H2 (putAllK kvs ps) (storedAllH xs rs)
  | _, _, _, _, .nil, t => t
  | _, _, _, _, .cons (a := x) (b := r) e p, t => by
    obtain ⟨e1, e2, e3, e4, _⟩ := e
    have t2 := t.put x.2.2.1 (b := r.2.1) (y := x.2.2.2) (u := r.2.2) (by rw [e1]; exact tk _ _ e4) e3
    have q := pk_kt tk p t2
    rw [e1] at q
    have show1 : x.2.2.1 = r.1 := e1
    show KT H2 (putAllK (putK _ x.2.2.1 x.2.2.2) _) _
    rw [show1]
    exact q
theorem pk_get {H : Hp} {h : Heap} : ∀ {ps : List PKV} {rs : List (List Key × Addr × Value)}, Paired (PkAt H h) ps rs → ∀ (j : Nat) (r : List Key × Addr × Value), rs[j]? = some r → ∃ x, ps[j]? = some x ∧ PkAt H h x r
  | _, _, .nil, j, r, e => nomatch (show (none : Option (List Key × Addr × Value)) = some r from e)
  | _, _, .cons (a := x) e p, 0, r, hj => by
    cases hj
    exact ⟨x, rfl, e⟩
  | _, _, .cons e p, j + 1, r, hj => pk_get p j r hj
def rDictP (K : PySem.W.Frag) : List V → Hp → VK → Prop := fun vs H Q => ∃ (a : Addr) (ps : List PKV), vs = [.ref a] ∧ SqL K H a (ps.map fun x => .ref x.1) ∧ (∀ x ∈ ps, PkOk H x) ∧ ∀ p, H p = none → Q (.ref p) (upd H p (.dT (putAllK [] ps)))
theorem cr_dictP {X : Cx} (calm : X.calm = true) (room : X.A.units + 2 < cLine) : CallR X (.type "dict") (rDictP X.K) := by
  intro pins s σ H vs us Q I r h
  obtain ⟨a, ps, rfl, hs, oks, q⟩ := h
  obtain ⟨its, rv, pl, hz⟩ := I.list hs
  obtain ⟨u, rfl, ru⟩ := vals1 r
  obtain rfl : u = Value.ref a := ru
  rw [List.length_map] at hz
  have ei : its = ps.map fun x => Value.ref x.1 := by
    have e := vals_fun (ps.map (·.1)) (by rw [List.map_map]; exact rv)
    rw [e, List.map_map]
    rfl
  obtain ⟨rs, pr⟩ := pk_at I ps oks
  have len : ps.length = rs.length := Paired.length pr
  have ok : PlainSeq "list" s.heap a its.toArray ∧ PairItems s.heap its.toArray (fun j => ((ps[j]?).map (·.1)).getD 0) (rs.map fun r => (Value.ref r.2.1, r.2.2)) := by
    refine ⟨pl, ?_, fun j k v hj => ?_⟩
    · rw [ei, List.length_map, List.size_toArray, List.length_map, len]
    · rw [List.getElem?_map] at hj
      obtain ⟨r, hr, er⟩ := Option.map_eq_some_iff.mp hj
      cases er
      obtain ⟨x, hx, at_⟩ := pk_get pr j r hr
      refine ⟨?_, ?_⟩
      · rw [ei, List.getElem?_toArray, List.getElem?_map, hx]
        show some (Value.ref x.1) = some (Value.ref (((ps[j]?).map (·.1)).getD 0))
        rw [hx]
        rfl
      · show PairAt s.heap (((ps[j]?).map (·.1)).getD 0) _ _
        rw [hx]
        exact at_.2.2.2.2
  have P := PairArg.list (prog := X.prog) (w := X.w) a its.toArray (fun j => ((ps[j]?).map (·.1)).getD 0) (rs.map fun r => (Value.ref r.2.1, r.2.2))
  refine call_dict_pairsH (knd := tupleKind (mixKind X.prog X.w)) (ps := rs) P (I.ok.hd calm) (show X.A.in1.in1.units < cLine from room) ok ⟨by rw [List.length_map], fun j key v hj => ?_⟩ (fun h2 kp x hx => ?_) ?_ fun h2 tk dd kp => ?_
  · have hj' : (rs.map fun r => (Value.ref r.2.1, r.2.2))[j]? = some (key, v) := hj
    rw [List.getElem?_map] at hj'
    obtain ⟨r, hr, er⟩ := Option.map_eq_some_iff.mp hj'
    cases er
    exact ⟨r.1, r.2.1, hr, rfl⟩
  · obtain ⟨j, hj⟩ := List.mem_iff_getElem?.mp hx
    obtain ⟨y, _, at_⟩ := pk_get pr j x hj
    obtain ⟨o, it, n, g, c⟩ := key_of I.hok at_.2.2.2.1
    exact ⟨o, it, n, kp _ o (Nat.ne_of_lt (Heap.lt_size g)) (fun z => nomatch z) g, c⟩
  · rw [List.length_map, ← len]
    exact hz
  · have fresh : H s.heap.objs.size = none := I.hok.fresh (Nat.le_refl _)
    have k2 : ∀ b o, s.heap.get? b = some o → h2.get? b = some o := fun b o e => kp b o (fun z => nomatch z) e
    obtain ⟨o, es, ep, g, c, d, e, _, n⟩ := dd
    have kt : KT (upd H s.heap.objs.size (.dT (putAllK [] ps))) (putAllK [] ps) (storedAllH [] rs) := pk_kt (fun b ys e => by rw [upd_ne (ne_of_none e fresh)]; exact e) pr .nil
    have big : (s.heap.objs.size == sysModules) = false := by
      have := I.big
      exact beq_false_of_ne (Nat.ne_of_gt this)
    have small : (putAllK [] ps).length ≤ sizeLine := by
      have := putAllK_len ps []
      rw [List.length_nil] at this
      omega
    exact ⟨.ref s.heap.objs.size, _, I.laid (t' := tk) (o := .dT (putAllK [] ps)) k2 (Nat.le_refl _) ⟨small, big, _, kt, o, es, ep, g, c, d, e, n⟩, rfl, q _ fresh⟩
theorem hu2_of {A : Around} {k : Nat} (hr : Room k A) : A.units + 2 < cLine := by
  have := hr.units
  omega
section
variable {X : Cx} {K : PySem.W.Frag}
theorem k_sortT (hK : X.K = K := by rfl) : CallR X (.builtin "sorted") (rSortT K) := hK ▸ cr_sortT
theorem k_dictP (calm : X.calm = true) (room : X.A.units + 2 < cLine) (hK : X.K = K := by rfl) : CallR X (.type "dict") (rDictP K) := hK ▸ cr_dictP calm room
theorem k_leT (hu : X.A.units < cLine) (hK : X.K = K := by rfl) : OpR X (compareOp .LtE) (rLeT K) := hK ▸ op_leT hu
theorem k_enT {e : Expr} {ta : TA} {p pos tpos : Pos} {elts : List Expr} {kk : Nat} (hg : Gl X "enumerate") (hm : X.mg "enumerate" = none) (ha : PA X [e] ta) (hs : starEach [e] X.env = [(false, eval e X.env)] := by rfl) (hK : X.K = K := by rfl) :
    PI X (.Tuple elts kk tpos) (.Call (.Name "enumerate" p) [e] [] pos) (iEnT K ta) := hK ▸ pi_enT hg hm ha hs
theorem k_list_of (hK : X.K = K := by rfl) : CallR X (.type "list") (fun xs H Q => ∃ p ys, xs = [.ref p] ∧ (SqL K H p ys ∨ SqT K H p ys) ∧ ∀ l, H l = none → Q (.ref l) (upd H l (.lst ys))) := hK ▸ call_list_of
theorem k_fld {e : Expr} {f : Str} {pos : Pos} {ta : TE} (he : PE X e ta) (hb : attributeBase e f X.env (eval e X.env) = eval e X.env) (hK : X.K = K := by rfl) : PE X (.Attribute e f pos) (tFld K ta f) := hK ▸ pe_fld he hb
theorem k_sfld {o value : Expr} {f : Str} {pos pos' : Pos} {ta tv : TE} (ha : PE X o ta) (hv : PE X value tv) (hs : swapsWith value (some (.Attribute o f pos')) pos.line X.env = pure false) (hK : X.K = K := by rfl) : PS X (.Assign [.Attribute o f pos'] value pos) (sFld K ta tv f) := hK ▸ ps_fld ha hv hs
end
theorem k_pgT {X : Cx} {K : PySem.W.Frag} (n : Nat) {es : List Expr} {k : Nat} {pos : Pos} {t : TGs} (hc : X.calm = true) (h : PGs X es t) (hn : (assignEach es X.env).length = n := by rfl) (hst : (assignEach es X.env).findIdx? (·.1) = none := by rfl) (hK : X.K = K := by rfl) : PG X (.Tuple es k pos) (gTup K n t) := hK ▸ pg_tup hc h hn hst
/-! ### a tuple of the written part -/
def KTu (K : PySem.W.Frag) (a : Addr) (xs : List V) : Prop := ∀ H, SqT K H a xs
def AheadAt (K : PySem.W.Frag) (mg : Str → Option Value) : Prop := ∃ A b0 b1 b2 b3 : Addr, mg "AHEAD" = some (.ref A) ∧ KTu K A [.ref b0, .ref b1, .ref b2, .ref b3] ∧ KTu K b0 [.int 0, .int (-1)] ∧ KTu K b1 [.int 1, .int 0] ∧ KTu K b2 [.int 0, .int 1] ∧ KTu K b3 [.int (-1), .int 0]
theorem ktu_of {K : PySem.W.Frag} {a : Addr} {xs : List V} {its : Array Value} {n : Nat} (e : K.lookup a = some { cls := .type "tuple", data := .seq its n }) (z : its.size ≤ 1000) (r : Vals xs its.toList) : KTu K a xs := fun H => .inr ⟨_, its, n, e, rfl, rfl, small_le z, r⟩
/-! ### objects that may change -/
/-- all stays but what stands at these places -/
def KeepE (E : List Addr) (H H' : Hp) : Prop := ∀ b o, b ∉ E → H b = some o → H' b = some o
theorem KeepE.refl (E : List Addr) (H : Hp) : KeepE E H H := fun _ _ _ h => h
theorem KeepE.trans {E : List Addr} {H H1 H2 : Hp} (a : KeepE E H H1) (b : KeepE E H1 H2) : KeepE E H H2 := fun c o n h => b c o n (a c o n h)
theorem KeepE.new {E : List Addr} {H : Hp} {p : Addr} {o : HO} (h : H p = none) : KeepE E H (upd H p o) := fun b u _ e => by
  rw [upd_ne (ne_of_none e h)]
  exact e
theorem KeepE.put {E : List Addr} {H : Hp} {p : Addr} {o : HO} (h : p ∈ E) : KeepE E H (upd H p o) := fun b u n e => by
  rw [upd_ne (fun z => n (by rw [z]; exact h))]
  exact e
theorem KeepE.fresh {E : List Addr} {H H' : Hp} {p : Addr} {o : HO} (k : KeepE E H H') (h : H p = none) : KeepE E H (upd H' p o) := fun b u n e => by
  rw [upd_ne (ne_of_none e h)]
  exact k b u n e
theorem KeepE.putR {E : List Addr} {H H' : Hp} {p : Addr} {o : HO} (k : KeepE E H H') (h : p ∈ E) : KeepE E H (upd H' p o) := k.trans (KeepE.put h)
theorem Same.keepE {E : List Addr} {H H' : Hp} (s : Same H H') : KeepE E H H' := fun b o _ h => s b o h
theorem KeepE.mono {E F : List Addr} {H H' : Hp} (k : KeepE E H H') (h : ∀ a ∈ E, a ∈ F) : KeepE F H H' := fun b o n e => k b o (fun z => n (h b z)) e
/-- what the first heap did not know may change -/
theorem KeepE.same {E : List Addr} {H H' : Hp} (k : KeepE E H H') (h : ∀ a ∈ E, H a = none) : Same H H' := fun b o e => k b o (fun z => by rw [h b z] at e; cases e) e
/-- no tuple, nothing frozen -/
def Soft (H : Hp) (a : Addr) : Prop := (∀ xs, H a ≠ some (.tup xs)) ∧ ∀ o u, H a ≠ some (.frz o u)
theorem KeepE.tk {E : List Addr} {H H' : Hp} (k : KeepE E H H') (s : ∀ a ∈ E, Soft H a) : TK H H' :=
  ⟨fun b xs e => k b _ (fun z => (s b z).1 xs e) e, fun b o u e => k b _ (fun z => (s b z).2 o u e) e⟩
theorem Soft.none {H : Hp} {a : Addr} (h : H a = none) : Soft H a := ⟨fun xs e => (by rw [h] at e; cases e), fun o u e => (by rw [h] at e; cases e)⟩
theorem Soft.dT {H : Hp} {a : Addr} {kvs : List (List Key × V)} (h : H a = some (.dT kvs)) : Soft H a := ⟨fun xs e => (by rw [h] at e; cases e), fun o u e => (by rw [h] at e; cases e)⟩
theorem Soft.ins {H : Hp} {a C dx : Addr} {fs : List (Str × V)} (h : H a = some (.ins C dx fs)) : Soft H a := ⟨fun xs e => (by rw [h] at e; cases e), fun o u e => (by rw [h] at e; cases e)⟩
theorem Soft.lst {H : Hp} {a : Addr} {xs : List V} (h : H a = some (.lst xs)) : Soft H a := ⟨fun xs e => (by rw [h] at e; cases e), fun o u e => (by rw [h] at e; cases e)⟩
theorem KeepE.back {E : List Addr} {H H' : Hp} {p : Addr} (k : KeepE E H H') (h : H' p = none) (n : p ∉ E) : H p = none := by
  cases e : H p with
  | none => rfl
  | some o =>
    rw [k p o n e] at h
    cases h
theorem Same.back {H H' : Hp} {p : Addr} (k : Same H H') (h : H' p = none) : H p = none := by
  cases e : H p with
  | none => rfl
  | some o =>
    rw [k p o e] at h
    cases h
/-! ### slices -/
theorem sl32 {a b c : V} : ¬ (HT.sIx ([a, b, c] : List V).length 0 none = 0 ∧ HT.sIx ([a, b, c] : List V).length ([a, b, c] : List V).length (some 2) = ([a, b, c] : List V).length) := by
  show ¬ (HT.sIx 3 0 none = 0 ∧ HT.sIx 3 3 (some 2) = 3)
  decide
theorem sl42 {a b c d : V} : ¬ (HT.sIx ([a, b, c, d] : List V).length 0 none = 0 ∧ HT.sIx ([a, b, c, d] : List V).length ([a, b, c, d] : List V).length (some 2) = ([a, b, c, d] : List V).length) := by
  show ¬ (HT.sIx 4 0 none = 0 ∧ HT.sIx 4 4 (some 2) = 4)
  decide
/-! ### readings of tuples -/
section
variable {K : PySem.W.Frag} {H : Hp}
theorem Tp.int4 {v : V} {i j k l : Int} (h : Tp K H v (.tuple [.int i, .int j, .int k, .int l])) : ∃ a, v = .ref a ∧ SqT K H a [.int i, .int j, .int k, .int l] := by
  obtain ⟨a, xs, rfl, hs, h⟩ := h.tupI
  obtain ⟨x, _, rfl, h1, h⟩ := h.consI
  obtain ⟨y, _, rfl, h2, h⟩ := h.consI
  obtain ⟨z, _, rfl, h3, h⟩ := h.consI
  obtain ⟨u, _, rfl, h4, h⟩ := h.consI
  rw [h1.intI, h2.intI, h3.intI, h4.intI, h.nilI] at hs
  exact ⟨a, rfl, hs⟩
theorem Tp.int2 {v : V} {i j : Int} (h : Tp K H v (.tuple [.int i, .int j])) : ∃ a, v = .ref a ∧ SqT K H a [.int i, .int j] := by
  obtain ⟨a, xs, rfl, hs, h⟩ := h.tupI
  obtain ⟨x, _, rfl, h1, h⟩ := h.consI
  obtain ⟨y, _, rfl, h2, h⟩ := h.consI
  rw [h1.intI, h2.intI, h.nilI] at hs
  exact ⟨a, rfl, hs⟩
theorem Tp.of_ints {a : Addr} : ∀ {ks : List Int}, SqT K H a (ks.map V.int) → Tp K H (.ref a) (.tuple (ks.map PyData.int)) := fun {ks} h => by
  refine .tup h ?_
  clear h
  induction ks with
  | nil => exact .nil
  | cons k ks ih => exact .cons (.int k) ih
end
/-! ### cells: places and their colours, as a dict keeps them -/
abbrev Pt := Int × Int
abbrev CM := List (Pt × Int)
def ptK (p : Pt) : List Key := [Sum.inl p.1, Sum.inl p.2]
theorem ptK_inj {p q : Pt} (h : ptK p = ptK q) : p = q := by
  obtain ⟨a, b⟩ := p
  obtain ⟨c, d⟩ := q
  have e1 := List.cons.inj h
  have e2 := List.cons.inj e1.2
  have q1 : a = c := Sum.inl.inj e1.1
  have q2 : b = d := Sum.inl.inj e2.1
  rw [q1, q2]
theorem ptK_v (p : Pt) : (ptK p).map kV = [V.int p.1, V.int p.2] := rfl
def look : CM → Pt → Option Int
  | [], _ => none
  | e :: r, p => if e.1 = p then some e.2 else look r p
def putM : CM → Pt → Int → CM
  | [], p, c => [(p, c)]
  | e :: r, p, c => if e.1 = p then (e.1, c) :: r else e :: putM r p c
def dropM : CM → Pt → CM
  | [], _ => []
  | e :: r, p => if e.1 = p then r else e :: dropM r p
def cellK (m : CM) : List (List Key × V) := m.map fun e => (ptK e.1, V.int e.2)
def col (m : CM) (p : Pt) : Int := (look m p).getD 0
theorem look_none : ∀ {m : CM} {p : Pt}, look m p = none ↔ p ∉ m.map (·.1)
  | [], p => by simp [look]
  | e :: r, p => by
    rw [List.map_cons, List.mem_cons]
    unfold look
    by_cases h : e.1 = p
    · rw [if_pos h]
      simp [h]
    · rw [if_neg h, look_none]
      exact ⟨fun x y => y.elim (fun z => h z.symm) x, fun x y => x (.inr y)⟩
theorem look_mem : ∀ {m : CM} {p : Pt} {c : Int}, look m p = some c → (p, c) ∈ m
  | [], p, c, h => nomatch h
  | e :: r, p, c, h => by
    unfold look at h
    by_cases q : e.1 = p
    · rw [if_pos q] at h
      rw [← q, ← Option.some.inj h]
      exact List.mem_cons_self
    · rw [if_neg q] at h
      exact List.mem_cons_of_mem _ (look_mem h)
theorem mem_look : ∀ {m : CM} {p : Pt} {c : Int}, (m.map (·.1)).Nodup → (p, c) ∈ m → look m p = some c
  | [], p, c, _, h => nomatch h
  | e :: r, p, c, nd, h => by
    rw [List.map_cons, List.nodup_cons] at nd
    unfold look
    rcases List.mem_cons.mp h with rfl | h
    · exact if_pos rfl
    · have q : e.1 ≠ p := fun z => nd.1 (z ▸ List.mem_map.mpr ⟨_, h, rfl⟩)
      rw [if_neg q]
      exact mem_look nd.2 h
theorem look_put : ∀ (m : CM) (p q : Pt) (c : Int), look (putM m p c) q = if q = p then some c else look m q
  | [], p, q, c => by
    show (if p = q then some c else none) = _
    by_cases h : q = p
    · rw [if_pos h, if_pos h.symm]
    · rw [if_neg h, if_neg (fun z => h z.symm)]
      rfl
  | e :: r, p, q, c => by
    unfold putM
    by_cases h : e.1 = p
    · rw [if_pos h]
      unfold look
      by_cases hq : q = p
      · rw [if_pos hq, if_pos (h.trans hq.symm)]
      · rw [if_neg hq, if_neg (fun z => hq (z.symm.trans h)), if_neg (fun z => hq (z.symm.trans h))]
    · rw [if_neg h]
      unfold look
      by_cases he : e.1 = q
      · rw [if_pos he, if_pos he, if_neg (fun z => h (he.trans z))]
      · rw [if_neg he, if_neg he, look_put r p q c]
theorem keys_put : ∀ {m : CM} {p q : Pt} {c : Int}, q ∈ (putM m p c).map (·.1) → q = p ∨ q ∈ m.map (·.1)
  | m, p, q, c, h => by
    by_cases e : q = p
    · exact .inl e
    · refine .inr (Classical.byContradiction fun n => ?_)
      have z := look_put m p q c
      rw [if_neg e, look_none.mpr n] at z
      exact look_none.mp z h
theorem nd_put : ∀ {m : CM} (p : Pt) (c : Int), (m.map (·.1)).Nodup → ((putM m p c).map (·.1)).Nodup
  | [], p, c, _ => List.nodup_cons.mpr ⟨List.not_mem_nil, List.nodup_nil⟩
  | e :: r, p, c, nd => by
    rw [List.map_cons, List.nodup_cons] at nd
    unfold putM
    by_cases h : e.1 = p
    · rw [if_pos h, List.map_cons, List.nodup_cons]
      exact nd
    · rw [if_neg h, List.map_cons, List.nodup_cons]
      exact ⟨fun z => (keys_put z).elim h nd.1, nd_put p c nd.2⟩
theorem len_put : ∀ (m : CM) (p : Pt) (c : Int), (putM m p c).length ≤ m.length + 1
  | [], _, _ => Nat.le_refl _
  | e :: r, p, c => by
    unfold putM
    have := len_put r p c
    split <;> simp only [List.length_cons] <;> omega
theorem look_drop : ∀ {m : CM} (p q : Pt), (m.map (·.1)).Nodup → look (dropM m p) q = if q = p then none else look m q
  | [], p, q, _ => by
    show (none : Option Int) = if q = p then none else none
    split <;> rfl
  | e :: r, p, q, nd => by
    rw [List.map_cons, List.nodup_cons] at nd
    unfold dropM
    by_cases h : e.1 = p
    · rw [if_pos h]
      by_cases hq : q = p
      · rw [if_pos hq, hq]
        exact look_none.mpr (h ▸ nd.1)
      · rw [if_neg hq]
        conv => rhs; unfold look
        rw [if_neg (fun z => hq (z.symm.trans h))]
    · rw [if_neg h]
      unfold look
      by_cases he : e.1 = q
      · rw [if_pos he, if_pos he, if_neg (fun z => h (he.trans z))]
      · rw [if_neg he, if_neg he, look_drop p q nd.2]
theorem keys_drop : ∀ {m : CM} {p q : Pt}, q ∈ (dropM m p).map (·.1) → q ∈ m.map (·.1)
  | e :: r, p, q, h => by
    unfold dropM at h
    by_cases z : e.1 = p
    · rw [if_pos z] at h
      exact List.mem_cons_of_mem _ h
    · rw [if_neg z] at h
      rcases List.mem_cons.mp h with e2 | h
      · exact List.mem_cons.mpr (.inl e2)
      · exact List.mem_cons_of_mem _ (keys_drop h)
theorem nd_drop : ∀ {m : CM} (p : Pt), (m.map (·.1)).Nodup → ((dropM m p).map (·.1)).Nodup
  | [], p, _ => List.nodup_nil
  | e :: r, p, nd => by
    rw [List.map_cons, List.nodup_cons] at nd
    unfold dropM
    by_cases h : e.1 = p
    · rw [if_pos h]
      exact nd.2
    · rw [if_neg h, List.map_cons, List.nodup_cons]
      exact ⟨fun z => nd.1 (keys_drop z), nd_drop p nd.2⟩
theorem len_drop : ∀ (m : CM) (p : Pt), (dropM m p).length ≤ m.length
  | [], _ => Nat.le_refl _
  | e :: r, p => by
    unfold dropM
    have := len_drop r p
    split <;> simp only [List.length_cons] <;> omega
theorem cell_len (m : CM) : (cellK m).length = m.length := List.length_map _
theorem cell_val : ∀ (m : CM) (p : Pt), valV (cellK m) (ptK p) = (look m p).map V.int
  | [], _ => rfl
  | e :: r, p => by
    unfold look
    by_cases h : e.1 = p
    · rw [if_pos h]
      exact valV_pos (p := (ptK e.1, V.int e.2)) (congrArg ptK h)
    · rw [if_neg h]
      exact (valV_neg (p := (ptK e.1, V.int e.2)) (fun z => h (ptK_inj z))).trans (cell_val r p)
theorem cell_map (p : Pt) (c : Int) : ∀ (m : CM), (m.map (·.1)).Nodup → p ∈ m.map (·.1) → (cellK m).map (fun kv => if kv.1 = ptK p then (kv.1, V.int c) else kv) = cellK (putM m p c)
  | [], _, h => nomatch h
  | e :: r, nd, h => by
    rw [List.map_cons, List.nodup_cons] at nd
    show (if ptK e.1 = ptK p then (ptK e.1, V.int c) else (ptK e.1, V.int e.2)) :: (cellK r).map _ = _
    unfold putM
    by_cases q : e.1 = p
    · rw [if_pos q, if_pos (congrArg ptK q)]
      have nin : p ∉ r.map (·.1) := q ▸ nd.1
      have same : (cellK r).map (fun kv => if kv.1 = ptK p then (kv.1, V.int c) else kv) = cellK r := by
        unfold cellK
        rw [List.map_map]
        refine List.map_congr_left fun y hy => ?_
        show (if ptK y.1 = ptK p then _ else _) = _
        rw [if_neg (fun z => nin (by rw [← ptK_inj z]; exact List.mem_map.mpr ⟨y, hy, rfl⟩))]
      rw [same]
      rfl
    · rw [if_neg q, if_neg (fun z => q (ptK_inj z))]
      rcases List.mem_cons.mp (show p ∈ e.1 :: r.map (·.1) from h) with z | z
      · exact absurd z.symm q
      · rw [cell_map p c r nd.2 z]
        rfl
theorem cell_new (p : Pt) (c : Int) : ∀ (m : CM), p ∉ m.map (·.1) → cellK m ++ [(ptK p, V.int c)] = cellK (putM m p c)
  | [], _ => rfl
  | e :: r, h => by
    unfold putM
    rw [if_neg (fun z => h (List.mem_cons.mpr (.inl z.symm)))]
    show (ptK e.1, V.int e.2) :: (cellK r ++ _) = (ptK e.1, V.int e.2) :: cellK (putM r p c)
    rw [cell_new p c r fun z => h (List.mem_cons_of_mem _ z)]
theorem cell_put {m : CM} (p : Pt) (c : Int) (nd : (m.map (·.1)).Nodup) : putK (cellK m) (ptK p) (.int c) = cellK (putM m p c) := by
  unfold putK
  rw [valV_any, cell_val]
  cases e : look m p with
  | none => exact cell_new p c m (look_none.mp e)
  | some x =>
    refine cell_map p c m nd (Classical.byContradiction fun n => ?_)
    rw [look_none.mpr n] at e
    cases e
theorem cell_drop (p : Pt) : ∀ (m : CM), (m.map (·.1)).Nodup → dropK (cellK m) (ptK p) = cellK (dropM m p)
  | [], _ => rfl
  | e :: r, nd => by
    rw [List.map_cons, List.nodup_cons] at nd
    unfold dropM
    show dropK ((ptK e.1, V.int e.2) :: cellK r) (ptK p) = _
    by_cases h : e.1 = p
    · rw [if_pos h, dropK_pos (congrArg ptK h)]
      refine dropK_no fun z => ?_
      obtain ⟨y, hy, ey⟩ := List.mem_map.mp z
      obtain ⟨w, hw, rfl⟩ := List.mem_map.mp hy
      have nin : p ∉ r.map (·.1) := h ▸ nd.1
      have ew : w.1 = p := ptK_inj ey
      exact nin (by rw [← ew]; exact List.mem_map.mpr ⟨w, hw, rfl⟩)
    · rw [if_neg h, dropK_neg (fun z => h (ptK_inj z)), cell_drop p r nd.2]
      rfl
/-! ### floors -/
abbrev Sq := Int × Int × Int
def Sq.pt (s : Sq) : Pt := (s.1, s.2.1)
def sqD (s : Sq) : PyData := .tuple [.int s.1, .int s.2.1, .int s.2.2]
def floorD (F : List Sq) : PyData := .tuple (F.map sqD)
def ltP (p q : Pt) : Prop := p.1 < q.1 ∨ (p.1 = q.1 ∧ p.2 < q.2)
theorem ltP_irr (p : Pt) : ¬ ltP p p := fun h => by
  rcases h with h | h <;> omega
theorem ltP_tr {p q r : Pt} (a : ltP p q) (b : ltP q r) : ltP p r := by
  unfold ltP at *
  omega
theorem ltP_tot {p q : Pt} (h : p ≠ q) : ltP p q ∨ ltP q p := by
  by_cases e1 : p.1 = q.1
  · have e2 : p.2 ≠ q.2 := fun e2 => h (Prod.ext e1 e2)
    unfold ltP
    omega
  · unfold ltP
    omega
/-- the floor that is painted so, its squares in their order -/
structure FloorOf (f : Pt → Int) (F : List Sq) : Prop where
  asc : F.Pairwise fun a b => ltP a.pt b.pt
  mem : ∀ s : Sq, s ∈ F ↔ s.2.2 = f s.pt ∧ s.2.2 ≠ 0
theorem asc_eq : ∀ {F G : List Sq}, (F.Pairwise fun a b => ltP a.pt b.pt) → (G.Pairwise fun a b => ltP a.pt b.pt) → (∀ s, s ∈ F ↔ s ∈ G) → F = G
  | [], [], _, _, _ => rfl
  | [], b :: G, _, _, h => nomatch (h b).mpr List.mem_cons_self
  | a :: F, [], _, _, h => nomatch (h a).mp List.mem_cons_self
  | a :: F, b :: G, hF, hG, h => by
    obtain ⟨a1, a2⟩ := List.pairwise_cons.mp hF
    obtain ⟨b1, b2⟩ := List.pairwise_cons.mp hG
    have e : a = b := by
      rcases List.mem_cons.mp ((h a).mp List.mem_cons_self) with e | ha
      · exact e
      · rcases List.mem_cons.mp ((h b).mpr List.mem_cons_self) with e | hb
        · exact e.symm
        · exact absurd (ltP_tr (b1 a ha) (a1 b hb)) (ltP_irr _)
    subst e
    refine congrArg (a :: ·) (asc_eq a2 b2 fun s => ⟨fun hs => ?_, fun hs => ?_⟩)
    · rcases List.mem_cons.mp ((h s).mp (List.mem_cons_of_mem _ hs)) with e | k
      · exact absurd (e ▸ a1 s hs) (ltP_irr _)
      · exact k
    · rcases List.mem_cons.mp ((h s).mpr (List.mem_cons_of_mem _ hs)) with e | k
      · exact absurd (e ▸ b1 s hs) (ltP_irr _)
      · exact k
theorem FloorOf.uniq {f : Pt → Int} {F G : List Sq} (a : FloorOf f F) (b : FloorOf f G) : F = G := asc_eq a.asc b.asc fun s => (a.mem s).trans (b.mem s).symm
/-- the cells of a floor -/
def cellsOf (F : List Sq) : CM := F.map fun s => (s.pt, s.2.2)
theorem asc_nd {F : List Sq} (h : F.Pairwise fun a b => ltP a.pt b.pt) : ((cellsOf F).map (·.1)).Nodup := by
  unfold cellsOf
  rw [List.map_map, List.Nodup, List.pairwise_map]
  refine h.imp fun {a b} l => ?_
  intro (e : a.pt = b.pt)
  rw [← e] at l
  exact ltP_irr _ l
def colF (F : List Sq) (p : Pt) : Int := col (cellsOf F) p
theorem colF_of {F : List Sq} (asc : F.Pairwise fun a b => ltP a.pt b.pt) (nz : ∀ s ∈ F, s.2.2 ≠ 0) : FloorOf (colF F) F := by
  refine ⟨asc, fun s => ⟨fun h => ⟨?_, nz s h⟩, fun h => ?_⟩⟩
  · have e := mem_look (asc_nd asc) (show (s.pt, s.2.2) ∈ cellsOf F from List.mem_map.mpr ⟨s, h, rfl⟩)
    unfold colF col
    rw [e]
    rfl
  · obtain ⟨h1, h2⟩ := h
    unfold colF col at h1
    cases e : look (cellsOf F) s.pt with
    | none =>
      rw [e] at h1
      exact absurd h1 h2
    | some c =>
      rw [e] at h1
      obtain ⟨t, ht, et⟩ := List.mem_map.mp (look_mem e)
      have e1 : t.pt = s.pt := congrArg Prod.fst et
      have e2 : t.2.2 = c := congrArg Prod.snd et
      have e3 : t = s := by
        obtain ⟨x, y, z⟩ := t
        obtain ⟨x', y', z'⟩ := s
        have q1 : x = x' := congrArg Prod.fst e1
        have q2 : y = y' := congrArg Prod.snd e1
        have q3 : z = c := e2
        have q4 : z' = c := h1
        rw [q1, q2, q3, q4]
      exact e3 ▸ ht
theorem FloorOf.col {f : Pt → Int} {F : List Sq} (h : FloorOf f F) : colF F = f := by
  funext p
  have g := colF_of h.asc fun s hs => ((h.mem s).mp hs).2
  by_cases z : f p = 0
  · by_cases y : colF F p = 0
    · rw [y, z]
    · have m := (g.mem (p.1, p.2, colF F p)).mpr ⟨rfl, y⟩
      have q := ((h.mem _).mp m).1
      exact q
  · have m := (h.mem (p.1, p.2, f p)).mpr ⟨rfl, z⟩
    exact (((g.mem _).mp m).1).symm
local macro_rules | `(tactic| walk_at "cl") => `(tactic| first | assumption | omega | exact rfl | exact SqL.of (by assumption) | exact SqT.of (by assumption) | exact SqL.of upd_same | exact SqT.of upd_same | exact upd_same | exact tyx_tup (by assumption) | exact TyX.base (.int _) | exact TyX.base (.str _) | exact TyX.base .non | exact TyX.base (.bl _) | exact tyx_lst (by first | assumption | exact SqL.of (by assumption)) | exact at0 | exact at1 | exact at2 | exact at3 | exact ⟨_, by assumption⟩ | exact ⟨_, rfl⟩ | exact ⟨_, SqL.of (by assumption)⟩ | exact ⟨_, SqL.of upd_same⟩ | exact ⟨_, SqT.of (by assumption)⟩ | exact Nat.le_of_ble_eq_true rfl | exact Or.inl ⟨rfl, _, SqL.of (by assumption)⟩ | exact Or.inl ⟨rfl, _, SqL.of upd_same⟩ | exact Dp.non | exact Dp.int _ | exact Dp.bl _ | exact Dp.str _ | exact True.intro | solve_by_elim | decide)
local macro_rules | `(tactic| walk_at "lp") => `(tactic| (fail_if_success refine Exists.intro (w := (fun (_ : Nat) (_ : Nat) (_ : L2.St) (_ : Hp) => True)) ?_); (fail_if_success refine Exists.intro (w := (fun (_ : Nat) (_ : L2.St) (_ : Hp) => True)) ?_); (fail_if_success refine Exists.intro (w := (fun (_ : Nat) (_ : Nat) (_ : Hp) => True)) ?_))
local macro_rules | `(tactic| walk_at "st") => `(tactic| repeat (first | (apply And.intro; (· walk_at "cl")) | (walk_at "lp"; apply Exists.intro)))
local macro_rules | `(tactic| walk_at "cl") => `(tactic| first | exact sl32 | exact sl42)
def topS (i : Nat) : Stmt := PySem.Challenge.pw_streetpapers_k15_whole_notes.main.body.getD i (.Pass ⟨0, 0, 0, 0⟩)
abbrev s_is_whole : Stmt := topS 8
theorem sc_is_whole : FnScope ["value", "least", "greatest"] ["value", "least", "greatest"] (defScope s_is_whole) := ⟨rfl, rfl, rfl, by decide +kernel, rfl, by decide +kernel, by decide +kernel⟩
abbrev s_is_place : Stmt := topS 9
theorem sc_is_place : FnScope ["value"] ["value"] (defScope s_is_place) := ⟨rfl, rfl, rfl, by decide +kernel, rfl, by decide +kernel, by decide +kernel⟩
abbrev s_check_text : Stmt := topS 10
theorem sc_check_text : FnScope ["value"] ["value"] (defScope s_check_text) := ⟨rfl, rfl, rfl, by decide +kernel, rfl, by decide +kernel, by decide +kernel⟩
abbrev s_check_walker : Stmt := topS 15
theorem sc_check_walker : FnScope ["value", "states"] ["value", "states"] (defScope s_check_walker) := ⟨rfl, rfl, rfl, by decide +kernel, rfl, by decide +kernel, by decide +kernel⟩
abbrev s_is_walker : Stmt := topS 16
theorem sc_is_walker : FnScope ["value", "states"] ["value", "states"] (defScope s_is_walker) := ⟨rfl, rfl, rfl, by decide +kernel, rfl, by decide +kernel, by decide +kernel⟩
abbrev s_is_paper : Stmt := topS 19
theorem sc_is_paper : FnScope ["value"] ["value"] (defScope s_is_paper) := ⟨rfl, rfl, rfl, by decide +kernel, rfl, by decide +kernel, by decide +kernel⟩
abbrev s_write_paper : Stmt := topS 22
theorem sc_write_paper : FnScope ["paper", "part"] ["paper"] (defScope s_write_paper) := ⟨rfl, rfl, rfl, by decide +kernel, rfl, by decide +kernel, by decide +kernel⟩
abbrev s_write_walker : Stmt := topS 23
theorem sc_write_walker : FnScope ["walker", "part"] ["walker"] (defScope s_write_walker) := ⟨rfl, rfl, rfl, by decide +kernel, rfl, by decide +kernel, by decide +kernel⟩
abbrev s_read_paper : Stmt := topS 24
theorem sc_read_paper : FnScope ["text", "words", "paper", "word"] ["text"] (defScope s_read_paper) := ⟨rfl, rfl, rfl, by decide +kernel, rfl, by decide +kernel, by decide +kernel⟩
abbrev s_read_walker : Stmt := topS 25
theorem sc_read_walker : FnScope ["text", "walker", "word"] ["text"] (defScope s_read_walker) := ⟨rfl, rfl, rfl, by decide +kernel, rfl, by decide +kernel, by decide +kernel⟩
abbrev s_whole_of : Stmt := topS 26
theorem sc_whole_of : FnScope ["word", "figures", "sign"] ["word"] (defScope s_whole_of) := ⟨rfl, rfl, rfl, by decide +kernel, rfl, by decide +kernel, by decide +kernel⟩
abbrev s_law_taken : Stmt := topS 28
theorem sc_law_taken : FnScope ["row", "many", "found", "cell"] ["row", "many"] (defScope s_law_taken) := ⟨rfl, rfl, rfl, by decide +kernel, rfl, by decide +kernel, by decide +kernel⟩
abbrev s_law_pick : Stmt := topS 29
theorem sc_law_pick : FnScope ["row", "things"] ["row", "things"] (defScope s_law_pick) := ⟨rfl, rfl, rfl, by decide +kernel, rfl, by decide +kernel, by decide +kernel⟩
abbrev s_law_signed : Stmt := topS 30
theorem sc_law_signed : FnScope ["row", "most"] ["row", "most"] (defScope s_law_signed) := ⟨rfl, rfl, rfl, by decide +kernel, rfl, by decide +kernel, by decide +kernel⟩
abbrev s_law_alike : Stmt := topS 31
theorem sc_law_alike : FnScope ["found", "due", "k"] ["found", "due"] (defScope s_law_alike) := ⟨rfl, rfl, rfl, by decide +kernel, rfl, by decide +kernel, by decide +kernel⟩
abbrev s_law : Stmt := topS 32
theorem sc_law : FnScope ["script", "row", "first", "period", "paper", "walker", "texts", "found", "some", "error", "value", "work", "one"] ["script"] (defScope s_law) := ⟨rfl, rfl, rfl, by decide +kernel, rfl, by decide +kernel, by decide +kernel⟩
abbrev s_InvalidText_init : Stmt := inClass (topS 5) 0
theorem sc_InvalidText_init : FnScope ["self", "place"] ["self", "place"] (defScope s_InvalidText_init) := ⟨rfl, rfl, rfl, by decide +kernel, rfl, by decide +kernel, by decide +kernel⟩
/-- what the top has left of built-in names and constants -/
structure Txt (K : PySem.W.Frag) (mg : Str → Option Value) : Prop where
  m_ValueError : mg "ValueError" = none
  m_any : mg "any" = none
  m_bool : mg "bool" = none
  m_int : mg "int" = none
  m_isinstance : mg "isinstance" = none
  m_len : mg "len" = none
  m_list : mg "list" = none
  m_range : mg "range" = none
  m_str : mg "str" = none
  m_tuple : mg "tuple" = none
  far : ∃ t, mg "FAR" = some (.int 1000000000000000000000000000000000000000000000000000000000000 t)
  most_states : ∃ t, mg "MOST_STATES" = some (.int 10 t)
  figures : ∃ t, mg "FIGURES" = some (.str "0123456789" t)
  most_steps : ∃ t, mg "MOST_STEPS" = some (.int 100000 t)
  longest_period : ∃ t, mg "LONGEST_PERIOD" = some (.int 2000 t)
  most_figures : ∃ t, mg "MOST_FIGURES" = some (.int 61 t)
section
variable {P : Program} {w : World} {K : PySem.W.Frag} {mg : Str → Option Value} {base : Heap}
theorem ok_law_taken (T : Txt K mg) (D : DefAt K mg "_law_taken" s_law_taken ["row", "many"]) : Cal P w K mg base CX0 "_law_taken" 1 ["row", "many"] (spTaken K) := by
  refine D.cal sc_law_taken (fun vs H Q E h => ?_) (fun f cdv A outer s H vs Q E hr h => ?_)
  · obtain ⟨r, many, rfl, _⟩ := h
    rfl
  · obtain ⟨r, many, rfl, ⟨t, ns, i, m, c, hrow, hS, hi, hm0, hm1, hc⟩, hp, hb, q⟩ := h
    refine ⟨_, (pss_cons (ps_if (pt_cmpR op_gt (pe_ix (k_ix_list (K := K)) (pv 0) pe_int (fun _ _ => rfl)) pe_int (nomark _)) (pss_cons (ps_set (i := 2) sc_law_taken.nd rfl (Or.inl rfl) (pe_op op_mod (pe_callTy call_int_i (by rfl) T.m_int (by decide +kernel) (pa_cons (pe_ix (k_ix_list (K := K)) (pv 0) pe_int (fun _ _ => rfl)) pa_nil)) (pv 1)))
      (pss_cons (ps_asg (pe_op op_fdivW (pe_ix (k_ix_list (K := K)) (pv 0) pe_int (fun _ _ => rfl)) (pv 1)) (pg_sub (pv 0) pe_int set_list))
      (pss_one (ps_ret (pv 2))))) pss_nil)
      (pss_cons (ps_asg (pe_op op_add (pe_ix (k_ix_list (K := K)) (pv 0) pe_int (fun _ _ => rfl)) pe_int) (pg_sub (pv 0) pe_int set_list))
      (pss_cons (ps_if (pt_cmpR op_gt (pe_ix (k_ix_list (K := K)) (pv 0) pe_int (fun _ _ => rfl)) (pe_callB (k_len_l (K := K)) (by rfl) T.m_len (by decide +kernel) (pa_cons (pe_ix (k_ix_list (K := K)) (pv 0) pe_int (fun _ _ => rfl)) pa_nil)) (nomark _)) (pss_cons (ps_asg (pe_op op_mod (pe_callTy call_int_i (by rfl) T.m_int (by decide +kernel) (pa_cons (pe_op op_add (pe_op op_mul (pe_ix (k_ix_list (K := K)) (pv 0) pe_int (fun _ _ => rfl)) pe_int) pe_int) pa_nil)) pe_int) (pg_sub (pv 0) pe_int set_list))
      (pss_one (ps_ret (pe_op op_mod (pe_callTy call_int_i (by rfl) T.m_int (by decide +kernel) (pa_cons (pe_op op_fdivW (pe_ix (k_ix_list (K := K)) (pv 0) pe_int (fun _ _ => rfl)) pe_int) pa_nil)) (pv 1))))) pss_nil)
      (pss_cons (ps_set (i := 3) sc_law_taken.nd rfl (Or.inl rfl) (pe_ix (k_ix_list (K := K)) (pe_ix (k_ix_list (K := K)) (pv 0) pe_int (fun _ _ => rfl)) (pe_op op_sub (pe_ix (k_ix_list (K := K)) (pv 0) pe_int (fun _ _ => rfl)) pe_int) (fun _ _ => rfl)))
      (pss_cons (ps_asg (pe_op op_mod (pe_callTy call_int_i (by rfl) T.m_int (by decide +kernel) (pa_cons (pe_op op_add (pe_op op_add (pe_op op_mul (pe_ix (k_ix_list (K := K)) (pv 0) pe_int (fun _ _ => rfl)) pe_int) (pv 3)) pe_int) pa_nil)) pe_int) (pg_sub (pv 0) pe_int set_list))
      (pss_cons (ps_if (pt_cmpR op_ge (pv 3) (pe_op op_pow pe_int pe_int) (nomark _)) (pss_one (ps_asg (pe_op op_fdivW (pv 3) (pv 1)) (pg_sub (pv 0) pe_int set_list))) pss_nil)
      (pss_one (ps_ret (pe_op op_mod (pe_callTy call_int_i (by rfl) T.m_int (by decide +kernel) (pa_cons (pv 3) pa_nil)) (pv 1)))))))))), ?_⟩
    have hdiv : ∀ c, CDivW c many := fun c => wide_div hp (show many.natAbs < 2 ^ 250 by omega) (by decide) (by decide)
    have hdiv7 : ∀ c, CDivW c 7 := fun c => ⟨by decide, by decide⟩
    have hmul : ∀ c, CMul c 48271 := fun c => .inr ⟨by decide, by decide⟩
    have hpow : CPow 10 18 := ⟨by decide, by decide, by decide⟩
    have hk : ∀ o, KeepB r H (upd H r o) := fun o => KeepB.put
    have hs := hS.sq
    have hS1 : ∀ o, Scr K (upd H r o) t ns := fun o => hS.mono (TK.lst hrow)
    have hs1 : ∀ o, SqL K (upd H r o) t (ns.map V.int) := fun o => (hS1 o).sq
    have hs2 : ∀ o o', SqL K (upd (upd H r o) r o') t (ns.map V.int) := fun o o' => by rw [upd_upd]; exact hs1 _
    have hmod : ∀ x : Int, 0 ≤ x % 2147483647 ∧ x % 2147483647 < 2147483647 := fun x => ⟨Int.emod_nonneg _ (by decide), Int.emod_lt_of_pos _ (by decide)⟩
    have fin : ∀ (x i' m' c' : Int), 0 ≤ i' → 0 ≤ m' → m' < 2147483647 → 0 ≤ c' → Q (.int (x % many)) (upd H r (.lst [.ref t, .int i', .int m', .int c'])) := fun x i' m' c' h1 h2 h3 h4 =>
      q _ _ (Int.emod_nonneg _ (by omega)) (Int.emod_lt_of_pos _ hp) ⟨t, ns, i', m', c', upd_same, hS1 _, h1, h2, h3, h4⟩ (hk _)
    walk_at "st"
    refine ite2 (fun e => ?_) (fun e => ?_)
    · have e := of_decide_eq_true e
      walk_at "st"
      exact fin c i m (c / many) hi hm0 hm1 (Int.ediv_nonneg hc (by omega))
    · walk_at "st"
      refine ite2 (fun e => ?_) (fun e => ?_)
      · walk_at "st"
        simp only [upd_upd]
        exact fin _ (i + 1) _ c (by omega) (hmod _).1 (hmod _).2 hc
      · have e2 : ¬ ((i + 1 : Int) > ((ns.map V.int).length : Int)) := fun z => e (decide_eq_true z)
        rw [List.length_map] at e2
        have hat : ∃ z, atI (ns.map V.int) (i + 1 - 1) = some (.int z) := by
          obtain ⟨j, rfl⟩ : ∃ j : Nat, i = (j : Int) := ⟨i.toNat, by omega⟩
          have hj : j < ns.length := by omega
          refine ⟨ns[j], ?_⟩
          rw [show ((j : Int) + 1 - 1) = (j : Int) by omega]
          exact atI_nat (by rw [List.getElem?_map, List.getElem?_eq_getElem hj]; rfl)
        obtain ⟨z, hat⟩ := hat
        walk_at "st"
        refine ite2 (fun e => ?_) (fun e => ?_)
        · have e := of_decide_eq_true e
          walk_at "st"
          simp only [upd_upd]
          have hz : (0 : Int) ≤ z := Int.le_trans (by decide) e
          exact fin _ (i + 1) _ _ (by omega) (hmod _).1 (hmod _).2 (Int.ediv_nonneg hz (by omega))
        · walk_at "st"
          simp only [upd_upd]
          exact fin _ (i + 1) _ c (by omega) (hmod _).1 (hmod _).2 hc
end

/-! ### tables -/
abbrev Ent := Option (Int × Int × Int)
def entD : Ent → PyData
  | none => .none
  | some e => .tuple [.int e.1, .int e.2.1, .int e.2.2]
def rowD (r : List Ent) : PyData := .tuple (r.map entD)
def tabD (T : List (List Ent)) : PyData := .tuple (T.map rowD)
def EntOk (c n : Int) : Ent → Prop
  | none => True
  | some e => (0 ≤ e.1 ∧ e.1 < c) ∧ (0 ≤ e.2.1 ∧ e.2.1 < 4) ∧ (0 ≤ e.2.2 ∧ e.2.2 < n)
def TabOk (c n : Nat) (T : List (List Ent)) : Prop := T.length = n ∧ ∀ r ∈ T, r.length = c ∧ ∀ e ∈ r, EntOk c n e
def spTable (K : PySem.W.Frag) : Sp := fun vs H Q _ => ∃ r : Addr, vs = [.ref r] ∧ Row K H r ∧
  ∀ (v : V) (H' : Hp) (c n : Nat) (T : List (List Ent)), 1 ≤ n → n ≤ 2 → 2 ≤ c → c ≤ 3 → TabOk c n T → Tp K H' v (tabD T) → Row K H' r → KeepB r H H' → Q v H'

/-! ### walks -/
/-- x, y, heading, state -/
abbrev Wk := Int × Int × Int × Int
def wkD (w : Wk) : PyData := .tuple [.int w.1, .int w.2.1, .int w.2.2.1, .int w.2.2.2]
def wPt (w : Wk) : Pt := (w.1, w.2.1)
def dxI (h : Int) : Int := if h = 1 then 1 else if h = 3 then -1 else 0
def dyI (h : Int) : Int := if h = 0 then -1 else if h = 2 then 1 else 0
def entAt (T : List (List Ent)) (s c : Int) : Ent := ((T[s.toNat]?).bind fun r => r[c.toNat]?).getD none
def dab (f : Pt → Int) (p : Pt) (c : Int) : Pt → Int := fun q => if q = p then c else f q
abbrev WSt := (Pt → Int) × Wk
def turnI (w : Wk) (t : Int) : Int := (w.2.2.1 + t) % 4
def behind (w : Wk) (e : Int × Int × Int) : Wk := (w.1 + dxI (turnI w e.2.1), w.2.1 + dyI (turnI w e.2.1), turnI w e.2.1, e.2.2)
def stepW (T : List (List Ent)) (z : WSt) : Option WSt := (entAt T z.2.2.2.2 (z.1 (wPt z.2))).map fun e => (dab z.1 (wPt z.2) e.1, behind z.2 e)
def runW (T : List (List Ent)) : Nat → WSt → Option WSt
  | 0, z => some z
  | n + 1, z => (runW T n z).bind (stepW T)
structure Ends (T : List (List Ent)) (z : WSt) (many i : Nat) (z' : WSt) : Prop where
  run : runW T i z = some z'
  le : i ≤ many
  stop : i = many ∨ stepW T z' = none
section
variable {T : List (List Ent)}
theorem runW_none {z : WSt} {i : Nat} (h : runW T i z = none) : ∀ k, runW T (i + k) z = none
  | 0 => h
  | k + 1 => by
    show (runW T (i + k) z).bind (stepW T) = none
    rw [runW_none h k]
    rfl
theorem runW_add (z : WSt) (i : Nat) : ∀ j, runW T (i + j) z = (runW T i z).bind (runW T j)
  | 0 => by
    show runW T i z = (runW T i z).bind some
    cases runW T i z <;> rfl
  | j + 1 => by
    show (runW T (i + j) z).bind (stepW T) = _
    rw [runW_add z i j]
    cases runW T i z <;> rfl
theorem Ends.stuck {z z' : WSt} {many i j : Nat} (h : Ends T z many i z') (l : i < j) (m : j ≤ many) : runW T j z = none := by
  have st : stepW T z' = none := h.stop.resolve_left (by omega)
  have n : runW T (i + 1) z = none := by
    show (runW T i z).bind (stepW T) = none
    rw [h.run]
    exact st
  have q := runW_none n (j - (i + 1))
  rw [show i + 1 + (j - (i + 1)) = j by omega] at q
  exact q
theorem Ends.uniq {z z1 z2 : WSt} {many i j : Nat} (a : Ends T z many i z1) (b : Ends T z many j z2) : i = j ∧ z1 = z2 := by
  have e : i = j := by
    rcases Nat.lt_trichotomy i j with l | l | l
    · have q := a.stuck l b.le
      rw [b.run] at q
      cases q
    · exact l
    · have q := b.stuck l a.le
      rw [a.run] at q
      cases q
  subst e
  have q := a.run
  rw [b.run] at q
  exact ⟨rfl, (Option.some.inj q).symm⟩
theorem Ends.two {z z1 z2 : WSt} {many more i j : Nat} (a : Ends T z many i z1) (b : Ends T z1 more j z2) : Ends T z (many + more) (i + j) z2 := by
  refine ⟨?_, Nat.add_le_add a.le b.le, ?_⟩
  · rw [runW_add, a.run]
    exact b.run
  · rcases a.stop with e | st
    · exact b.stop.imp (fun e2 => by rw [e, e2]) id
    · have ej : j = 0 := by
        rcases Nat.eq_zero_or_pos j with q | q
        · exact q
        · have n : runW T (0 + 1) z1 = none := st
          have r := runW_none n (j - 1)
          rw [show 0 + 1 + (j - 1) = j by omega, b.run] at r
          cases r
      subst ej
      have e2 : z1 = z2 := Option.some.inj b.run
      exact .inr (e2 ▸ st)
/-- what goes with every step goes with the walk -/
theorem runW_map {φ : WSt → WSt} (h : ∀ z, stepW T (φ z) = (stepW T z).map φ) (z : WSt) : ∀ i, runW T i (φ z) = (runW T i z).map φ
  | 0 => rfl
  | i + 1 => by
    show (runW T i (φ z)).bind (stepW T) = ((runW T i z).bind (stepW T)).map φ
    rw [runW_map h z i]
    cases runW T i z with
    | none => rfl
    | some y => exact h y
theorem Ends.map {φ : WSt → WSt} (h : ∀ z, stepW T (φ z) = (stepW T z).map φ) {z z' : WSt} {many i : Nat} (a : Ends T z many i z') : Ends T (φ z) many i (φ z') := by
  refine ⟨?_, a.le, a.stop.imp id fun st => ?_⟩
  · rw [runW_map h, a.run]
    rfl
  · rw [h, st]
    rfl
/-! ### a quarter turn, a move -/
def rotP (p : Pt) : Pt := (-p.2, p.1)
def unrotP (p : Pt) : Pt := (p.2, -p.1)
theorem rot_iff {p q : Pt} : q = rotP p ↔ unrotP q = p := by
  obtain ⟨a, b⟩ := p
  obtain ⟨c, d⟩ := q
  unfold rotP unrotP
  constructor
  · intro h
    have h1 : c = -b := congrArg Prod.fst h
    have h2 : d = a := congrArg Prod.snd h
    rw [h1, h2, Int.neg_neg]
  · intro h
    have h1 : d = a := congrArg Prod.fst h
    have h2 : -c = b := congrArg Prod.snd h
    rw [← h1, ← h2, Int.neg_neg]
def rotZ (z : WSt) : WSt := (fun q => z.1 (unrotP q), (-z.2.2.1, z.2.1, (z.2.2.2.1 + 1) % 4, z.2.2.2.2))
theorem dab_rot (f : Pt → Int) (p : Pt) (c : Int) : dab (fun q => f (unrotP q)) (rotP p) c = fun q => dab f p c (unrotP q) := by
  funext q
  unfold dab
  by_cases h : q = rotP p
  · rw [if_pos h, if_pos (rot_iff.mp h)]
  · rw [if_neg h, if_neg (fun z => h (rot_iff.mpr z))]
theorem turn_ax {g : Int} (h0 : 0 ≤ g) (h1 : g < 4) : dxI ((g + 1) % 4) = -dyI g ∧ dyI ((g + 1) % 4) = dxI g := by
  obtain ⟨n, rfl⟩ := Int.eq_ofNat_of_zero_le h0
  have h : n = 0 ∨ n = 1 ∨ n = 2 ∨ n = 3 := by omega
  rcases h with rfl | rfl | rfl | rfl <;> decide
theorem behind_rot (f : Pt → Int) (w : Wk) (e : Int × Int × Int) : behind (rotZ (f, w)).2 e = (rotZ (f, behind w e)).2 := by
  have g0 : 0 ≤ turnI w e.2.1 := Int.emod_nonneg _ (by decide)
  have g1 : turnI w e.2.1 < 4 := Int.emod_lt_of_pos _ (by decide)
  have e1 : turnI (rotZ (f, w)).2 e.2.1 = (turnI w e.2.1 + 1) % 4 := by
    show ((w.2.2.1 + 1) % 4 + e.2.1) % 4 = ((w.2.2.1 + e.2.1) % 4 + 1) % 4
    omega
  obtain ⟨a1, a2⟩ := turn_ax g0 g1
  unfold behind
  rw [e1, a1, a2]
  show (-w.2.1 + -dyI (turnI w e.2.1), w.1 + dxI (turnI w e.2.1), _, _) = (-(w.2.1 + dyI (turnI w e.2.1)), w.1 + dxI (turnI w e.2.1), _, _)
  rw [Int.neg_add]
theorem step_rot (z : WSt) : stepW T (rotZ z) = (stepW T z).map rotZ := by
  obtain ⟨f, w⟩ := z
  have e : (rotZ (f, w)).1 (wPt (rotZ (f, w)).2) = f (wPt w) := by
    show f (unrotP (rotP (wPt w))) = f (wPt w)
    rw [rot_iff.mp rfl]
  show ((entAt T w.2.2.2 ((rotZ (f, w)).1 (wPt (rotZ (f, w)).2))).map _) = ((entAt T w.2.2.2 (f (wPt w))).map _).map rotZ
  rw [e]
  cases entAt T w.2.2.2 (f (wPt w)) with
  | none => rfl
  | some en =>
    show some (dab (fun q => f (unrotP q)) (rotP (wPt w)) en.1, behind (rotZ (f, w)).2 en) = some (rotZ (dab f (wPt w) en.1, behind w en))
    rw [dab_rot, behind_rot f w en]
    rfl
def shiftZ (m : Int) (z : WSt) : WSt := (fun q => z.1 (q.1 - m, q.2), (z.2.1 + m, z.2.2.1, z.2.2.2.1, z.2.2.2.2))
theorem step_shift (m : Int) (z : WSt) : stepW T (shiftZ m z) = (stepW T z).map (shiftZ m) := by
  obtain ⟨f, w⟩ := z
  have e : (shiftZ m (f, w)).1 (wPt (shiftZ m (f, w)).2) = f (wPt w) := by
    show f (w.1 + m - m, w.2.1) = f (wPt w)
    rw [show w.1 + m - m = w.1 by omega]
    rfl
  show ((entAt T w.2.2.2 ((shiftZ m (f, w)).1 (wPt (shiftZ m (f, w)).2))).map _) = ((entAt T w.2.2.2 (f (wPt w))).map _).map (shiftZ m)
  rw [e]
  cases entAt T w.2.2.2 (f (wPt w)) with
  | none => rfl
  | some en =>
    have e1 : dab (fun q : Pt => f (q.1 - m, q.2)) (w.1 + m, w.2.1) en.1 = fun q => dab f (wPt w) en.1 (q.1 - m, q.2) := by
      funext q
      obtain ⟨a, b⟩ := q
      unfold dab wPt
      by_cases h : (a, b) = (w.1 + m, w.2.1)
      · have h1 : a = w.1 + m := congrArg Prod.fst h
        have h2 : b = w.2.1 := congrArg Prod.snd h
        rw [if_pos h, if_pos (by rw [h1, h2, show w.1 + m - m = w.1 by omega])]
      · rw [if_neg h, if_neg (fun z => h ?_)]
        have h1 : a - m = w.1 := congrArg Prod.fst z
        have h2 : b = w.2.1 := congrArg Prod.snd z
        rw [← h1, ← h2, show a - m + m = a by omega]
    have e2 : behind (w.1 + m, w.2.1, w.2.2.1, w.2.2.2) en = ((behind w en).1 + m, (behind w en).2.1, (behind w en).2.2.1, (behind w en).2.2.2) := by
      show (w.1 + m + dxI (turnI w en.2.1), _, _, _) = (w.1 + dxI (turnI w en.2.1) + m, _, _, _)
      rw [Int.add_right_comm]
      rfl
    show some (dab (fun q : Pt => f (q.1 - m, q.2)) (w.1 + m, w.2.1) en.1, behind (w.1 + m, w.2.1, w.2.2.1, w.2.2.2) en) = some (shiftZ m (dab f (wPt w) en.1, behind w en))
    rw [e1, e2]
    rfl
/-! ### how far a walk comes -/
def InB (B : Int) (p : Pt) : Prop := (-B ≤ p.1 ∧ p.1 ≤ B) ∧ (-B ≤ p.2 ∧ p.2 ≤ B)
structure Fit (c n : Nat) (B : Int) (z : WSt) : Prop where
  cols : ∀ p, 0 ≤ z.1 p ∧ z.1 p < c
  near : ∀ p, z.1 p ≠ 0 → InB B p
  wk : InB B (wPt z.2)
  hd : 0 ≤ z.2.2.2.1 ∧ z.2.2.2.1 < 4
  st : 0 ≤ z.2.2.2.2 ∧ z.2.2.2.2 < n
theorem entAt_ok {c n : Nat} (ok : TabOk c n T) {s k : Int} (hs : 0 ≤ s ∧ s < n) (hk : 0 ≤ k ∧ k < c) : ∃ r, T[s.toNat]? = some r ∧ r.length = c ∧ r[k.toNat]? = some (entAt T s k) ∧ EntOk c n (entAt T s k) := by
  have l1 : s.toNat < T.length := by rw [ok.1]; omega
  have m1 : T[s.toNat] ∈ T := List.getElem_mem l1
  obtain ⟨r1, r2⟩ := ok.2 _ m1
  have l2 : k.toNat < (T[s.toNat]).length := by rw [r1]; omega
  have e : entAt T s k = (T[s.toNat])[k.toNat] := by
    unfold entAt
    rw [List.getElem?_eq_getElem l1]
    show (((T[s.toNat])[k.toNat]?).getD none) = _
    rw [List.getElem?_eq_getElem l2]
    rfl
  refine ⟨_, List.getElem?_eq_getElem l1, r1, ?_, ?_⟩
  · rw [e]
    exact List.getElem?_eq_getElem l2
  · rw [e]
    exact r2 _ (List.getElem_mem l2)
theorem InB.mono {B C : Int} {p : Pt} (h : InB B p) (l : B ≤ C) : InB C p := by
  unfold InB at *
  omega
theorem ahead1 (h : Int) : (-1 ≤ dxI h ∧ dxI h ≤ 1) ∧ (-1 ≤ dyI h ∧ dyI h ≤ 1) := by
  unfold dxI dyI
  constructor
  · split
    · omega
    · split <;> omega
  · split
    · omega
    · split <;> omega
theorem Fit.step {c n : Nat} {B : Int} {z z' : WSt} (ok : TabOk c n T) (g : Fit c n B z) (h : stepW T z = some z') : Fit c n (B + 1) z' := by
  obtain ⟨r, _, _, _, eo⟩ := entAt_ok ok g.st (g.cols (wPt z.2))
  unfold stepW at h
  generalize he : entAt T z.2.2.2.2 (z.1 (wPt z.2)) = en at h eo
  cases en with
  | none => cases h
  | some e =>
    obtain rfl := (Option.some.inj h).symm
    obtain ⟨o1, o2, o3⟩ := eo
    have w1 := g.wk
    obtain ⟨a1, a2⟩ := ahead1 (turnI z.2 e.2.1)
    refine ⟨fun p => ?_, fun p hp => ?_, ?_, ⟨Int.emod_nonneg _ (by decide), Int.emod_lt_of_pos _ (by decide)⟩, o3⟩
    · show 0 ≤ (if p = wPt z.2 then e.1 else z.1 p) ∧ (if p = wPt z.2 then e.1 else z.1 p) < c
      split
      · exact o1
      · exact g.cols p
    · have hp : (if p = wPt z.2 then e.1 else z.1 p) ≠ 0 := hp
      split at hp
      · rename_i q
        rw [q]
        exact w1.mono (by omega)
      · exact (g.near p hp).mono (by omega)
    · show InB (B + 1) (z.2.1 + dxI (turnI z.2 e.2.1), z.2.2.1 + dyI (turnI z.2 e.2.1))
      unfold InB wPt at *
      omega
theorem Fit.run {c n : Nat} {B : Int} {z : WSt} (ok : TabOk c n T) (g : Fit c n B z) : ∀ {i : Nat} {z' : WSt}, runW T i z = some z' → Fit c n (B + i) z'
  | 0, z', h => by
    obtain rfl := Option.some.inj h
    rw [show B + ((0 : Nat) : Int) = B by omega]
    exact g
  | i + 1, z', h => by
    have h : (runW T i z).bind (stepW T) = some z' := h
    cases e : runW T i z with
    | none =>
      rw [e] at h
      cases h
    | some y =>
      rw [e] at h
      have q := (g.run ok e).step ok h
      rw [show B + ((i + 1 : Nat) : Int) = B + (i : Int) + 1 by omega]
      exact q
end
/-! ### floors that may be handed in -/
structure FlOk (c : Nat) (B : Int) (F : List Sq) : Prop where
  asc : F.Pairwise fun a b => ltP a.pt b.pt
  sq : ∀ s ∈ F, InB B s.pt ∧ 1 ≤ s.2.2 ∧ s.2.2 < c
theorem FlOk.of {c n : Nat} {B : Int} {z : WSt} {F : List Sq} (g : Fit c n B z) (h : FloorOf z.1 F) : FlOk c B F := by
  refine ⟨h.asc, fun s hs => ?_⟩
  obtain ⟨e, nz⟩ := (h.mem s).mp hs
  have c1 := g.cols s.pt
  rw [e] at nz
  refine ⟨g.near _ nz, ?_, ?_⟩ <;> rw [e] <;> omega
theorem FlOk.fl {c : Nat} {B : Int} {F : List Sq} (h : FlOk c B F) : FloorOf (colF F) F := colF_of h.asc fun s hs => by
  have := (h.sq s hs).2
  omega
theorem FlOk.fit {c n : Nat} {B : Int} {F : List Sq} {w : Wk} (h : FlOk c B F) (hc : 1 ≤ c) (hw : InB B (wPt w)) (hh : 0 ≤ w.2.2.1 ∧ w.2.2.1 < 4) (hs : 0 ≤ w.2.2.2 ∧ w.2.2.2 < n) : Fit c n B (colF F, w) := by
  have f := h.fl
  have at_ : ∀ p, colF F p = 0 ∨ (p.1, p.2, colF F p) ∈ F := fun p => by
    by_cases z : colF F p = 0
    · exact .inl z
    · exact .inr ((f.mem (p.1, p.2, colF F p)).mpr ⟨rfl, z⟩)
  refine ⟨fun p => ?_, fun p hp => ?_, hw, hh, hs⟩
  · show 0 ≤ colF F p ∧ colF F p < c
    rcases at_ p with z | z
    · rw [z]
      omega
    · have q := (h.sq _ z).2
      have q1 : 1 ≤ colF F p ∧ colF F p < c := q
      omega
  · rcases at_ p with z | z
    · exact absurd z hp
    · exact (h.sq _ z).1

/-! ### lists -/
theorem nodup_at {α : Type} {l : List α} (nd : l.Nodup) {i j : Nat} {a : α} (h1 : l[i]? = some a) (h2 : l[j]? = some a) : i = j := by
  obtain ⟨l1, q1⟩ := List.getElem?_eq_some_iff.mp h1
  obtain ⟨l2, q2⟩ := List.getElem?_eq_some_iff.mp h2
  have p := List.pairwise_iff_getElem.mp nd
  rcases Nat.lt_trichotomy i j with z | z | z
  · exact absurd (q1.trans q2.symm) (p i j l1 l2 z)
  · exact z
  · exact absurd (q2.trans q1.symm) (p j i l2 l1 z)
theorem TpAll.set {K : PySem.W.Frag} {H : Hp} : ∀ {vs : List V} {ds : List PyData} {k : Nat} {v : V} {d : PyData}, TpAll K H vs ds → Tp K H v d → TpAll K H (vs.set k v) (ds.set k d)
  | [], [], _, _, _, h, _ => .nil
  | [], _ :: _, _, _, _, h, _ => nomatch h
  | _ :: _, [], _, _, _, h, _ => nomatch h
  | u :: us, e :: es, 0, v, d, h, g => by
    cases h with
    | cons h1 h2 => exact .cons g h2
  | u :: us, e :: es, k + 1, v, d, h, g => by
    cases h with
    | cons h1 h2 => exact .cons h1 (TpAll.set h2 g)
theorem ixN_of {n k : Nat} (h : k < n) : ixN n (0 + ((k : Nat) : Int)) = some k := by
  unfold ixN
  rw [if_pos (by omega), if_pos (by omega)]
  congr 1
  omega
theorem le_only {a b : Int} (h : a ≤ b) : a ≤ b := h
theorem lt_only {a b : Int} (h : a < b) : a < b := h
theorem getD_at {T : List (List Ent)} {s : Nat} {r : List Ent} (h : T[s]? = some r) : T.getD s [] = r := by
  rw [List.getD_eq_getElem?_getD, h]
  rfl
theorem entAt_at {T : List (List Ent)} {s k : Nat} {r : List Ent} {e : Ent} (h : T[s]? = some r) (h2 : r[k]? = some e) : entAt T s k = e := by
  unfold entAt
  rw [Int.toNat_natCast, Int.toNat_natCast, h]
  show (r[k]?).getD none = e
  rw [h2]
  rfl

theorem nodup_sub {α : Type} [DecidableEq α] : ∀ {A B : List α}, A.Nodup → (∀ x ∈ A, x ∈ B) → A.length ≤ B.length
  | [], B, _, _ => Nat.zero_le _
  | a :: r, B, nd, h => by
    have nd := List.nodup_cons.mp nd
    have hb : a ∈ B := h a List.mem_cons_self
    have q := nodup_sub (A := r) (B := B.erase a) nd.2 fun x hx => (List.mem_erase_of_ne fun z => nd.1 (by rw [← z]; exact hx)).mpr (h x (List.mem_cons_of_mem _ hx))
    have l := List.length_erase_of_mem hb
    have p : 0 < B.length := List.length_pos_of_mem hb
    show r.length + 1 ≤ _
    omega

-- imports KE.DataEq
/-! ### data of tuples and ints is equal to itself -/
def flatT : Nat → PyData → Prop
  | n + 1, .tuple ds => ∀ d ∈ ds, flatT n d
  | _ + 1, .int _ => True
  | _, _ => False
theorem layAll : ∀ {ds : List PyData}, (∀ d ∈ ds, d.canLay0 = true) → PyData.canLayAll0 ds = true
  | [], _ => by simp only [PyData.canLayAll0]
  | d :: ds, h => by
    simp only [PyData.canLayAll0, h d List.mem_cons_self, layAll fun y hy => h y (List.mem_cons_of_mem _ hy), Bool.and_self]
theorem depAll {n : Nat} : ∀ {ds : List PyData}, (∀ d ∈ ds, d.depth ≤ n) → PyData.depthAll ds ≤ n
  | [], _ => by simp [PyData.depthAll]
  | d :: ds, h => by
    have h1 := h d List.mem_cons_self
    have h2 := depAll fun y hy => h y (List.mem_cons_of_mem _ hy)
    simp only [PyData.depthAll]
    omega
theorem flatT.lay : ∀ {n : Nat} {d : PyData}, flatT n d → d.canLay0 = true ∧ d.depth ≤ n
  | 0, _, h => absurd h (by unfold flatT; simp)
  | n + 1, .tuple ds, h => by
    have h : ∀ d ∈ ds, flatT n d := h
    refine ⟨?_, ?_⟩
    · simp only [PyData.canLay0]
      exact layAll fun d hd => (flatT.lay (h d hd)).1
    · have := depAll fun d hd => (flatT.lay (h d hd)).2
      simp only [PyData.depth]
      omega
  | n + 1, .int _, _ => by simp [PyData.canLay0, PyData.depth]
  | _ + 1, .none, h => nomatch h
  | _ + 1, .bool _, h => nomatch h
  | _ + 1, .str _, h => nomatch h
  | _ + 1, .list _, h => nomatch h
  | _ + 1, .dict _, h => nomatch h
theorem flatT.shp {n : Nat} {d : PyData} (h : flatT n d) (l : n ≤ 64) : SeqAt.shaped d = true ∧ PyData.eqv d d = true := by
  obtain ⟨h1, h2⟩ := h.lay
  refine ⟨?_, SeqAt.eqv_refl_plain d (PyData.plain_of_canLay0 d h1)⟩
  unfold SeqAt.shaped
  rw [h1, decide_eq_true (Nat.le_trans h2 l)]
  rfl

/-! ### words and the whole numbers that they tell: mathematics -/
def figL : List Nat := tl (Str.ofString "0123456789")
/-- the figures of a word -/
def unS (l : List Nat) : List Nat := if l.head? = some 45 then l.tail else l
def figB (l : List Nat) : Bool := l.all fun c => decide (c ∈ figL)
def wordOk (l : List Nat) : Bool := (decide (1 ≤ (unS l).length) && decide ((unS l).length ≤ 61)) && (figB (unS l) && !(decide ((unS l).head? = some 48) && !decide (l = [48])))
def wordI (l : List Nat) : Int := if l.head? = some 45 then -((NumText.digitsVal (unS l) : Nat) : Int) else ((NumText.digitsVal (unS l) : Nat) : Int)
def wordV (z : Str) : V := if wordOk (tl z) = true then .int (wordI (tl z)) else .non
theorem fig_all {l : List Nat} (h : figB l = true) : NumText.AllDigits l := fun c hc => by
  have m := of_decide_eq_true (List.all_eq_true.mp h c hc)
  have m : c ∈ [48, 49, 50, 51, 52, 53, 54, 55, 56, 57] := m
  simp only [List.mem_cons, List.not_mem_nil, or_false] at m
  omega
theorem all_fig {l : List Nat} (h : NumText.AllDigits l) : figB l = true := List.all_eq_true.mpr fun c hc => by
  have m := h c hc
  refine decide_eq_true ?_
  show c ∈ [48, 49, 50, 51, 52, 53, 54, 55, 56, 57]
  simp only [List.mem_cons, List.not_mem_nil, or_false]
  omega
theorem word_int {z : Str} (h : wordOk (tl z) = true) (hl : z.length ≤ 640) : intText? z = some (wordI (tl z)) := by
  unfold wordOk at h
  rw [Bool.and_eq_true, Bool.and_eq_true, Bool.and_eq_true] at h
  obtain ⟨⟨h1, _⟩, h2, _⟩ := h
  have h1 := of_decide_eq_true h1
  have dg := fig_all h2
  have ne : unS (tl z) ≠ [] := fun e => by
    rw [e] at h1
    exact absurd h1 (by decide)
  have e0 : z.cps.toList = tl z := rfl
  unfold wordI
  by_cases c : (tl z).head? = some 45
  · rw [if_pos c]
    have e : z.cps.toList = 45 :: unS (tl z) := by
      rw [e0]
      unfold unS
      rw [if_pos c]
      cases q : tl z with
      | nil =>
        rw [q] at c
        cases c
      | cons a r =>
        rw [q] at c
        rw [show a = 45 from Option.some.inj c]
        rfl
    exact intText_neg e dg ne (by omega)
  · rw [if_neg c]
    have e : unS (tl z) = z.cps.toList := by
      unfold unS
      rw [if_neg c]
    rw [e]
    exact intText_digits (by rw [← e]; exact dg) (by rw [← e]; exact ne) (by omega)
/-! the text of a number -/
def numS (i : Int) : Str := Str.ofString (toString i)
theorem numS_nat (n : Nat) : tl (numS (n : Int)) = numL n := tl_num n
theorem numS_neg (n : Nat) : tl (numS (-((n + 1 : Nat) : Int))) = 45 :: numL (n + 1) := by
  show (Str.ofString (toString (-((n + 1 : Nat) : Int)))).cps.toList = _
  have e : toString (-((n + 1 : Nat) : Int)) = "-" ++ Nat.repr (n + 1) := rfl
  rw [e, PySem.Str.ofString_eq_toList]
  show (("-" ++ Nat.repr (n + 1)).toList.map Char.toNat) = _
  rw [String.toList_append, List.map_append, Nat.toList_repr]
  rfl
theorem numL_head {n : Nat} (h : 0 < n) : (numL n).head? ≠ some 48 := by
  induction n using Nat.strongRecOn with
  | ind n ih =>
    rcases Nat.lt_or_ge n 10 with c | c
    · rw [numL_lt c]
      intro e
      have e := Option.some.inj e
      omega
    · rw [numL_step c]
      have q := ih (n / 10) (by omega) (by omega)
      have ne := numL_ne (n / 10)
      cases e : numL (n / 10) with
      | nil => exact absurd e ne
      | cons a r =>
        rw [e] at q
        exact q
theorem word_num {i : Int} (h : i.natAbs < 10 ^ 61) : wordOk (tl (numS i)) = true ∧ wordI (tl (numS i)) = i := by
  rcases Int.lt_or_le i 0 with c | c
  · obtain ⟨n, rfl⟩ : ∃ n : Nat, i = -((n + 1 : Nat) : Int) := ⟨i.natAbs - 1, by omega⟩
    have len := numL_len (n := n + 1) (k := 61) (by decide) (by omega)
    have ne := numL_ne (n + 1)
    have hd := numL_head (n := n + 1) (Nat.succ_pos n)
    have u : unS (45 :: numL (n + 1)) = numL (n + 1) := rfl
    unfold wordOk wordI
    rw [numS_neg, u, all_fig (numL_digits (n + 1)), decide_eq_true (show 1 ≤ (numL (n + 1)).length from List.length_pos_iff.mpr ne), decide_eq_true len, decide_eq_false hd, if_pos (show (45 :: numL (n + 1)).head? = some 45 from rfl), numL_val]
    exact ⟨rfl, rfl⟩
  · obtain ⟨n, rfl⟩ := Int.eq_ofNat_of_zero_le c
    have len := numL_len (n := n) (k := 61) (by decide) (by omega)
    have ne := numL_ne n
    have h45 : (numL n).head? ≠ some 45 := fun e => by
      cases q : numL n with
      | nil => exact ne q
      | cons a r =>
        rw [q] at e
        have m := numL_digits n a (by rw [q]; exact List.mem_cons_self)
        have e := Option.some.inj e
        omega
    have u : unS (numL n) = numL n := if_neg h45
    have z : (decide ((numL n).head? = some 48) && !decide (numL n = [48])) = false := by
      rcases Nat.eq_zero_or_pos n with rfl | p
      · decide +kernel
      · rw [decide_eq_false (numL_head p)]
        rfl
    unfold wordOk wordI
    rw [numS_nat, u, all_fig (numL_digits n), decide_eq_true (show 1 ≤ (numL n).length from List.length_pos_iff.mpr ne), decide_eq_true len, z, if_neg h45, numL_val]
    exact ⟨rfl, rfl⟩
theorem numS_len {i : Int} (h : i.natAbs < 10 ^ 61) : (numS i).length ≤ 62 := by
  rw [len_tl]
  rcases Int.lt_or_le i 0 with c | c
  · obtain ⟨n, rfl⟩ : ∃ n : Nat, i = -((n + 1 : Nat) : Int) := ⟨i.natAbs - 1, by omega⟩
    have len := numL_len (n := n + 1) (k := 61) (by decide) (by omega)
    rw [numS_neg, List.length_cons]
    omega
  · obtain ⟨n, rfl⟩ := Int.eq_ofNat_of_zero_le c
    have len := numL_len (n := n) (k := 61) (by decide) (by omega)
    rw [numS_nat]
    omega
theorem numS_free {i : Int} : 32 ∉ tl (numS i) := by
  rcases Int.lt_or_le i 0 with c | c
  · obtain ⟨n, rfl⟩ : ∃ n : Nat, i = -((n + 1 : Nat) : Int) := ⟨i.natAbs - 1, by omega⟩
    rw [numS_neg]
    intro h
    rcases List.mem_cons.mp h with e | e
    · cases e
    · exact numL_free (.inl (by decide)) e
  · obtain ⟨n, rfl⟩ := Int.eq_ofNat_of_zero_le c
    rw [numS_nat]
    exact numL_free (.inl (by decide))
theorem wordV_num {i : Int} (h : i.natAbs < 10 ^ 61) : wordV (numS i) = .int i := by
  obtain ⟨a, b⟩ := word_num h
  unfold wordV
  rw [if_pos a, b]
/-! papers and walkers as they are judged -/
def wholeB : V → Int → Int → Bool
  | .int i, lo, hi => decide (lo ≤ i) && decide (i ≤ hi)
  | _, _, _ => false
/-- what is neither a list nor a tuple -/
def scal : V → Bool
  | .non => true
  | .bl _ => true
  | .int _ => true
  | .str _ => true
  | _ => false
def paperB : List V → Bool
  | [a, b] => wholeB b 0 100000 && decide (a = .str "stops")
  | [a, b, c] => wholeB b 0 100000 && (inV a [.str "round", .str "street"] && wholeB c 1 2000)
  | _ => false
def walkerB : List V → Bool
  | [a, b, c, d] => ((wholeB a (-FarN) FarN && wholeB b (-FarN) FarN) && wholeB c 0 3) && wholeB d 0 9
  | _ => false
where FarN : Int := 1000000000000000000000000000000000000000000000000000000000000

/-! ### papers and walkers judged, words read -/
def spWholeS : Sp := fun vs H Q _ => ∃ (v : V) (lo hi : Int), vs = [v, .int lo, .int hi] ∧ scal v = true ∧ Q (.bl (wholeB v lo hi)) H
def spPlaceS (K : PySem.W.Frag) : Sp := fun vs H Q _ => ∃ (a : Addr) (x y : V), vs = [.ref a] ∧ SqT K H a [x, y] ∧ scal x = true ∧ scal y = true ∧ Q (.bl (wholeB x (-1000000000000000000000000000000000000000000000000000000000000) 1000000000000000000000000000000000000000000000000000000000000 && wholeB y (-1000000000000000000000000000000000000000000000000000000000000) 1000000000000000000000000000000000000000000000000000000000000)) H
/-- None, a whole number, a list, or a tuple -/
def Judged (K : PySem.W.Frag) (H : Hp) (f : List V → Bool) (v : V) (b : Bool) : Prop := (v = .non ∧ b = false) ∨ (∃ i, v = .int i ∧ b = false) ∨ (∃ a xs, v = .ref a ∧ SqL K H a xs ∧ b = false) ∨ ∃ a xs, v = .ref a ∧ SqT K H a xs ∧ xs.length ≤ 1000 ∧ (∀ x ∈ xs, scal x = true) ∧ b = f xs
def spWalkerS (K : PySem.W.Frag) : Sp := fun vs H Q _ => ∃ (v : V) (b : Bool), vs = [v, .int 10] ∧ Judged K H walkerB v b ∧ ∀ H', Same H H' → Q (.bl b) H'
def JudgedP (K : PySem.W.Frag) (H : Hp) (v : V) (b : Bool) : Prop := (v = .non ∧ b = false) ∨ (∃ i, v = .int i ∧ b = false) ∨ (∃ a xs, v = .ref a ∧ SqL K H a xs ∧ b = false) ∨ ∃ a z ys, v = .ref a ∧ SqT K H a (.str z :: ys) ∧ (V.str z :: ys).length ≤ 1000 ∧ (∀ x ∈ V.str z :: ys, scal x = true) ∧ b = paperB (.str z :: ys)
def spPaperS (K : PySem.W.Frag) : Sp := fun vs H Q _ => ∃ (v : V) (b : Bool), vs = [v] ∧ JudgedP K H v b ∧ ∀ H', Same H H' → Q (.bl b) H'
def spWholeOf : Sp := fun vs H Q _ => ∃ z : Str, vs = [.str z] ∧ z.length ≤ 500 ∧ ∀ H', Same H H' → Q (wordV z) H'
theorem seq_cutO {t u : TS} {D : L2.Ends} {σ : L2.St} {H : Hp} (Pm : L2.St → Hp → Prop) (h2 : ∀ σ H, Pm σ H → u D σ H) (h1 : ∀ R : L2.St → Hp → Prop, (∀ σ H, Pm σ H → R σ H) → t { D with nx := R } σ H) : tSeq t u D σ H := h1 _ h2
theorem seq_ifs {t : TT} {a b u : TS} {D : L2.Ends} {σ : L2.St} {H : Hp} (x : Bool) (ha : x = true → ∀ H', Same H H' → a { D with nx := u D } σ H') (hb : x = false → ∀ H', Same H H' → b { D with nx := u D } σ H') (hx : ∀ Q : Bool → Hp → Prop, (∀ H', Same H H' → Q x H') → t σ H Q) : tSeq (tIfS t a b) u D σ H := hx _ fun H' sm => by
  cases x with
  | true => exact ha rfl H' sm
  | false => exact hb rfl H' sm
theorem str_eq {x y : Str} : decide (V.str x = V.str y) = decide (tl x = tl y) := by
  by_cases e : tl x = tl y
  · rw [decide_eq_true e, decide_eq_true (show V.str x = V.str y by rw [ext_tl e])]
  · rw [decide_eq_false e, decide_eq_false fun z => e (by rw [V.str.inj z])]
theorem next_seq {t u : TS} {D : L2.Ends} {rt : VK} {bk ct : L2.St → Hp → Prop} {σ : L2.St} {H : Hp} (h : tSeq t u D σ H) : tNext { nx := tSeq t u D, rt := rt, bk := bk, ct := ct } σ H := h
theorem rm_minus (z : Str) : tl (Txt.removeprefix z (Str.ofString "-")) = unS (tl z) := by
  obtain ⟨⟨l⟩⟩ := z
  show (Txt.removeprefix (⟨⟨l⟩⟩ : Str) (Str.ofString "-")).cps.toList = unS l
  have l1 : (Str.ofString "-").length = 1 := rfl
  have e0 : (Str.ofString "-").cps = #[45] := rfl
  unfold Txt.removeprefix Txt.affix Builtin.Str.subAt Builtin.Str.strSub
  rw [l1, e0]
  cases l with
  | nil => decide +kernel
  | cons a r =>
    have e1 : ((⟨⟨a :: r⟩⟩ : Str).cps.extract 0 (0 + 1)) = #[a] := by simp
    rw [e1]
    have e2 : (#[a] == #[45]) = decide (a = 45) := by
      by_cases c : a = 45
      · rw [decide_eq_true c, c]
        rfl
      · rw [decide_eq_false c]
        exact beq_false_of_ne fun z => c (by have := congrArg Array.toList z; exact (List.cons.inj this).1)
    rw [e2]
    unfold unS
    by_cases c : a = 45
    · rw [decide_eq_true c, if_pos rfl, if_pos (by rw [c]; rfl)]
      have lr : (⟨⟨a :: r⟩⟩ : Str).length = r.length + 1 := rfl
      show ((if ((⟨⟨a :: r⟩⟩ : Str).length - 1 == (⟨⟨a :: r⟩⟩ : Str).length) = true then (⟨⟨a :: r⟩⟩ : Str) else ⟨(⟨⟨a :: r⟩⟩ : Str).cps.extract 1 (⟨⟨a :: r⟩⟩ : Str).length⟩)).cps.toList = r
      rw [lr, if_neg (by simp)]
      simp
    · rw [decide_eq_false c, if_neg (by simp), if_neg (by intro z; exact c (Option.some.inj z))]
section
variable {P : Program} {w : World} {K : PySem.W.Frag} {mg : Str → Option Value} {base : Heap}
local macro_rules | `(tactic| walk_at "cl") => `(tactic| first | (refine le_only ?_; omega) | (refine lt_only ?_; omega) | assumption | exact .inr (SqT.of upd_same))
theorem ok_is_whole (T : Txt K mg) (D : DefAt K mg "is_whole" s_is_whole ["value", "least", "greatest"]) : Cal P w K mg base CX0 "is_whole" 1 ["value", "least", "greatest"] spWholeS := by
  refine D.cal sc_is_whole (fun vs H Q E h => ?_) (fun f cdv A outer s H vs Q E hr h => ?_)
  · obtain ⟨v, lo, hi, rfl, _⟩ := h
    rfl
  · obtain ⟨v, lo, hi, rfl, hs, q⟩ := h
    refine ⟨_, (pss_cons (ps_if (PW.pt (pw_or (pt_not (pt_val (pe_callB (k_isN (K := K)) (by rfl) T.m_isinstance (by decide +kernel) (pa_cons (pv 0) (pa_cons (pe_ty "int" (by rfl) T.m_int (by decide +kernel)) pa_nil))))) (pw_or1 (pt_val (pe_callB (k_isN (K := K)) (by rfl) T.m_isinstance (by decide +kernel) (pa_cons (pv 0) (pa_cons (pe_ty "bool" (by rfl) T.m_bool (by decide +kernel)) pa_nil))))))) (pss_one (ps_ret pe_bl)) pss_nil)
      (pss_one (ps_ret (pe_chain op_le op_le (pv 1) (pv 0) (pv 2))))), ?_⟩
    cases v with
    | int i =>
      walk_at "st"
      refine ite2 (fun e => ?_) (fun e => ?_)
      · walk_at "st"
        have q : Q (.bl (decide (lo ≤ i) && decide (i ≤ hi))) H := q
        rw [e, Bool.true_and] at q
        exact q
      · have q : Q (.bl (decide (lo ≤ i) && decide (i ≤ hi))) H := q
        rw [Bool.eq_false_iff.mpr e, Bool.false_and] at q
        exact q
    | bl x =>
      walk_at "st"
      exact q
    | non =>
      walk_at "st"
      exact q
    | str x =>
      walk_at "st"
      exact q
    | _ => cases hs
theorem ok_is_place (T : Txt K mg) (D : DefAt K mg "is_place" s_is_place ["value"]) (C_is_whole : Cal P w K mg base CX0 "is_whole" 1 ["value", "least", "greatest"] spWholeS) : Cal P w K mg base CX0 "is_place" 2 ["value"] (spPlaceS K) := by
  refine D.cal sc_is_place (fun vs H Q E h => ?_) (fun f cdv A outer s H vs Q E hr h => ?_)
  · obtain ⟨a, x, y, rfl, _⟩ := h
    rfl
  · obtain ⟨a, x, y, rfl, hs, hx, hy, q⟩ := h
    refine ⟨_, (pss_cons (ps_if (PW.pt (pw_or (pt_not (pt_val (pe_callB (k_isN (K := K)) (by rfl) T.m_isinstance (by decide +kernel) (pa_cons (pv 0) (pa_cons (pe_ty "tuple" (by rfl) T.m_tuple (by decide +kernel)) pa_nil))))) (pw_or1 (pt_cmpR op_ne (pe_callB (k_len_t (K := K)) (by rfl) T.m_len (by decide +kernel) (pa_cons (pv 0) pa_nil)) pe_int (nomark _))))) (pss_one (ps_ret pe_bl)) pss_nil)
      (pss_one (ps_ret (pe_and (pe_own C_is_whole hr (by first | decide | omega) (pa_cons (pe_ix (k_ix_tup (K := K)) (pv 0) pe_int (fun _ _ => rfl)) (pa_cons (pe_un un_neg (pe_gint (by rfl) T.far)) (pa_cons (pe_gint (by rfl) T.far) pa_nil)))) (pe_one (pe_own C_is_whole hr (by first | decide | omega) (pa_cons (pe_ix (k_ix_tup (K := K)) (pv 0) pe_int (fun _ _ => rfl)) (pa_cons (pe_un un_neg (pe_gint (by rfl) T.far)) (pa_cons (pe_gint (by rfl) T.far) pa_nil))))))))), ?_⟩
    walk_at "st"
    cases ex : wholeB x (-1000000000000000000000000000000000000000000000000000000000000) 1000000000000000000000000000000000000000000000000000000000000 with
    | false =>
      rw [ex, Bool.false_and] at q
      refine iteF ?_
      exact q
    | true =>
      rw [ex, Bool.true_and] at q
      refine iteT ?_
      walk_at "st"
      exact q
theorem ok_is_walker (T : Txt K mg) (D : DefAt K mg "is_walker" s_is_walker ["value", "states"]) (C_is_whole : Cal P w K mg base CX0 "is_whole" 1 ["value", "least", "greatest"] spWholeS) (C_is_place : Cal P w K mg base CX0 "is_place" 2 ["value"] (spPlaceS K)) : Cal P w K mg base CX0 "is_walker" 3 ["value", "states"] (spWalkerS K) := by
  refine D.cal sc_is_walker (fun vs H Q E h => ?_) (fun f cdv A outer s H vs Q E hr h => ?_)
  · obtain ⟨v, b, rfl, _⟩ := h
    rfl
  · obtain ⟨v, b, rfl, hj, q⟩ := h
    refine ⟨_, (pss_cons (ps_if (PW.pt (pw_or (pt_not (pt_val (pe_callB (k_isN (K := K)) (by rfl) T.m_isinstance (by decide +kernel) (pa_cons (pv 0) (pa_cons (pe_ty "tuple" (by rfl) T.m_tuple (by decide +kernel)) pa_nil))))) (pw_or1 (pt_cmpR op_ne (pe_callB (k_len_t (K := K)) (by rfl) T.m_len (by decide +kernel) (pa_cons (pv 0) pa_nil)) pe_int (nomark _))))) (pss_one (ps_ret pe_bl)) pss_nil)
      (pss_one (ps_ret (pe_and (pe_own C_is_place hr (by first | decide | omega) (pa_cons (pe_slice (k_sl_tup (K := K)) (pv 0) po_none (po_some pe_int)) pa_nil)) (pe_and (pe_own C_is_whole hr (by first | decide | omega) (pa_cons (pe_ix (k_ix_tup (K := K)) (pv 0) pe_int (fun _ _ => rfl)) (pa_cons pe_int (pa_cons pe_int pa_nil)))) (pe_one (pe_own C_is_whole hr (by first | decide | omega) (pa_cons (pe_ix (k_ix_tup (K := K)) (pv 0) pe_int (fun _ _ => rfl)) (pa_cons pe_int (pa_cons (pe_op op_sub (pv 1) pe_int) pa_nil)))))))))), ?_⟩
    rcases hj with ⟨rfl, rfl⟩ | ⟨i, rfl, rfl⟩ | ⟨a, xs, rfl, hL, rfl⟩ | ⟨a, xs, rfl, hT, l1, hs, rfl⟩
    · walk_at "st"
      exact q _ (Same.refl _)
    · walk_at "st"
      exact q _ (Same.refl _)
    · walk_at "st"
      exact q _ (Same.refl _)
    · walk_at "st"
      by_cases e4 : xs.length = 4
      · obtain ⟨x0, x1, x2, x3, rfl⟩ : ∃ a b c d, xs = [a, b, c, d] := by
          match xs, e4 with
          | [a, b, c, d], _ => exact ⟨a, b, c, d, rfl⟩
        have d4 : decide (V.int (([x0, x1, x2, x3] : List V).length : Int) = V.int 4) = true := decide_eq_true rfl
        rw [d4]
        refine iteF ?_
        have s0 := hs x0 (by simp)
        have s1 := hs x1 (by simp)
        have s2 := hs x2 (by simp)
        have s3 := hs x3 (by simp)
        have sl := sl42 (a := x0) (b := x1) (c := x2) (d := x3)
        walk_at "st"
        intro p np
        have sm : Same H (upd H p (.tup [x0, x1])) := Same.new np
        have hT1 := TK.seqT (Same.tk sm) hT
        have hp : SqT K (upd H p (.tup [x0, x1])) p [x0, x1] := SqT.of upd_same
        have q := q _ sm
        refine ⟨p, x0, x1, rfl, hp, s0, s1, ?_⟩
        refine ⟨_, rfl, ?_⟩
        cases e1 : (wholeB x0 (-1000000000000000000000000000000000000000000000000000000000000) 1000000000000000000000000000000000000000000000000000000000000 && wholeB x1 (-1000000000000000000000000000000000000000000000000000000000000) 1000000000000000000000000000000000000000000000000000000000000) with
        | false =>
          have wf : walkerB [x0, x1, x2, x3] = false := by
            show (((wholeB x0 _ _ && wholeB x1 _ _) && wholeB x2 0 3) && wholeB x3 0 9) = false
            rw [show (wholeB x0 (-walkerB.FarN) walkerB.FarN && wholeB x1 (-walkerB.FarN) walkerB.FarN) = false from e1]
            rfl
          rw [wf] at q
          refine iteF ?_
          exact q
        | true =>
          have wf : walkerB [x0, x1, x2, x3] = (wholeB x2 0 3 && wholeB x3 0 9) := by
            show (((wholeB x0 _ _ && wholeB x1 _ _) && wholeB x2 0 3) && wholeB x3 0 9) = _
            rw [show (wholeB x0 (-walkerB.FarN) walkerB.FarN && wholeB x1 (-walkerB.FarN) walkerB.FarN) = true from e1]
            rfl
          rw [wf] at q
          refine iteT ?_
          walk_at "st"
          cases e2 : wholeB x2 0 3 with
          | false =>
            rw [e2, Bool.false_and] at q
            refine iteF ?_
            exact q
          | true =>
            rw [e2, Bool.true_and] at q
            refine iteT ?_
            walk_at "st"
            exact q
      · have d4 : decide (V.int (xs.length : Int) = V.int 4) = false := decide_eq_false fun z => e4 (by have := V.int.inj z; omega)
        rw [d4]
        refine iteT ?_
        have wf : walkerB xs = false := by
          match xs, e4 with
          | [], _ => rfl
          | [_], _ => rfl
          | [_, _], _ => rfl
          | [_, _, _], _ => rfl
          | [_, _, _, _], h => exact absurd rfl h
          | _ :: _ :: _ :: _ :: _ :: _, _ => rfl
        rw [wf] at q
        walk_at "st"
        exact q _ (Same.refl _)
theorem ok_is_paper (T : Txt K mg) (D : DefAt K mg "is_paper" s_is_paper ["value"]) (C_is_whole : Cal P w K mg base CX0 "is_whole" 1 ["value", "least", "greatest"] spWholeS) : Cal P w K mg base CX0 "is_paper" 2 ["value"] (spPaperS K) := by
  refine D.cal sc_is_paper (fun vs H Q E h => ?_) (fun f cdv A outer s H vs Q E hr h => ?_)
  · obtain ⟨v, b, rfl, _⟩ := h
    rfl
  · obtain ⟨v, b, rfl, hj, q⟩ := h
    refine ⟨_, (pss_cons (ps_if (PW.pt (pw_or (pt_not (pt_val (pe_callB (k_isN (K := K)) (by rfl) T.m_isinstance (by decide +kernel) (pa_cons (pv 0) (pa_cons (pe_ty "tuple" (by rfl) T.m_tuple (by decide +kernel)) pa_nil))))) (pw_or (pt_cmpR op_notIn_seq (pe_callB (k_len_t (K := K)) (by rfl) T.m_len (by decide +kernel) (pa_cons (pv 0) pa_nil)) (pe_tup (pa_cons pe_int (pa_cons pe_int pa_nil))) (by rfl)) (pw_or1 (pt_not (pt_val (pe_own C_is_whole hr (by first | decide | omega) (pa_cons (pe_ix (k_ix_tup (K := K)) (pv 0) pe_int (fun _ _ => rfl)) (pa_cons pe_int (pa_cons (pe_gint (by rfl) T.most_steps) pa_nil)))))))))) (pss_one (ps_ret pe_bl)) pss_nil)
      (pss_cons (ps_if (pt_cmpR op_eq (pe_callB (k_len_t (K := K)) (by rfl) T.m_len (by decide +kernel) (pa_cons (pv 0) pa_nil)) pe_int (nomark _)) (pss_one (ps_ret (pe_cmpR op_eq (pe_ix (k_ix_tup (K := K)) (pv 0) pe_int (fun _ _ => rfl)) pe_str (nomark _)))) pss_nil)
      (pss_one (ps_ret (pe_and (pe_cmpR op_in_seq (pe_ix (k_ix_tup (K := K)) (pv 0) pe_int (fun _ _ => rfl)) (pe_tup (pa_cons pe_str (pa_cons pe_str pa_nil))) (by rfl)) (pe_one (pe_own C_is_whole hr (by first | decide | omega) (pa_cons (pe_ix (k_ix_tup (K := K)) (pv 0) pe_int (fun _ _ => rfl)) (pa_cons pe_int (pa_cons (pe_gint (by rfl) T.longest_period) pa_nil)))))))))), ?_⟩
    rcases hj with ⟨rfl, rfl⟩ | ⟨i, rfl, rfl⟩ | ⟨a, xs, rfl, hL, rfl⟩ | ⟨a, z, ys, rfl, hT, l1, hs, rfl⟩
    · walk_at "st"
      exact q _ (Same.refl _)
    · walk_at "st"
      exact q _ (Same.refl _)
    · walk_at "st"
      exact q _ (Same.refl _)
    · walk_at "st"
      intro p np
      have sm : Same H (upd H p (.tup [.int 2, .int 3])) := Same.new np
      have hT1 := TK.seqT (Same.tk sm) hT
      have s0 := hs (V.str z) List.mem_cons_self
      match ys, hs with
      | [], _ =>
        walk_at "st"
        refine iteT ?_
        refine iteT ?_
        walk_at "st"
        exact q _ sm
      | [y], hs =>
        have s1 := hs y (by simp)
        have q : Q (.bl (wholeB y 0 100000 && decide (V.str z = .str "stops"))) _ := q _ sm
        walk_at "st"
        cases e1 : wholeB y 0 100000 with
        | false =>
          rw [e1, Bool.false_and] at q
          refine iteT ?_
          walk_at "st"
          exact q
        | true =>
          rw [e1, Bool.true_and] at q
          refine iteF ?_
          walk_at "st"
          exact q
      | [y, u], hs =>
        have s1 := hs y (by simp)
        have s2 := hs u (by simp)
        have q : ∀ H', Same H H' → Q (.bl (wholeB y 0 100000 && (inV (V.str z) [.str "round", .str "street"] && wholeB u 1 2000))) H' := q
        walk_at "st"
        cases e1 : wholeB y 0 100000 with
        | false =>
          rw [e1, Bool.false_and] at q
          refine iteT ?_
          walk_at "st"
          exact q _ sm
        | true =>
          rw [e1, Bool.true_and] at q
          refine iteF ?_
          walk_at "st"
          intro p2 np2
          have sm2 := Same.trans sm (Same.new (o := .tup [.str "round", .str "street"]) np2)
          have hT2 := TK.seqT (Same.tk sm2) hT
          walk_at "st"
          cases e2 : inV (V.str z) [.str "round", .str "street"] with
          | false =>
            rw [e2, Bool.false_and] at q
            refine iteF ?_
            exact q _ sm2
          | true =>
            rw [e2, Bool.true_and] at q
            refine iteT ?_
            walk_at "st"
            exact q _ sm2
      | y :: u :: v :: r, hs =>
        have hin : inV (V.int ((V.str z :: y :: u :: v :: r).length : Int)) [V.int 2, V.int 3] = false := by
          show (((2 : Int) == (((r.length + 1 + 1 + 1) + 1 : Nat) : Int)) || (((3 : Int) == (((r.length + 1 + 1 + 1) + 1 : Nat) : Int)) || false)) = false
          rw [beq_false_of_ne (show (2 : Int) ≠ (((r.length + 1 + 1 + 1) + 1 : Nat) : Int) by omega), beq_false_of_ne (show (3 : Int) ≠ (((r.length + 1 + 1 + 1) + 1 : Nat) : Int) by omega)]
          rfl
        walk_at "st"
        rw [hin]
        refine iteT ?_
        refine iteT ?_
        walk_at "st"
        exact q _ sm
theorem ok_whole_of (T : Txt K mg) (D : DefAt K mg "whole_of" s_whole_of ["word"]) : Cal P w K mg base CX0 "whole_of" 1 ["word"] spWholeOf := by
  refine D.cal sc_whole_of (fun vs H Q E h => ?_) (fun f cdv A outer s H vs Q E hr h => ?_)
  · obtain ⟨z, rfl, _⟩ := h
    rfl
  · obtain ⟨z, rfl, hl, q⟩ := h
    refine ⟨_, (pss_cons (ps_set (i := 1) sc_whole_of.nd rfl (Or.inl rfl) (pe_bm PySem.F.plainAttrs_str PySem.F.slot_str_removeprefix PySem.F.type_str_removeprefix mt_removeprefix (pv 0) (pa_cons pe_str pa_nil)))
      (pss_cons (ps_if (PW.pt (pw_or (pt_not (pt_chain op_le op_le pe_int (pe_callB call_len_str (by rfl) T.m_len (by decide +kernel) (pa_cons (pv 1) pa_nil)) (pe_gint (by rfl) T.most_figures))) (pw_or1 (pt_val (pe_callB (k_any (K := K) rfl) (by rfl) T.m_any (by decide +kernel) (pa_cons (pe_lc (own := [("sign", 2)]) (g := gName 2) rfl sc_whole_of.nd (pi_str (pv 1)) (blkOk_by (by rfl)) (fun _ _ _ _ _ => (pg_name (i := 2) sc_whole_of.nd rfl (Or.inl rfl))) (fun _ _ _ _ _ => pts_nil) (fun _ _ _ _ _ => (pe_cmpR op_notIn_sign (pv 2) (pe_gstr (by rfl) T.figures) (by rfl)))) pa_nil)))))) (pss_one (ps_ret pe_non)) pss_nil)
      (pss_cons (ps_if (PW.pt (pw_and (pt_cmpR op_eq (pe_ix ix_str (pv 1) pe_int (fun _ _ => rfl)) pe_str (nomark _)) (pw_and1 (pt_cmpR op_ne (pv 0) pe_str (nomark _))))) (pss_one (ps_ret pe_non)) pss_nil)
      (pss_one (ps_ret (pe_callTy call_int_str (by rfl) T.m_int (by decide +kernel) (pa_cons (pv 0) pa_nil))))))), ?_⟩
    have lz : z.length ≤ sizeLine := small_le (by omega)
    have hf := rm_minus z
    have lf : (Txt.removeprefix z (Str.ofString "-")).length ≤ 500 := by
      rw [len_tl, hf]
      unfold unS
      rw [len_tl] at hl
      split
      · rw [List.length_tail]
        omega
      · exact hl
    have lf2 : (Txt.removeprefix z (Str.ofString "-")).length ≤ sizeLine := small_le (by omega)
    refine seq_cutO (fun σ' H' => σ' = [some (.str z), some (.str (Txt.removeprefix z (Str.ofString "-"))), none] ∧ H' = H) ?_ ?_
    rotate_left
    · intro R hR
      walk_at "st"
      exact hR _ _ ⟨rfl, rfl⟩
    · rintro σ' H' ⟨rfl, rfl⟩
      generalize Txt.removeprefix z (Str.ofString "-") = g at *
      have lgz : g.length = (unS (tl z)).length := by rw [len_tl, hf]
      refine seq_ifs (!((decide (1 ≤ (unS (tl z)).length) && decide ((unS (tl z)).length ≤ 61)) && figB (unS (tl z)))) (fun hx H1 s1 => ?_) (fun hx H1 s1 => ?_) (fun Q' q' => ?_)
      · have wn : wordV z = .non := by
          unfold wordV
          refine if_neg fun h => ?_
          unfold wordOk at h
          rw [Bool.and_eq_true, Bool.and_eq_true (a := figB _)] at h
          rw [h.1, h.2.1] at hx
          cases hx
        rw [wn] at q
        exact q _ s1
      · have hx : ((decide (1 ≤ (unS (tl z)).length) && decide ((unS (tl z)).length ≤ 61)) && figB (unS (tl z))) = true := by
          cases e : ((decide (1 ≤ (unS (tl z)).length) && decide ((unS (tl z)).length ≤ 61)) && figB (unS (tl z))) with
          | true => rfl
          | false =>
            rw [e] at hx
            cases hx
        rw [Bool.and_eq_true] at hx
        obtain ⟨hx1, hx2⟩ := hx
        have l1 := of_decide_eq_true (Bool.and_eq_true_iff.mp hx1).1
        refine next_seq ?_
        obtain ⟨c, r, ec⟩ : ∃ c r, tl g = c :: r := by
          cases e : tl g with
          | nil =>
            rw [hf] at e
            rw [e] at l1
            exact absurd l1 (by decide)
          | cons c r => exact ⟨c, r, rfl⟩
        have hat : atI g.cps.toList 0 = some c := by
          show atI (tl g) 0 = some c
          rw [ec]
          exact at0
        have e48 : ((unS (tl z)).head? = some 48) ↔ c = 48 := by
          rw [← hf, ec]
          exact ⟨fun h => Option.some.inj h, fun h => by rw [h]; rfl⟩
        refine seq_ifs (decide ((unS (tl z)).head? = some 48) && !decide (tl z = [48])) (fun hy H2 s2 => ?_) (fun hy H2 s2 => ?_) (fun Q' q' => ?_)
        · have wn : wordV z = .non := by
            unfold wordV
            refine if_neg fun h => ?_
            unfold wordOk at h
            rw [hy, Bool.not_true, Bool.and_false, Bool.and_false] at h
            cases h
          rw [wn] at q
          exact q _ (Same.trans s1 s2)
        · have wo : wordOk (tl z) = true := by
            unfold wordOk
            rw [hx1, hx2, hy]
            rfl
          have wi := word_int wo (show z.length ≤ 640 by omega)
          have lz6 : z.length ≤ 640 := by omega
          have wv : wordV z = .int (wordI (tl z)) := by
            unfold wordV
            rw [if_pos wo]
          rw [wv] at q
          refine next_of ?_
          walk_at "st"
          exact q _ (Same.trans s1 s2)
        · walk_at "st"
          by_cases h48 : c = 48
          · have d1 : decide (V.str (⟨#[c]⟩ : Str) = V.str (Str.ofString "0")) = true := by
              rw [str_eq]
              exact decide_eq_true (by rw [h48]; rfl)
            rw [d1]
            refine iteT ?_
            walk_at "st"
            rw [decide_eq_true (e48.mpr h48), Bool.true_and] at q'
            have d2 : decide (V.str z = V.str (Str.ofString "0")) = decide (tl z = [48]) := str_eq
            rw [d2]
            exact q' _ (Same.refl _)
          · have d1 : decide (V.str (⟨#[c]⟩ : Str) = V.str (Str.ofString "0")) = false := by
              rw [str_eq]
              refine decide_eq_false fun e => h48 ?_
              have e : [c] = [48] := e
              exact (List.cons.inj e).1
            rw [d1]
            refine iteF ?_
            rw [decide_eq_false (fun h => h48 (e48.mp h)), Bool.false_and] at q'
            exact q' _ (Same.refl _)
      · rw [← lgz] at q'
        by_cases c1 : 1 ≤ g.length
        · by_cases c2 : g.length ≤ 61
          · walk_at "st"
            rw [decide_eq_true (show (1 : Int) ≤ (g.length : Int) by omega)]
            refine iteT ?_
            walk_at "st"
            rw [decide_eq_true (show (g.length : Int) ≤ 61 by omega)]
            refine iteF ?_
            walk_at "st"
            intro L nL
            refine lc_it (walk_str (z := g)) (fun j H2 => Ok (Same H' H2 ∧ H2 L = some (.lst (((tl g).take j).map fun c => V.bl (!decide (c ∈ figL)))))) ⟨Same.new nL, upd_same⟩ (fun _ _ _ _ => True.intro) ?_ ?_
            · rintro j x H2 H3 hj ⟨sm, hL⟩ ⟨rfl, c, hc, rfl⟩
              have hc : (tl g)[j]? = some c := by
                rw [← hc]
                exact Array.getElem?_toList
              have tk1 := take_more hc
              have lt : (((tl g).take j).map fun c => V.bl (!decide (c ∈ figL))).length < sizeLine := by
                rw [List.length_map, List.length_take]
                rw [len_tl] at lf
                exact small1000 (by omega)
              walk_at "st"
              exact ⟨Same.fresh sm nL, by rw [upd_same, tk1, List.map_append]; rfl⟩
            · rintro H2 ⟨sm, hL⟩
              rw [show g.cps.size = (tl g).length from (Array.length_toList).symm, List.take_length] at hL
              have eb : ((tl g).map fun c => V.bl (!decide (c ∈ figL))) = ((tl g).map fun c => !decide (c ∈ figL)).map V.bl := by rw [List.map_map]; rfl
              rw [eb] at hL
              refine ⟨L, _, rfl, SqL.of hL, _, rfl, ?_⟩
              have ea : ((tl g).map fun c => !decide (c ∈ figL)).any id = !figB (unS (tl z)) := by
                rw [← hf, List.any_map]
                unfold figB
                rw [List.not_all_eq_any_not]
                rfl
              rw [ea]
              rw [decide_eq_true c1, decide_eq_true c2, Bool.and_self, Bool.true_and] at q'
              exact q' _ sm
          · walk_at "st"
            rw [decide_eq_true (show (1 : Int) ≤ (g.length : Int) by omega)]
            refine iteT ?_
            walk_at "st"
            rw [decide_eq_false (show ¬ (g.length : Int) ≤ 61 by omega)]
            refine iteT ?_
            rw [decide_eq_false c2, Bool.and_false] at q'
            exact q' _ (Same.refl _)
        · walk_at "st"
          rw [decide_eq_false (show ¬ (1 : Int) ≤ (g.length : Int) by omega)]
          refine iteF ?_
          walk_at "st"
          refine iteT ?_
          rw [decide_eq_false c1] at q'
          exact q' _ (Same.refl _)
end

theorem k_star {K : PySem.W.Frag} {X : Cx} {e : Expr} {es : List Expr} {te : TE} {t : TA} {p : Pos} (he : PE X e te) (hr : PA X es t) (hs : starEach (.Starred e p :: es) X.env = (true, eval e X.env) :: starEach es X.env := by rfl) (hK : X.K = K := by rfl) : PA X (.Starred e p :: es) (StX.tStar K te t) := hK ▸ StX.pa_star he hr hs

/-! ### texts split at blanks -/
theorem spl_len (S : List Nat) : ∀ (l : List Nat) (k : Nat) (acc : List Nat), ∀ y ∈ spl S k acc l, y.length ≤ acc.length + l.length
  | [], k, acc, y, h => by
    rw [spl_nil] at h
    rw [List.mem_singleton.mp h]
    exact Nat.le_add_right _ _
  | c :: r, 0, acc, y, h => by
    by_cases e : pre S (c :: r) = true
    · rw [spl_hit e] at h
      rcases List.mem_cons.mp h with h | h
      · rw [h]; exact Nat.le_add_right _ _
      · have z := spl_len S r _ [] y h
        rw [List.length_cons]
        rw [List.length_nil] at z
        omega
    · rw [spl_miss (Bool.eq_false_iff.mpr e)] at h
      have z := spl_len S r 0 (acc ++ [c]) y h
      rw [List.length_append, List.length_singleton] at z
      rw [List.length_cons]
      omega
  | c :: r, k + 1, acc, y, h => by
    have z := spl_len S r k acc y h
    rw [List.length_cons]
    omega
theorem spl_count (S : List Nat) : ∀ (l : List Nat) (k : Nat) (acc : List Nat), (spl S k acc l).length ≤ l.length + 1
  | [], k, acc => by rw [spl_nil]; exact Nat.le_refl _
  | c :: r, 0, acc => by
    by_cases e : pre S (c :: r) = true
    · rw [spl_hit e]
      have z := spl_count S r (S.length - 1) []
      rw [List.length_cons, List.length_cons]
      omega
    · rw [spl_miss (Bool.eq_false_iff.mpr e)]
      have z := spl_count S r 0 (acc ++ [c])
      rw [List.length_cons]
      omega
  | c :: r, k + 1, acc => by
    have z := spl_count S r k acc
    show (spl S k acc r).length ≤ (c :: r).length + 1
    rw [List.length_cons]
    omega
theorem split_sp (z : Str) : (Txt.split z (Str.ofString " ")).map tl = spl [32] 0 [] (tl z) := split_spl z (Str.ofString " ") (by decide) (kind_ok (by decide +kernel))
theorem split_len {z y : Str} (h : y ∈ Txt.split z (Str.ofString " ")) : y.length ≤ z.length := by
  have h1 : tl y ∈ spl [32] 0 [] (tl z) := by rw [← split_sp]; exact List.mem_map_of_mem h
  have h2 := spl_len [32] (tl z) 0 [] (tl y) h1
  rw [len_tl, len_tl z]
  rw [List.length_nil] at h2
  omega
theorem split_count (z : Str) : (Txt.split z (Str.ofString " ")).length ≤ z.length + 1 := by
  have h := spl_count [32] (tl z) 0 []
  rw [← split_sp, List.length_map] at h
  rw [len_tl]
  exact h
theorem spl_ne (S : List Nat) : ∀ (l : List Nat) (k : Nat) (acc : List Nat), spl S k acc l ≠ []
  | [], k, acc => by
    rw [spl_nil]
    simp
  | c :: r, 0, acc => by
    by_cases e : pre S (c :: r) = true
    · rw [spl_hit e]
      simp
    · rw [spl_miss (Bool.eq_false_iff.mpr e)]
      exact spl_ne S r 0 _
  | c :: r, k + 1, acc => by
    show spl S k acc r ≠ []
    exact spl_ne S r k acc
theorem split_ne (z : Str) : ∃ a r, Txt.split z (Str.ofString " ") = a :: r := by
  cases e : Txt.split z (Str.ofString " ") with
  | cons a r => exact ⟨a, r, rfl⟩
  | nil =>
    have h := split_sp z
    rw [e] at h
    exact absurd h.symm (spl_ne _ _ _ _)

/-! ### papers and walkers written and read -/
def spCheckText (CN : Addr) : Sp := fun vs H Q E => ∃ v : V, vs = [v] ∧ ((∃ z : Str, v = .str z ∧ Q .non H) ∨ ((v = .non ∨ ∃ i, v = .int i) ∧ E (.ref CN) none H))
def spCheckW (K : PySem.W.Frag) (CW : Addr) : Sp := fun vs H Q E => ∃ (v : V) (b : Bool), vs = [v, .int 10] ∧ Judged K H walkerB v b ∧ (b = true → ∀ H', Same H H' → Q .non H') ∧ (b = false → ∀ H', Same H H' → E (.ref CW) none H')
/-- the text of a value -/
def txtV : V → Str
  | .str z => z
  | .int i => numS i
  | _ => Str.empty
def spWriteP (K : PySem.W.Frag) (CP : Addr) : Sp := fun vs H Q E => ∃ (v : V) (b : Bool), vs = [v] ∧ JudgedP K H v b ∧ (b = true → ∃ a xs, v = .ref a ∧ SqT K H a xs ∧ xs.length ≤ 4 ∧ (∀ x ∈ xs, (∃ z, x = .str z ∧ z.length ≤ 100) ∨ ∃ i : Int, x = .int i ∧ i.natAbs < 10 ^ 61) ∧ ∀ H', Same H H' → Q (.str (Txt.join (Str.ofString " ") (xs.map txtV))) H') ∧ (b = false → ∀ H', Same H H' → E (.ref CP) none H')
def spWriteW (K : PySem.W.Frag) (CW : Addr) : Sp := fun vs H Q E => ∃ (v : V) (b : Bool), vs = [v] ∧ Judged K H walkerB v b ∧ (b = true → ∃ a xs, v = .ref a ∧ SqT K H a xs ∧ xs.length ≤ 4 ∧ (∀ x ∈ xs, (∃ z, x = .str z ∧ z.length ≤ 100) ∨ ∃ i : Int, x = .int i ∧ i.natAbs < 10 ^ 61) ∧ ∀ H', Same H H' → Q (.str (Txt.join (Str.ofString " ") (xs.map txtV))) H') ∧ (b = false → ∀ H', Same H H' → E (.ref CW) none H')
/-- the words of a text, read as a paper; as a walker -/
def papV (z : Str) : List V := match Txt.split z (Str.ofString " ") with
  | [] => []
  | a :: r => .str a :: r.map wordV
def wlkV (z : Str) : List V := (Txt.split z (Str.ofString " ")).map wordV
def spReadP (K : PySem.W.Frag) (CN CI : Addr) : Sp := fun vs H Q E => ∃ v : V, vs = [v] ∧ ((∃ z : Str, v = .str z ∧ z.length ≤ 400 ∧ (paperB (papV z) = true → ∀ p H', H p = none → H' p = some (.tup (papV z)) → Same H H' → Q (.ref p) H') ∧ (paperB (papV z) = false → ∀ d H', H' d = some (.xd [("place", .int 0)]) → Same H H' → E (.ref CI) (some d) H')) ∨ ((v = .non ∨ ∃ i, v = .int i) ∧ E (.ref CN) none H))
def spReadW (K : PySem.W.Frag) (CN CI : Addr) : Sp := fun vs H Q E => ∃ v : V, vs = [v] ∧ ((∃ z : Str, v = .str z ∧ z.length ≤ 400 ∧ (walkerB (wlkV z) = true → ∀ p H', H p = none → H' p = some (.tup (wlkV z)) → Same H H' → Q (.ref p) H') ∧ (walkerB (wlkV z) = false → ∀ d H', H' d = some (.xd [("place", .int 0)]) → Same H H' → E (.ref CI) (some d) H')) ∨ ((v = .non ∨ ∃ i, v = .int i) ∧ E (.ref CN) none H))
/-- a text or a whole number as a text -/
theorem cr_strV {X : Cx} : CallR X (.type "str") (fun xs H Q => ∃ v, xs = [v] ∧ ((∃ z, v = .str z ∧ Q (.str z) H) ∨ ∃ i : Int, v = .int i ∧ i.natAbs.log2 < 1920 ∧ Q (.str (numS i)) H)) := fun pins s σ H xs us Q I r h => by
  obtain ⟨v, e, h⟩ := h
  rcases h with ⟨z, e2, q⟩ | ⟨i, e2, l, q⟩
  · exact SkE.call_str_str pins s σ H xs us Q I r ⟨z, by rw [e, e2], q⟩
  · exact call_str_int pins s σ H xs us Q I r ⟨i, by rw [e, e2], l, q⟩
theorem log61 {i : Int} (h : i.natAbs < 10 ^ 61) : i.natAbs.log2 < 1920 := by
  have h : i.natAbs < 2 ^ 1920 := Nat.lt_trans h (by decide +kernel)
  by_cases z : i.natAbs = 0
  · rw [z]
    decide
  · exact (Nat.log2_lt z).mpr h
theorem join_sz {xs : List V} (h : ∀ x ∈ xs, (∃ z, x = .str z ∧ z.length ≤ 100) ∨ ∃ i : Int, x = .int i ∧ i.natAbs < 10 ^ 61) (l : xs.length ≤ 4) : ((xs.map txtV).map (·.length)).sum + (xs.map txtV).length * (Str.ofString " ").length ≤ 16777216 := by
  have e : ∀ x ∈ xs, (txtV x).length ≤ 100 := fun x hx => by
    rcases h x hx with ⟨z, rfl, hz⟩ | ⟨i, rfl, hi⟩
    · exact hz
    · have := numS_len hi
      exact Nat.le_trans this (by decide)
  rw [List.map_map, List.length_map, show (Str.ofString " ").length = 1 from rfl]
  have key : ∀ ys : List V, (∀ x ∈ ys, (txtV x).length ≤ 100) → (ys.map ((fun s : Str => s.length) ∘ txtV)).sum ≤ ys.length * 100 := fun ys => by
    induction ys with
    | nil => exact fun _ => Nat.le_refl _
    | cons y r ih =>
      intro hy
      have a := hy y List.mem_cons_self
      have b := ih fun x hx => hy x (List.mem_cons_of_mem _ hx)
      rw [List.map_cons, List.sum_cons, List.length_cons, Nat.add_mul]
      show (txtV y).length + _ ≤ _
      omega
  have := key xs e
  have : xs.length * 100 ≤ 4 * 100 := Nat.mul_le_mul_right _ l
  omega
theorem cut1 (x : V) (xs : List V) : cutV (x :: xs) (some 1) none = xs := by
  have e1 : HT.sIx (x :: xs).length 0 (some ((1 : Nat) : Int)) = 1 := by
    rw [HT.sIx_nat, List.length_cons]
    omega
  have e1 : HT.sIx (x :: xs).length 0 (some 1) = 1 := e1
  unfold cutV
  rw [e1, HT.sIx_none, List.length_cons]
  show (xs.take (xs.length + 1 - 1)) = xs
  rw [Nat.add_sub_cancel, List.take_length]
structure StopCls (K : PySem.W.Frag) (mg : Str → Option Value) (x : Str) (C : Addr) : Prop where
  gP : mg x = some (.ref C)
  xP : PySem.W.excIn K C [.type "ValueError", .type "Exception", .type "BaseException", .type "object"] "ValueError.__new__" = true
  kP : PySem.W.keepIn K (.ref C) = true
  bP : PySem.W.subIn K (.ref C) (.type "BaseException") = some true
  tP : PySem.W.typeIn K (.ref C) = some (.type "type")
section
variable {P : Program} {w : World} {K : PySem.W.Frag} {mg : Str → Option Value} {base : Heap}
local macro_rules | `(tactic| walk_at "cl") => `(tactic| first | (refine le_only ?_; omega) | (refine lt_only ?_; omega) | assumption)
theorem exi_InvalidText {C : Addr} (M : MetAt K C "__init__" "InvalidText.__init__" s_InvalidText_init ["self", "place"]) (T : OexC K C) (no : PySem.W.findIn K (.ref C) "place" = some none) : ExcInit1 P w K mg base C "place" := by
  obtain ⟨f, fd, iC, tI, F, b⟩ := M.ex
  refine ⟨no, f, fd, _, iC, tI, F.ok sc_InvalidText_init (fun vs H Q E h => ?_) (fun cdv A outer s H vs Q E hr h => ?_), b⟩
  · obtain ⟨a, y, rfl, _⟩ := h
    rfl
  · obtain ⟨a, y, rfl, ha, q⟩ := h
    refine ⟨_, (pss_one (ps_ost (pv 0) (pv 1))), ?_⟩
    walk_at "st"
    exact Or.inl ⟨ha, fun dx nd ne => q dx nd ne⟩
theorem ok_check_text (T : Txt K mg) {CN : Addr} (TS : StopCls K mg "NotText" CN) (D : DefAt K mg "check_text" s_check_text ["value"]) : Cal P w K mg base (L2.CX P w) "check_text" 1 ["value"] (spCheckText CN) := by
  refine D.calX sc_check_text (fun vs H Q E h => ?_) (fun f cdv A outer s H vs Q E hr h => ?_)
  · obtain ⟨v, rfl, _⟩ := h
    rfl
  · obtain ⟨v, rfl, h⟩ := h
    refine ⟨_, (pss_one (ps_if (pt_not (pt_val (pe_callB (k_isN (K := K)) (by rfl) T.m_isinstance (by decide +kernel) (pa_cons (pv 0) (pa_cons (pe_ty "str" (by rfl) T.m_str (by decide +kernel)) pa_nil))))) (pss_one (ps_raise rfl (takes_of rfl rfl rfl rfl) (pmk_own PySem.F.excBase_ValueError TS.xP TS.gP TS.kP (raises_own TS.bP TS.tP) (by rfl)))) pss_nil)), ?_⟩
    rcases h with ⟨z, rfl, q⟩ | ⟨rfl | ⟨i, rfl⟩, q⟩
    · walk_at "st"
      exact q
    · walk_at "st"
      exact q
    · walk_at "st"
      exact q
theorem ok_check_walker (T : Txt K mg) {CW : Addr} (TS : StopCls K mg "BadWalker" CW) (D : DefAt K mg "check_walker" s_check_walker ["value", "states"]) (C_is_walker : Cal P w K mg base CX0 "is_walker" 3 ["value", "states"] (spWalkerS K)) : Cal P w K mg base (L2.CX P w) "check_walker" 4 ["value", "states"] (spCheckW K CW) := by
  refine D.calX sc_check_walker (fun vs H Q E h => ?_) (fun f cdv A outer s H vs Q E hr h => ?_)
  · obtain ⟨v, b, rfl, _⟩ := h
    rfl
  · obtain ⟨v, b, rfl, hj, q1, q0⟩ := h
    refine ⟨_, (pss_one (ps_if (pt_not (pt_val (pe_own C_is_walker hr (by first | decide | omega) (pa_cons (pv 0) (pa_cons (pv 1) pa_nil))))) (pss_one (ps_raise rfl (takes_of rfl rfl rfl rfl) (pmk_own PySem.F.excBase_ValueError TS.xP TS.gP TS.kP (raises_own TS.bP TS.tP) (by rfl)))) pss_nil)), ?_⟩
    walk_at "st"
    intro H1 s1
    cases b with
    | true =>
      walk_at "st"
      exact q1 rfl _ s1
    | false =>
      walk_at "st"
      exact q0 rfl _ s1
theorem ok_write_paper (T : Txt K mg) {CP : Addr} (TS : StopCls K mg "BadPaper" CP) (D : DefAt K mg "write_paper" s_write_paper ["paper"]) (C_is_paper : Cal P w K mg base CX0 "is_paper" 2 ["value"] (spPaperS K)) : Cal P w K mg base (L2.CX P w) "write_paper" 3 ["paper"] (spWriteP K CP) := by
  refine D.calX sc_write_paper (fun vs H Q E h => ?_) (fun f cdv A outer s H vs Q E hr h => ?_)
  · obtain ⟨v, b, rfl, _⟩ := h
    rfl
  · obtain ⟨v, b, rfl, hj, q1, q0⟩ := h
    refine ⟨_, (pss_cons (ps_if (pt_not (pt_val (pe_own C_is_paper hr (by first | decide | omega) (pa_cons (pv 0) pa_nil)))) (pss_one (ps_raise rfl (takes_of rfl rfl rfl rfl) (pmk_own PySem.F.excBase_ValueError TS.xP TS.gP TS.kP (raises_own TS.bP TS.tP) (by rfl)))) pss_nil)
      (pss_one (ps_ret (pe_m1 PySem.F.slot_str_join PySem.F.type_str_join (k_mt_join (K := K)) pe_str (pe_lc (own := [("part", 1)]) (g := gName 1) rfl sc_write_paper.nd (k_pi_tup (K := K) (pv 0)) (blkOk_by (by rfl)) (fun _ _ _ _ _ => (pg_name (i := 1) sc_write_paper.nd rfl (Or.inl rfl))) (fun _ _ _ _ _ => pts_nil) (fun _ _ _ _ _ => (pe_callTy cr_strV (by rfl) T.m_str (by decide +kernel) (pa_cons (pv 1) pa_nil)))))))), ?_⟩
    walk_at "st"
    intro H1 s1
    cases b with
    | false =>
      walk_at "st"
      exact q0 rfl _ s1
    | true =>
      obtain ⟨a, xs, rfl, hT, l4, hx, q⟩ := q1 rfl
      have hT1 := TK.seqT (Same.tk s1) hT
      walk_at "st"
      intro L nL
      refine lc_it (walk_tup (K := K) (a := a) (xs := xs)) (fun j H2 => Ok (Same H1 H2 ∧ H2 L = some (.lst (((xs.take j).map txtV).map V.str)))) ⟨Same.new nL, upd_same⟩ (fun j H2 _ ⟨sm, _⟩ => TK.seqT (Same.tk sm) hT1) ?_ ?_
      · rintro j x H2 H3 hj ⟨sm, hL⟩ ⟨rfl, hxj⟩
        have tk1 := take_more hxj
        have lt : (((xs.take j).map txtV).map V.str).length < sizeLine := by
          rw [List.length_map, List.length_map, List.length_take]
          exact small1000 (by omega)
        have fin : ∀ y : Str, txtV x = y → Same H1 (upd H3 L (.lst (((xs.take j).map txtV).map V.str ++ [.str y]))) ∧ (upd H3 L (.lst (((xs.take j).map txtV).map V.str ++ [.str y]))) L = some (.lst (((xs.take (j + 1)).map txtV).map V.str)) := fun y e => ⟨Same.fresh sm nL, by rw [upd_same, tk1, List.map_append, List.map_append, ← e]; rfl⟩
        rcases hx x (List.mem_of_getElem? hxj) with ⟨z, rfl, _⟩ | ⟨i, rfl, hi⟩
        · walk_at "st"
          exact .inl ⟨z, rfl, _, hL, lt, ⟨fin z rfl⟩⟩
        · walk_at "st"
          exact .inr ⟨i, rfl, log61 hi, _, hL, lt, ⟨fin (numS i) rfl⟩⟩
      · rintro H2 ⟨sm, hL⟩
        rw [List.take_length] at hL
        have hSL := SqL.of (K := K) hL
        have sz := join_sz hx l4
        refine ⟨_, L, _, rfl, rfl, .inl hSL, sz, ?_⟩
        exact q _ (Same.trans s1 sm)
theorem ok_write_walker (T : Txt K mg) {CW : Addr} (D : DefAt K mg "write_walker" s_write_walker ["walker"]) (C_check_walker : Cal P w K mg base (L2.CX P w) "check_walker" 4 ["value", "states"] (spCheckW K CW)) : Cal P w K mg base (L2.CX P w) "write_walker" 5 ["walker"] (spWriteW K CW) := by
  refine D.calX sc_write_walker (fun vs H Q E h => ?_) (fun f cdv A outer s H vs Q E hr h => ?_)
  · obtain ⟨v, b, rfl, _⟩ := h
    rfl
  · obtain ⟨v, b, rfl, hj, q1, q0⟩ := h
    refine ⟨_, (pss_cons (ps_expr (pe_ownS C_check_walker (takes_of rfl rfl rfl rfl) hr (by decide) (by exact (pa_cons (pv 0) (pa_cons (pe_gint (by rfl) T.most_states) pa_nil)))))
      (pss_one (ps_ret (pe_m1 PySem.F.slot_str_join PySem.F.type_str_join (k_mt_join (K := K)) pe_str (pe_lc (own := [("part", 1)]) (g := gName 1) rfl sc_write_walker.nd (k_pi_tup (K := K) (pv 0)) (blkOk_by (by rfl)) (fun _ _ _ _ _ => (pg_name (i := 1) sc_write_walker.nd rfl (Or.inl rfl))) (fun _ _ _ _ _ => pts_nil) (fun _ _ _ _ _ => (pe_callTy cr_strV (by rfl) T.m_str (by decide +kernel) (pa_cons (pv 1) pa_nil)))))))), ?_⟩
    refine ⟨_, rfl, v, b, rfl, hj, fun eb H1 s1 => ?_, fun eb H1 s1 => q0 eb _ s1⟩
    · subst eb
      obtain ⟨a, xs, rfl, hT, l4, hx, q⟩ := q1 rfl
      have hT1 := TK.seqT (Same.tk s1) hT
      walk_at "st"
      intro L nL
      refine lc_it (walk_tup (K := K) (a := a) (xs := xs)) (fun j H2 => Ok (Same H1 H2 ∧ H2 L = some (.lst (((xs.take j).map txtV).map V.str)))) ⟨Same.new nL, upd_same⟩ (fun j H2 _ ⟨sm, _⟩ => TK.seqT (Same.tk sm) hT1) ?_ ?_
      · rintro j x H2 H3 hj ⟨sm, hL⟩ ⟨rfl, hxj⟩
        have tk1 := take_more hxj
        have lt : (((xs.take j).map txtV).map V.str).length < sizeLine := by
          rw [List.length_map, List.length_map, List.length_take]
          exact small1000 (by omega)
        have fin : ∀ y : Str, txtV x = y → Same H1 (upd H3 L (.lst (((xs.take j).map txtV).map V.str ++ [.str y]))) ∧ (upd H3 L (.lst (((xs.take j).map txtV).map V.str ++ [.str y]))) L = some (.lst (((xs.take (j + 1)).map txtV).map V.str)) := fun y e => ⟨Same.fresh sm nL, by rw [upd_same, tk1, List.map_append, List.map_append, ← e]; rfl⟩
        rcases hx x (List.mem_of_getElem? hxj) with ⟨z, rfl, _⟩ | ⟨i, rfl, hi⟩
        · walk_at "st"
          exact .inl ⟨z, rfl, _, hL, lt, ⟨fin z rfl⟩⟩
        · walk_at "st"
          exact .inr ⟨i, rfl, log61 hi, _, hL, lt, ⟨fin (numS i) rfl⟩⟩
      · rintro H2 ⟨sm, hL⟩
        rw [List.take_length] at hL
        have hSL := SqL.of (K := K) hL
        have sz := join_sz hx l4
        refine ⟨_, L, _, rfl, rfl, .inl hSL, sz, ?_⟩
        exact q _ (Same.trans s1 sm)
theorem ok_read_paper (T : Txt K mg) {CN CI : Addr} (TI : ExcCls K mg "InvalidText" CI) (FI : ExcInit1 P w K mg base CI "place") (D : DefAt K mg "read_paper" s_read_paper ["text"]) (C_whole_of : Cal P w K mg base CX0 "whole_of" 1 ["word"] spWholeOf) (C_is_paper : Cal P w K mg base CX0 "is_paper" 2 ["value"] (spPaperS K)) (C_check_text : Cal P w K mg base (L2.CX P w) "check_text" 1 ["value"] (spCheckText CN)) : Cal P w K mg base (L2.CX P w) "read_paper" 3 ["text"] (spReadP K CN CI) := by
  refine D.calX sc_read_paper (fun vs H Q E h => ?_) (fun f cdv A outer s H vs Q E hr h => ?_)
  · obtain ⟨v, rfl, _⟩ := h
    rfl
  · obtain ⟨v, rfl, h⟩ := h
    refine ⟨_, (pss_cons (ps_expr (pe_ownS C_check_text (takes_of rfl rfl rfl rfl) hr (by decide) (by exact (pa_cons (pv 0) pa_nil))))
      (pss_cons (ps_set (i := 1) sc_read_paper.nd rfl (Or.inl rfl) (pe_split (pv 0) pe_str))
      (pss_cons (ps_set (i := 2) sc_read_paper.nd rfl (Or.inl rfl) (pe_tup (pa_cons (pe_ix (k_ix_list (K := K)) (pv 1) pe_int (fun _ _ => rfl)) (k_star (K := K) (pe_lc (own := [("word", 3)]) (g := gName 3) rfl sc_read_paper.nd (k_pi_list (K := K) (pe_slice (k_sl_list (K := K)) (pv 1) (po_some pe_int) po_none)) (blkOk_by (by rfl)) (fun _ _ _ _ _ => (pg_name (i := 3) sc_read_paper.nd rfl (Or.inl rfl))) (fun _ _ _ _ _ => pts_nil) (fun _ _ _ _ _ => (pe_own C_whole_of hr (by first | decide | omega) (pa_cons (pv 3) pa_nil)))) pa_nil))))
      (pss_cons (ps_if (pt_not (pt_val (pe_own C_is_paper hr (by first | decide | omega) (pa_cons (pv 2) pa_nil)))) (pss_one (ps_raise1 rfl (takes_of rfl rfl rfl rfl) TI FI hr (by decide) (by exact (pa_cons pe_int pa_nil)))) pss_nil)
      (pss_one (ps_ret (pv 2))))))), ?_⟩
    rcases h with ⟨z, rfl, hz, q1, q0⟩ | ⟨bad, q0⟩
    · refine ⟨_, rfl, .str z, rfl, .inl ⟨z, rfl, ?_⟩⟩
      have hz2 : z.length + 2 ≤ sizeLine := small_le (by omega)
      have hwl := fun y (h : y ∈ Txt.split z (Str.ofString " ")) => split_len h
      have hcount := split_count z
      have ep : papV z = match Txt.split z (Str.ofString " ") with
        | [] => []
        | a :: r => .str a :: r.map wordV := rfl
      obtain ⟨a0, r0, es⟩ := split_ne z
      walk_at "st"
      rw [es] at hwl hcount ep ⊢
      have ep : papV z = .str a0 :: r0.map wordV := ep
      intro W nW
      have s1 : Same H (upd H W (.lst ((a0 :: r0).map V.str))) := Same.new nW
      have hW : (upd H W (.lst ((a0 :: r0).map V.str))) W = some (.lst ((a0 :: r0).map V.str)) := upd_same
      generalize hH1 : upd H W (.lst ((a0 :: r0).map V.str)) = H1 at *
      have hSL : SqL K H1 W (V.str a0 :: r0.map V.str) := SqL.of hW
      have hat : atI (V.str a0 :: r0.map V.str) (0 : Int) = some (V.str a0) := at0
      clear hH1 nW
      walk_at "st"
      intro M nM
      rw [cut1]
      have s2 : Same H1 (upd H1 M (.lst (r0.map V.str))) := Same.new nM
      have hM : (upd H1 M (.lst (r0.map V.str))) M = some (.lst (r0.map V.str)) := upd_same
      generalize hH2 : upd H1 M (.lst (r0.map V.str)) = H2 at *
      have s02 := Same.trans s1 s2
      refine ⟨M, rfl, ⟨_, SqL.of hM⟩, fun D nD => ?_⟩
      have lr : r0.length ≤ 400 := by
        rw [List.length_cons] at hcount
        omega
      refine lc_it (walk_list (K := K) (a := M) (xs := r0.map V.str)) (fun j H' => Ok (Same H2 H' ∧ H' D = some (.lst ((r0.take j).map wordV)))) ⟨Same.new nD, upd_same⟩ (fun j H' _ ⟨sm, _⟩ => SqL.of (sm _ _ hM)) ?_ ?_
      · rintro j x H3 H4 hj ⟨sm, hD⟩ ⟨rfl, hx⟩
        rw [List.getElem?_map] at hx
        obtain ⟨y, hy, rfl⟩ := Option.map_eq_some_iff.mp hx
        have ly := hwl y (List.mem_cons_of_mem _ (List.mem_of_getElem? hy))
        have ly5 : y.length ≤ 500 := by omega
        have tk1 := take_more hy
        have lt : ((r0.take j).map wordV).length < sizeLine := by
          rw [List.length_map, List.length_take]
          exact small1000 (by omega)
        walk_at "st"
        intro H5 s5
        exact ⟨_, s5 _ _ hD, lt, ⟨Same.fresh (Same.trans sm s5) nD, by rw [upd_same, tk1, List.map_append]; rfl⟩⟩
      · rintro H3 ⟨sm, hD⟩
        rw [List.length_map, List.take_length] at hD
        refine ⟨D, r0.map wordV, rfl, .inr (SqL.of hD), ?_⟩
        have lsz : (V.str a0 :: (r0.map wordV ++ [])).length ≤ sizeLine := by
          rw [List.append_nil, List.length_cons, List.length_map]
          exact small_le (by omega)
        refine ⟨lsz, fun p np => ?_⟩
        have s4 : Same H3 (upd H3 p (.tup (V.str a0 :: (r0.map wordV ++ [])))) := Same.new np
        have hp : (upd H3 p (.tup (V.str a0 :: (r0.map wordV ++ [])))) p = some (.tup (V.str a0 :: (r0.map wordV ++ []))) := upd_same
        rw [List.append_nil] at s4 hp ⊢
        generalize hH4 : upd H3 p (.tup (V.str a0 :: r0.map wordV)) = H4 at *
        have s04 := Same.trans s02 (Same.trans sm s4)
        have hT : SqT K H4 p (V.str a0 :: r0.map wordV) := SqT.of hp
        have np0 : H p = none := Same.back (Same.trans s02 sm) np
        have sc : ∀ x ∈ V.str a0 :: r0.map wordV, scal x = true := fun x hx => by
          rcases List.mem_cons.mp hx with rfl | hx
          · rfl
          · obtain ⟨y, _, rfl⟩ := List.mem_map.mp hx
            unfold wordV
            split <;> rfl
        have lp : (V.str a0 :: r0.map wordV).length ≤ 1000 := by
          rw [List.length_cons, List.length_map]
          omega
        have hj : JudgedP K H4 (.ref p) (paperB (V.str a0 :: r0.map wordV)) := .inr (.inr (.inr ⟨p, a0, _, rfl, hT, lp, sc, rfl⟩))
        walk_at "st"
        intro H5 s5
        have hp5 := s5 _ _ hp
        cases eb : paperB (V.str a0 :: r0.map wordV) with
        | false =>
          walk_at "st"
          refine raise1 (fun d H6 nd s6 hd => ?_)
          exact q0 (by rw [ep]; exact eb) d H6 hd (Same.trans s04 (Same.trans s5 s6))
        | true =>
          walk_at "st"
          exact q1 (by rw [ep]; exact eb) p H5 np0 (by rw [ep]; exact hp5) (Same.trans s04 s5)
    · exact ⟨_, rfl, v, rfl, .inr ⟨bad, q0⟩⟩
theorem ok_read_walker (T : Txt K mg) {CN CI : Addr} (TI : ExcCls K mg "InvalidText" CI) (FI : ExcInit1 P w K mg base CI "place") (D : DefAt K mg "read_walker" s_read_walker ["text"]) (C_whole_of : Cal P w K mg base CX0 "whole_of" 1 ["word"] spWholeOf) (C_is_walker : Cal P w K mg base CX0 "is_walker" 3 ["value", "states"] (spWalkerS K)) (C_check_text : Cal P w K mg base (L2.CX P w) "check_text" 1 ["value"] (spCheckText CN)) : Cal P w K mg base (L2.CX P w) "read_walker" 4 ["text"] (spReadW K CN CI) := by
  refine D.calX sc_read_walker (fun vs H Q E h => ?_) (fun f cdv A outer s H vs Q E hr h => ?_)
  · obtain ⟨v, rfl, h⟩ := h
    rfl
  · obtain ⟨v, rfl, h⟩ := h
    refine ⟨_, (pss_cons (ps_expr (pe_ownS C_check_text (takes_of rfl rfl rfl rfl) hr (by decide) (by exact (pa_cons (pv 0) pa_nil))))
      (pss_cons (ps_set (i := 1) sc_read_walker.nd rfl (Or.inl rfl) (pe_callTy (k_tuple_l (K := K)) (by rfl) T.m_tuple (by decide +kernel) (pa_cons (pe_lc (own := [("word", 2)]) (g := gName 2) rfl sc_read_walker.nd (k_pi_list (K := K) (pe_split (pv 0) pe_str)) (blkOk_by (by rfl)) (fun _ _ _ _ _ => (pg_name (i := 2) sc_read_walker.nd rfl (Or.inl rfl))) (fun _ _ _ _ _ => pts_nil) (fun _ _ _ _ _ => (pe_own C_whole_of hr (by first | decide | omega) (pa_cons (pv 2) pa_nil)))) pa_nil)))
      (pss_cons (ps_if (pt_not (pt_val (pe_own C_is_walker hr (by first | decide | omega) (pa_cons (pv 1) (pa_cons (pe_gint (by rfl) T.most_states) pa_nil))))) (pss_one (ps_raise1 rfl (takes_of rfl rfl rfl rfl) TI FI hr (by decide) (by exact (pa_cons pe_int pa_nil)))) pss_nil)
      (pss_one (ps_ret (pv 1)))))), ?_⟩
    rcases h with ⟨z, rfl, hz, q1, q0⟩ | ⟨bad, q0⟩
    · refine ⟨_, rfl, .str z, rfl, .inl ⟨z, rfl, ?_⟩⟩
      have hz2 : z.length + 2 ≤ sizeLine := small_le (by omega)
      have hwl := fun y (h : y ∈ Txt.split z (Str.ofString " ")) => split_len h
      have hcount := split_count z
      have ep : wlkV z = (Txt.split z (Str.ofString " ")).map wordV := rfl
      walk_at "st"
      generalize Txt.split z (Str.ofString " ") = r0 at *
      intro W nW
      have s1 : Same H (upd H W (.lst (r0.map V.str))) := Same.new nW
      have hW : (upd H W (.lst (r0.map V.str))) W = some (.lst (r0.map V.str)) := upd_same
      generalize hH1 : upd H W (.lst (r0.map V.str)) = H1 at *
      refine ⟨W, rfl, ⟨_, SqL.of hW⟩, fun D nD => ?_⟩
      have lr : r0.length ≤ 401 := by omega
      refine lc_it (walk_list (K := K) (a := W) (xs := r0.map V.str)) (fun j H' => Ok (Same H1 H' ∧ H' D = some (.lst ((r0.take j).map wordV)))) ⟨Same.new nD, upd_same⟩ (fun j H' _ ⟨sm, _⟩ => SqL.of (sm _ _ hW)) ?_ ?_
      · rintro j x H3 H4 hj ⟨sm, hD⟩ ⟨rfl, hx⟩
        rw [List.getElem?_map] at hx
        obtain ⟨y, hy, rfl⟩ := Option.map_eq_some_iff.mp hx
        have ly := hwl y (List.mem_of_getElem? hy)
        have ly5 : y.length ≤ 500 := by omega
        have tk1 := take_more hy
        have lt : ((r0.take j).map wordV).length < sizeLine := by
          rw [List.length_map, List.length_take]
          exact small1000 (by omega)
        walk_at "st"
        intro H5 s5
        exact ⟨_, s5 _ _ hD, lt, ⟨Same.fresh (Same.trans sm s5) nD, by rw [upd_same, tk1, List.map_append]; rfl⟩⟩
      · rintro H3 ⟨sm, hD⟩
        rw [List.length_map, List.take_length] at hD
        have hSL := SqL.of (K := K) hD
        walk_at "st"
        intro p np
        have s4 : Same H3 (upd H3 p (.tup (r0.map wordV))) := Same.new np
        have hp : (upd H3 p (.tup (r0.map wordV))) p = some (.tup (r0.map wordV)) := upd_same
        generalize hH4 : upd H3 p (.tup (r0.map wordV)) = H4 at *
        have s04 := Same.trans s1 (Same.trans sm s4)
        have np0 : H p = none := Same.back (Same.trans s1 sm) np
        have sc : ∀ x ∈ r0.map wordV, scal x = true := fun x hx => by
          obtain ⟨y, _, rfl⟩ := List.mem_map.mp hx
          unfold wordV
          split <;> rfl
        have lp : (r0.map wordV).length ≤ 1000 := by
          rw [List.length_map]
          omega
        have hj : Judged K H4 walkerB (.ref p) (walkerB (r0.map wordV)) := .inr (.inr (.inr ⟨p, _, rfl, SqT.of hp, lp, sc, rfl⟩))
        walk_at "st"
        intro H5 s5
        have hp5 := s5 _ _ hp
        cases eb : walkerB (r0.map wordV) with
        | false =>
          walk_at "st"
          refine raise1 (fun d H6 nd s6 hd => ?_)
          exact q0 (by rw [ep]; exact eb) d H6 hd (Same.trans s04 (Same.trans s5 s6))
        | true =>
          walk_at "st"
          exact q1 (by rw [ep]; exact eb) p H5 np0 (by rw [ep]; exact hp5) (Same.trans s04 s5)
    · exact ⟨_, rfl, v, rfl, .inr ⟨bad, q0⟩⟩
end

/-! ### the law of notes: what it lays -/
def forOf : Stmt → Expr
  | .For (iter := e) .. => e
  | _ => .Name "x" ⟨0, 0, 0, 0⟩
def itemOf : Expr → Nat → Expr
  | .List es _, i => es.getD i (.Name "x" ⟨0, 0, 0, 0⟩)
  | e, _ => e
def lamA : Expr → Arguments
  | .Lambda a _ _ _ => a
  | _ => defArgs (.Pass ⟨0, 0, 0, 0⟩)
def lamE : Expr → Expr
  | .Lambda _ e _ _ => e
  | e => e
def lamC : Expr → Scope
  | .Lambda _ _ s _ => s
  | _ => defScope (.Pass ⟨0, 0, 0, 0⟩)
theorem pe_either {X : Cx} {e : Expr} {t1 t2 : TE} (h1 : PE X e t1) (h2 : PE X e t2) : PE X e (fun σ H Q => t1 σ H Q ∨ t2 σ H Q) := ⟨fun pins s σ H Q I h => by
  rcases h with h | h
  · exact h1.run pins s σ H Q I h
  · exact h2.run pins s σ H Q I h⟩
/-- "0" * 61 -/
def zeros : Str := ⟨(List.replicate 61 48).toArray⟩
theorem op_zeros {X : Cx} : OpR X (binaryOp .Mult) (fun x y H Q => x = .str (Str.ofString "0") ∧ y = .int 61 ∧ Q (.str zeros) H) := by
  intro pins s σ H x y v u Q I rx ry h
  obtain ⟨rfl, rfl, q⟩ := h
  obtain ⟨t, rfl⟩ := rx
  obtain ⟨t', rfl⟩ := ry
  refine PySem.P.mul_str (by decide) (fun _ _ => by decide) (fun _ _ => by decide) ?_
  rw [if_neg (by decide), if_neg (by decide)]
  refine ⟨by decide +kernel, ?_⟩
  have e : (⟨(List.replicate (61 : Int).toNat (Str.ofString "0").cps).foldl (· ++ ·) #[]⟩ : Str) = zeros := by decide +kernel
  rw [e]
  exact ⟨.str zeros, H, I.tok _, ⟨_, rfl⟩, q⟩

/-! ### equal, and of the same structure -/
def okD : Nat → PyData → Prop
  | 0, _ => False
  | n + 1, .list ds => ds.length ≤ 5000 ∧ ∀ d ∈ ds, okD n d
  | n + 1, .tuple ds => ds.length ≤ 5000 ∧ ∀ d ∈ ds, okD n d
  | _ + 1, .dict _ => False
  | _ + 1, _ => True
def spAlike (K : PySem.W.Frag) (n : Nat) : Sp := fun vs H Q _ => ∃ (u v : V) (d : PyData), vs = [u, v] ∧ Dp K H u d ∧ Dp K H v d ∧ okD n d ∧ ∀ H', Same H H' → Q (.bl true) H'
section
variable {K : PySem.W.Frag} {H : Hp}
theorem DpAll.length : ∀ {vs : List V} {ds : List PyData}, DpAll K H vs ds → vs.length = ds.length
  | [], [], _ => rfl
  | _ :: _, [], h => by cases h
  | [], _ :: _, h => by cases h
  | v :: vs, d :: ds, h => by
    cases h with
    | cons h1 h2 =>
      show vs.length + 1 = ds.length + 1
      rw [DpAll.length h2]
theorem DpAll.get : ∀ {vs : List V} {ds : List PyData} {i : Nat} {d : PyData}, DpAll K H vs ds → ds[i]? = some d → ∃ v, vs[i]? = some v ∧ Dp K H v d
  | [], [], _, _, _, e => by simp at e
  | _ :: _, [], _, _, h, _ => by cases h
  | [], _ :: _, _, _, h, _ => by cases h
  | v :: vs, d :: ds, 0, _, h, e => by
    cases h with
    | cons h1 h2 =>
      have e : d = _ := Option.some.inj e
      subst e
      exact ⟨v, rfl, h1⟩
  | v :: vs, d :: ds, i + 1, _, h, e => by
    cases h with
    | cons h1 h2 => exact DpAll.get (i := i) h2 e
theorem SqA.same {H' : Hp} {a : Addr} {xs : List V} (s : Same H H') (h : SqL K H a xs ∨ SqT K H a xs) : SqL K H' a xs ∨ SqT K H' a xs := by
  rcases h with h | h
  · exact .inl (s.seq h)
  · exact .inr (TK.seqT (Same.tk s) h)
end
section
variable {P : Program} {w : World} {K : PySem.W.Frag} {mg : Str → Option Value} {base : Heap}
theorem ok_law_alike (T : Txt K mg) (D : DefAt K mg "_law_alike" s_law_alike ["found", "due"]) : ∀ n : Nat, Cal P w K mg base CX0 "_law_alike" (n + 1) ["found", "due"] (spAlike K n)
  | 0 => by
    refine D.cal sc_law_alike (fun vs H Q E h => ?_) (fun f cdv A outer s H vs Q E hr h => ?_)
    · obtain ⟨u, v, d, _, _, _, z, _⟩ := h
      exact z.elim
    · obtain ⟨u, v, d, _, _, _, z, _⟩ := h
      exact z.elim
  | n + 1 => by
    have C_law_alike := ok_law_alike T D n
    refine D.cal sc_law_alike (fun vs H Q E h => ?_) (fun f cdv A outer s H vs Q E hr h => ?_)
    · obtain ⟨u, v, d, rfl, _⟩ := h
      rfl
    · obtain ⟨u, v, d, rfl, hu, hv, hd, q⟩ := h
      refine ⟨_, (pss_cons (ps_if (pt_val (pe_callB (k_isT2 (K := K)) (by rfl) T.m_isinstance (by decide +kernel) (pa_cons (pv 1) (pa_cons (pe_tup (pa_cons (pe_ty "tuple" (by rfl) T.m_tuple (by decide +kernel)) (pa_cons (pe_ty "list" (by rfl) T.m_list (by decide +kernel)) pa_nil))) pa_nil)))) (pss_cons (ps_if (PW.pt (pw_or (pt_not (pt_val (pe_callB (k_isT2 (K := K)) (by rfl) T.m_isinstance (by decide +kernel) (pa_cons (pv 0) (pa_cons (pe_tup (pa_cons (pe_ty "tuple" (by rfl) T.m_tuple (by decide +kernel)) (pa_cons (pe_ty "list" (by rfl) T.m_list (by decide +kernel)) pa_nil))) pa_nil))))) (pw_or1 (pt_cmpR op_ne (pe_callB (k_isN (K := K)) (by rfl) T.m_isinstance (by decide +kernel) (pa_cons (pv 0) (pa_cons (pe_ty "list" (by rfl) T.m_list (by decide +kernel)) pa_nil))) (pe_callB (k_isN (K := K)) (by rfl) T.m_isinstance (by decide +kernel) (pa_cons (pv 1) (pa_cons (pe_ty "list" (by rfl) T.m_list (by decide +kernel)) pa_nil))) (nomark _))))) (pss_one (ps_ret pe_bl)) pss_nil)
        (pss_cons (ps_if (pt_cmpR op_ne (pe_callB (k_len_seq (K := K)) (by rfl) T.m_len (by decide +kernel) (pa_cons (pv 0) pa_nil)) (pe_callB (k_len_seq (K := K)) (by rfl) T.m_len (by decide +kernel) (pa_cons (pv 1) pa_nil)) (nomark _)) (pss_one (ps_ret pe_bl)) pss_nil)
        (pss_one (ps_ret (pe_cmpR (k_eqD (K := K) hr.units) (pe_lc (own := [("k", 2)]) (g := gName 2) rfl sc_law_alike.nd (pi_range1 (by rfl) T.m_range (pa_cons (pe_callB (k_len_seq (K := K)) (by rfl) T.m_len (by decide +kernel) (pa_cons (pv 1) pa_nil)) pa_nil)) (blkOk_by (by rfl)) (fun _ _ _ _ _ => (pg_name (i := 2) sc_law_alike.nd rfl (Or.inl rfl))) (fun _ _ _ _ _ => pts_one (pt_not (pt_val (pe_own C_law_alike hr (by first | decide | omega) (pa_cons (pe_ix (k_ix_seq (K := K)) (pv 0) (pv 2) (fun _ _ => rfl)) (pa_cons (pe_ix (k_ix_seq (K := K)) (pv 1) (pv 2) (fun _ _ => rfl)) pa_nil)))))) (fun _ _ _ _ _ => (pv 2))) (pe_lst pa_nil) (nomark _)))))) pss_nil)
        (pss_cons (ps_if (PW.pt (pw_or (pt_cmpR op_isN (pv 1) pe_non (nomark _)) (pw_or1 (pt_val (pe_callB (k_isN (K := K)) (by rfl) T.m_isinstance (by decide +kernel) (pa_cons (pv 1) (pa_cons (pe_ty "str" (by rfl) T.m_str (by decide +kernel)) pa_nil))))))) (pss_one (ps_ret (pe_and (pe_cmpR op_eq (pv 0) (pv 1) (nomark _)) (pe_one (pe_cmpR op_eq (pe_callB (k_isN (K := K)) (by rfl) T.m_isinstance (by decide +kernel) (pa_cons (pv 0) (pa_cons (pe_ty "str" (by rfl) T.m_str (by decide +kernel)) pa_nil))) (pe_callB (k_isN (K := K)) (by rfl) T.m_isinstance (by decide +kernel) (pa_cons (pv 1) (pa_cons (pe_ty "str" (by rfl) T.m_str (by decide +kernel)) pa_nil))) (nomark _)))))) pss_nil)
        (pss_one (ps_ret (pe_and (pe_callB (k_isN (K := K)) (by rfl) T.m_isinstance (by decide +kernel) (pa_cons (pv 0) (pa_cons (pe_ty "int" (by rfl) T.m_int (by decide +kernel)) pa_nil))) (pe_and (pe_cmpR op_eq (pe_callB (k_isN (K := K)) (by rfl) T.m_isinstance (by decide +kernel) (pa_cons (pv 0) (pa_cons (pe_ty "bool" (by rfl) T.m_bool (by decide +kernel)) pa_nil))) (pe_callB (k_isN (K := K)) (by rfl) T.m_isinstance (by decide +kernel) (pa_cons (pv 1) (pa_cons (pe_ty "bool" (by rfl) T.m_bool (by decide +kernel)) pa_nil))) (nomark _)) (pe_one (pe_cmpR op_eq (pv 0) (pv 1) (nomark _))))))))), ?_⟩
      cases d with
      | dict _ => exact hd.elim
      | none =>
        cases hu
        cases hv
        walk_at "st"
        intro p np
        walk_at "st"
        exact q _ (Same.new np)
      | bool b =>
        cases hu
        cases hv
        walk_at "st"
        intro p np
        cases b
        · walk_at "st"
          exact q _ (Same.new np)
        · walk_at "st"
          exact q _ (Same.new np)
      | int i =>
        cases hu
        cases hv
        walk_at "st"
        intro p np
        walk_at "st"
        have q' := q _ (Same.new (o := .tup [.ty "tuple", .ty "list"]) np)
        rw [show true = decide (V.int i = V.int i) from (decide_eq_true rfl).symm] at q'
        exact q'
      | str x =>
        cases hu
        cases hv
        walk_at "st"
        intro p np
        walk_at "st"
        refine ite2 (fun _ => ?_) (fun e => absurd (decide_eq_true rfl) e)
        walk_at "st"
        exact q _ (Same.new np)
      | list ds =>
        cases hu with
        | @lst a us _ hsu hau =>
          cases hv with
          | @lst b ws _ hsv hav =>
            have hlu := DpAll.length hau
            have hlv := DpAll.length hav
            walk_at "st"
            intro p np
            have s1 : Same H (upd H p (.tup [.ty "tuple", .ty "list"])) := Same.new np
            have hsu1 := SqA.same s1 (Or.inl hsu)
            have hsv1 := SqA.same s1 (Or.inl hsv)
            have tu1 := tyx_lst (s1.seq hsu)
            have tv1 := tyx_lst (s1.seq hsv)
            walk_at "st"
            intro p2 np2
            have s2 : Same H (upd (upd H p (.tup [.ty "tuple", .ty "list"])) p2 (.tup [.ty "tuple", .ty "list"])) := Same.trans s1 (Same.new np2)
            have hsu2 := SqA.same s2 (Or.inl hsu)
            have hsv2 := SqA.same s2 (Or.inl hsv)
            have tu2 := tyx_lst (s2.seq hsu)
            have tv2 := tyx_lst (s2.seq hsv)
            obtain ⟨H2, hH2⟩ : ∃ H2, H2 = (upd (upd H p (.tup [.ty "tuple", .ty "list"])) p2 (.tup [.ty "tuple", .ty "list"])) := ⟨_, rfl⟩
            walk_at "st"
            refine ite2 (fun e => absurd (by rw [hlu, hlv]) (ne_tr e)) (fun _ => ?_)
            have hln := hd.1
            walk_at "st"
            intro L nL
            refine lc_range (lo := 0) (n := (ws.length : Int).toNat) (fun i H' => Ok (Same H H' ∧ H' L = some (.lst []))) ⟨Same.trans s2 (Same.new nL), upd_same⟩ ?_ ?_
            · rintro i H' hi ⟨s3, hL⟩
              have hi' : i < ds.length := by omega
              obtain ⟨x, ex, hx⟩ := DpAll.get hau (List.getElem?_eq_getElem hi')
              obtain ⟨y, ey, hy⟩ := DpAll.get hav (List.getElem?_eq_getElem hi')
              have hsu3 := SqA.same s3 (Or.inl hsu)
              have hsv3 := SqA.same s3 (Or.inl hsv)
              have ax := atI_nat ex
              have ay := atI_nat ey
              rw [← Int.zero_add ((i : Nat) : Int)] at ax ay
              have hx3 := Dp.mono s3 _ _ hx
              have hy3 := Dp.mono s3 _ _ hy
              have hdi := hd.2 _ (List.getElem_mem hi')
              walk_at "st"
              intro H4 s4
              walk_at "st"
              exact ⟨Same.trans s3 s4, s4 _ _ hL⟩
            · rintro H' ⟨s3, hL⟩
              walk_at "st"
              intro M nM
              have z : PyData.eqv (.list []) (.list []) = true := rfl
              have q' := q _ (Same.trans s3 (Same.new (o := .lst []) nM))
              have hL2 : (upd H' M (.lst [])) L = some (.lst []) := Same.new nM _ _ hL
              exact ⟨.list [], .list [], .lst (SqL.of hL2) .nil, .lst (SqL.of upd_same) .nil, rfl, rfl, by rw [z]; exact q'⟩
      | tuple ds =>
        cases hu with
        | @tup a us _ hsu hau =>
          cases hv with
          | @tup b ws _ hsv hav =>
            have hlu := DpAll.length hau
            have hlv := DpAll.length hav
            walk_at "st"
            intro p np
            have s1 : Same H (upd H p (.tup [.ty "tuple", .ty "list"])) := Same.new np
            have hsu1 := SqA.same s1 (Or.inr hsu)
            have hsv1 := SqA.same s1 (Or.inr hsv)
            have tu1 := tyx_tup (TK.seqT (Same.tk s1) hsu)
            have tv1 := tyx_tup (TK.seqT (Same.tk s1) hsv)
            walk_at "st"
            intro p2 np2
            have s2 : Same H (upd (upd H p (.tup [.ty "tuple", .ty "list"])) p2 (.tup [.ty "tuple", .ty "list"])) := Same.trans s1 (Same.new np2)
            have hsu2 := SqA.same s2 (Or.inr hsu)
            have hsv2 := SqA.same s2 (Or.inr hsv)
            have tu2 := tyx_tup (TK.seqT (Same.tk s2) hsu)
            have tv2 := tyx_tup (TK.seqT (Same.tk s2) hsv)
            obtain ⟨H2, hH2⟩ : ∃ H2, H2 = (upd (upd H p (.tup [.ty "tuple", .ty "list"])) p2 (.tup [.ty "tuple", .ty "list"])) := ⟨_, rfl⟩
            walk_at "st"
            refine ite2 (fun e => absurd (by rw [hlu, hlv]) (ne_tr e)) (fun _ => ?_)
            have hln := hd.1
            walk_at "st"
            intro L nL
            refine lc_range (lo := 0) (n := (ws.length : Int).toNat) (fun i H' => Ok (Same H H' ∧ H' L = some (.lst []))) ⟨Same.trans s2 (Same.new nL), upd_same⟩ ?_ ?_
            · rintro i H' hi ⟨s3, hL⟩
              have hi' : i < ds.length := by omega
              obtain ⟨x, ex, hx⟩ := DpAll.get hau (List.getElem?_eq_getElem hi')
              obtain ⟨y, ey, hy⟩ := DpAll.get hav (List.getElem?_eq_getElem hi')
              have hsu3 := SqA.same s3 (Or.inr hsu)
              have hsv3 := SqA.same s3 (Or.inr hsv)
              have ax := atI_nat ex
              have ay := atI_nat ey
              rw [← Int.zero_add ((i : Nat) : Int)] at ax ay
              have hx3 := Dp.mono s3 _ _ hx
              have hy3 := Dp.mono s3 _ _ hy
              have hdi := hd.2 _ (List.getElem_mem hi')
              walk_at "st"
              intro H4 s4
              walk_at "st"
              exact ⟨Same.trans s3 s4, s4 _ _ hL⟩
            · rintro H' ⟨s3, hL⟩
              walk_at "st"
              intro M nM
              have z : PyData.eqv (.list []) (.list []) = true := rfl
              have q' := q _ (Same.trans s3 (Same.new (o := .lst []) nM))
              have hL2 : (upd H' M (.lst [])) L = some (.lst []) := Same.new nM _ _ hL
              exact ⟨.list [], .list [], .lst (SqL.of hL2) .nil, .lst (SqL.of upd_same) .nil, rfl, rfl, by rw [z]; exact q'⟩
end

/-! ### one of some things -/
def spPick (K : PySem.W.Frag) : Sp := fun vs H Q _ => ∃ (r L : Addr) (xs : List V), vs = [.ref r, .ref L] ∧ Row K H r ∧ H L = some (.lst xs) ∧ L ≠ r ∧ 1 ≤ xs.length ∧ xs.length ≤ 5000 ∧ ∀ (v : V) (H' : Hp) (k : Nat), xs[k]? = some v → Row K H' r → KeepB r H H' → Q v H'
section
variable {P : Program} {w : World} {K : PySem.W.Frag} {mg : Str → Option Value} {base : Heap}
local macro_rules | `(tactic| walk_at "cl") => `(tactic| first | (refine le_only ?_; omega) | (refine lt_only ?_; omega))
theorem ok_law_pick (T : Txt K mg) (D : DefAt K mg "_law_pick" s_law_pick ["row", "things"]) (C_law_taken : Cal P w K mg base CX0 "_law_taken" 1 ["row", "many"] (spTaken K)) : Cal P w K mg base CX0 "_law_pick" 2 ["row", "things"] (spPick K) := by
  refine D.cal sc_law_pick (fun vs H Q E h => ?_) (fun f cdv A outer s H vs Q E hr h => ?_)
  · obtain ⟨r, L, xs, rfl, _⟩ := h
    rfl
  · obtain ⟨r, L, xs, rfl, R, hL, ne, l1, l100, q⟩ := h
    refine ⟨_, (pss_one (ps_ret (pe_ix (k_ix_list (K := K)) (pv 1) (pe_own C_law_taken hr (by first | decide | omega) (pa_cons (pv 0) (pa_cons (pe_callB (k_len_l (K := K)) (by rfl) T.m_len (by decide +kernel) (pa_cons (pv 1) pa_nil)) pa_nil))) (fun _ _ => rfl)))), ?_⟩
    have hSL := SqL.of (K := K) hL
    have c1 : (0 : Int) < xs.length := by omega
    have c2 : (xs.length : Int) < 2 ^ 250 := by omega
    walk_at "st"
    intro v H1 v0 v1 R1 k1
    have hL1 := k1 _ _ ne hL
    have hSL1 := SqL.of (K := K) hL1
    have lv : v.toNat < xs.length := by omega
    have ev : xs[v.toNat]? = some xs[v.toNat] := List.getElem?_eq_getElem lv
    have hat : atI xs v = some xs[v.toNat] := by
      have z := atI_nat ev
      rw [show ((v.toNat : Nat) : Int) = v by omega] at z
      exact z
    walk_at "st"
    exact q _ _ _ ev R1 k1
end

/-! ### the law's floors and walkers -/
def spSigned (K : PySem.W.Frag) : Sp := fun vs H Q _ => ∃ (r : Addr) (most : Int), vs = [.ref r, .int most] ∧ Row K H r ∧ 0 ≤ most ∧ most < 2 ^ 200 ∧ ∀ (v : Int) (H' : Hp), -most ≤ v → v ≤ most → Row K H' r → KeepB r H H' → Q (.int v) H'
def spLWalker (K : PySem.W.Frag) : Sp := fun vs H Q _ => ∃ (r : Addr) (tv : V) (T : List (List Ent)), vs = [.ref r, tv] ∧ Row K H r ∧ Tp K H tv (tabD T) ∧ 1 ≤ T.length ∧ T.length ≤ 10 ∧ ∀ (v : V) (H' : Hp) (w : Wk), InB 3 (wPt w) → (0 ≤ w.2.2.1 ∧ w.2.2.1 < 4) → (0 ≤ w.2.2.2 ∧ w.2.2.2 < T.length) → Tp K H' v (wkD w) → Row K H' r → KeepB r H H' → Q v H'
def spLAhead (K : PySem.W.Frag) : Sp := fun vs H Q _ => ∃ (b : Addr) (x y h : Int), vs = [.ref b, .int h] ∧ SqT K H b [.int x, .int y] ∧ 0 ≤ h ∧ h < 4 ∧ ∀ p H', H' p = some (.tup [.int (x + dxI h), .int (y + dyI h)]) → Same H H' → Q (.ref p) H'
theorem dx_at {h : Int} (h0 : 0 ≤ h) (h1 : h < 4) : atI ([.int 0, .int 1, .int 0, .int (-1)] : List V) h = some (.int (dxI h)) ∧ atI ([.int (-1), .int 0, .int 1, .int 0] : List V) h = some (.int (dyI h)) := by
  obtain ⟨n, rfl⟩ := Int.eq_ofNat_of_zero_le h0
  have c : n = 0 ∨ n = 1 ∨ n = 2 ∨ n = 3 := by omega
  rcases c with rfl | rfl | rfl | rfl
  · exact ⟨at0, at0⟩
  · exact ⟨at1, at1⟩
  · exact ⟨at2, at2⟩
  · exact ⟨at3, at3⟩
section
variable {P : Program} {w : World} {K : PySem.W.Frag} {mg : Str → Option Value} {base : Heap}
theorem ok_law_signed (T : Txt K mg) (D : DefAt K mg "_law_signed" s_law_signed ["row", "most"]) (C_law_taken : Cal P w K mg base CX0 "_law_taken" 1 ["row", "many"] (spTaken K)) : Cal P w K mg base CX0 "_law_signed" 2 ["row", "most"] (spSigned K) := by
  refine D.cal sc_law_signed (fun vs H Q E h => ?_) (fun f cdv A outer s H vs Q E hr h => ?_)
  · obtain ⟨r, most, rfl, _⟩ := h
    rfl
  · obtain ⟨r, most, rfl, R, h0, h1, q⟩ := h
    refine ⟨_, (pss_one (ps_ret (pe_op op_sub (pe_own C_law_taken hr (by first | decide | omega) (pa_cons (pv 0) (pa_cons (pe_op op_add (pe_op op_mul pe_int (pv 1)) pe_int) pa_nil))) (pv 1)))), ?_⟩
    have hmul : CMul 2 most := .inl ⟨by decide, by decide⟩
    have b1 : 2 * most + 1 < 2 ^ 250 := by omega
    walk_at "st"
    intro v H' v0 v1 R' k'
    walk_at "st"
    exact q _ H' (by omega) (by omega) R' k'
end

/-! ### lambdas that are kept in lists and called later -/
/-- the function object of a lambda that X's frame has made -/
def LamO (q : Str) (cl : List (Str × Addr)) (params : Arguments) (body : Expr) (scope : Scope) (dV : Value) (cc ff : Addr) : HO := .ext fun h => ∃ (dd pp tt : Value), h.get? ff = some (PySem.W.kdv_obj "<lambda>" q params (.expr body) scope cl dV dd pp cc tt)
theorem lamO_ok {P : Program} {w : World} {H : Hp} {h : Heap} {q : Str} {cl : List (Str × Addr)} {params : Arguments} {body : Expr} {scope : Scope} {dV dd pp tt : Value} {cc ff : Addr} (e : h.get? ff = some (PySem.W.kdv_obj "<lambda>" q params (.expr body) scope cl dV dd pp cc tt)) : ObjOk P w H h ff (LamO q cl params body scope dV cc ff) :=
  ⟨⟨_, _, _, e⟩, ⟨_, e⟩, fun _ _ ⟨d1, p1, t1, q1⟩ st => ⟨d1, p1, t1, st _ q1⟩⟩
/-- its names: own parameters that the maker does not have, captured ones, globals -/
structure LamD (N : List Str) (sc scope : Scope) : Prop where
  kd : scope.kind = .function
  co : scope.isCoroutine = false
  gn : scope.isGenerator = false
  ow : ∀ y ∈ scope.names, y.2 = .local → y.1 ∉ N
  ce : ∀ y ∈ scope.names, y.2 ≠ .cell
  fr : ∀ y ∈ scope.names, y.2 = .free → sc.names.lookup y.1 = some .cell ∨ sc.names.lookup y.1 = some .free
def lamDB (N : List Str) (sc scope : Scope) : Bool :=
  (decide (scope.kind = .function) && (!scope.isCoroutine && !scope.isGenerator)) && scope.names.all fun y => (!decide (y.2 = .local) || !N.contains y.1) && (!decide (y.2 = .cell) && (!decide (y.2 = .free) || (decide (sc.names.lookup y.1 = some .cell) || decide (sc.names.lookup y.1 = some .free))))
theorem lamD_by {N : List Str} {sc scope : Scope} (h : lamDB N sc scope = true) : LamD N sc scope := by
  unfold lamDB at h
  rw [Bool.and_eq_true, Bool.and_eq_true, Bool.and_eq_true, List.all_eq_true] at h
  obtain ⟨⟨h1, h2, h3⟩, h4⟩ := h
  have key : ∀ y ∈ scope.names, (y.2 = .local → y.1 ∉ N) ∧ y.2 ≠ .cell ∧ (y.2 = .free → sc.names.lookup y.1 = some .cell ∨ sc.names.lookup y.1 = some .free) := fun y hy => by
    have q := h4 y hy
    rw [Bool.and_eq_true, Bool.and_eq_true, Bool.or_eq_true, Bool.or_eq_true, Bool.or_eq_true] at q
    obtain ⟨q1, q2, q3⟩ := q
    refine ⟨fun e m => ?_, fun e => ?_, fun e => ?_⟩
    · rcases q1 with q1 | q1
      · rw [decide_eq_true e] at q1
        cases q1
      · rw [show N.contains y.1 = true from List.contains_iff_mem.mpr m] at q1
        cases q1
    · rw [decide_eq_true e] at q2
      cases q2
    · rcases q3 with q3 | q3 | q3
      · rw [decide_eq_true e] at q3
        cases q3
      · exact .inl (of_decide_eq_true q3)
      · exact .inr (of_decide_eq_true q3)
  exact ⟨of_decide_eq_true h1, nb_tr h2, nb_tr h3, fun y hy => (key y hy).1, fun y hy => (key y hy).2.1, fun y hy => (key y hy).2.2⟩
theorem LamD.caught {X : Cx} {N : List Str} {scope : Scope} (L : LamD N X.env.scope scope) (ok : X.Ok) : ∀ y ∈ scope.names, y.2 = .free → ∃ c, X.env.cells.lookup y.1 = some c := fun y hy e => by
  rcases L.fr y hy e with q | q
  · exact ok.has y.1 (Or.inl q)
  · exact ok.has y.1 (Or.inr q)
section
variable {X : Cx} {pins : List (Addr × Obj)} {σ : L2.St} {H HZ : Hp} {s s1 : Shared} {A : Around} {outer : List Env} {E : XK} {scope : Scope} {ff cc : Addr}
/-- the lambda's body is entered -/
theorem lam_in {binds : List (Str × Value)} {hn : Heap} {tk : Nat} (I : Inv X pins σ H s) (L : LamD X.N X.env.scope scope) (e0 : Env0 X.prog X.w X.K X.mg X.base A outer s1 HZ) (hd : A.handled = none) (un : Un (frs X.stack) [] H HZ s.heap s1.heap)
    (ns : hn.Ns s1.heap.objs.size fun y => binds.reverse.lookup y) (kp : ∀ b o, s1.heap.get? b = some o → hn.get? b = some o) : Inv (LamX.lamCx X A outer s1 HZ E scope ff cc) [] σ HZ { s1 with heap := hn, toks := tk } := by
  have caught := L.caught I.ok
  have back : ∀ {y c}, (cloFrom X.env.cells scope.names []).lookup y = some c → X.env.cells.lookup y = some c := fun {y c} e => by
    rcases cloFrom_mem (PySem.mem_of_lookup e) with m | ⟨m1, m2⟩
    · exact absurd m List.not_mem_nil
    · obtain ⟨c1, q1⟩ := caught _ m1 rfl
      have q1 : X.env.cells.lookup y = some c1 := q1
      obtain rfl : c = c1 := by
        rw [m2, q1] <;> rfl
      exact q1
  have there : ∀ {y}, scope.names.lookup y = some .free → ∃ c, (cloFrom X.env.cells scope.names []).lookup y = some c := fun {y} hl => mem_lookup (cloFrom_has (cells := X.env.cells) (acc := []) (PySem.mem_of_lookup hl))
  have held : ∀ {c : Addr} {v : Option Value}, H c = none → s.heap.IsCell c v → hn.IsCell c v := fun {c v} nn ⟨o, e1, e2⟩ => by
    obtain ⟨sl, q⟩ := un.any e1 nn List.not_mem_nil
    exact ⟨_, kp _ _ q, e2⟩
  have noEx : ∀ b : Addr, ¬ b ∈ (LamX.lamCx X A outer s1 HZ E scope ff cc).ex := fun b z => List.not_mem_nil (show b ∈ ([] : List Addr) from z)
  have okc : (LamX.lamCx X A outer s1 HZ E scope ff cc).Ok := by
    refine ⟨e0.mod, L.kd, rfl, rfl, Nat.le_refl _, fun y z c q1 q2 => I.ok.inj y z c (back q1) (back q2), fun y hy => ?_, fun y c z _ => ?_, fun _ => hd, Around.frames_deeper e0.frames, Or.inr ⟨rfl, rfl⟩, fun b z => (noEx b z).elim, e0.bs, e0.bsz, fun b _ _ => noEx b, fun b z => (noEx b z).elim, e0.funs, e0.frf⟩
    · have hy : scope.names.lookup y = some .cell ∨ scope.names.lookup y = some .free := hy
      rcases hy with q | q
      · exact (L.ce _ (PySem.mem_of_lookup q) rfl).elim
      · exact there q
    · have z : false = true := z
      cases z
  refine ⟨okc, rfl, e0.bare, Un.kept kp, ⟨_, ns, fun i y v q1 q2 q3 => ?_⟩, fun y c e => ?_, e0.hok.fresh (Nat.le_refl _), fun y c e => ?_, fun q hq => (List.not_mem_nil (show q ∈ ([] : List (Addr × Obj)) from hq)).elim, e0.hok.kept kp, I.len⟩
  · have q1 : X.N[i]? = some y := q1
    have q3 : Vis scope y := q3
    rcases q3 with k | k | k
    · exact (L.ow _ (PySem.mem_of_lookup k) rfl (List.mem_of_getElem? q1)).elim
    · exact (L.ce _ (PySem.mem_of_lookup k) rfl).elim
    · obtain ⟨m, hm, hl⟩ := I.loc
      have vis : Vis X.env.scope y := by
        rcases L.fr _ (PySem.mem_of_lookup k) rfl with z | z
        · exact Or.inr (Or.inl z)
        · exact Or.inr (Or.inr z)
      obtain ⟨u, r, q⟩ := hl i y v q1 q2 vis
      obtain ⟨c2, h2⟩ := there k
      have c1 := back h2
      refine ⟨u, r, Or.inr ⟨Or.inr k, c2, h2, ?_⟩⟩
      rcases q with ⟨q, _⟩ | ⟨_, c3, e3, z⟩
      · have q : X.env.scope.names.lookup y = some .local := q
        rcases L.fr _ (PySem.mem_of_lookup k) rfl with z | z
        · rw [show X.env.scope.names.lookup y = some .cell from z] at q
          cases q
        · rw [show X.env.scope.names.lookup y = some .free from z] at q
          cases q
      · rw [c1] at e3
        obtain rfl := Option.some.inj e3
        exact held (I.freeC y _ c1) z
  · obtain ⟨u, z⟩ := I.cell y c (back e)
    exact ⟨u, held (I.freeC y c (back e)) z⟩
  · obtain ⟨v, o, e1, e2⟩ := I.cell y c (back e)
    exact un.free c o e1 (I.freeC y c (back e)) List.not_mem_nil
/-- a kept lambda is called, with its maker's frame still running -/
theorem lam_run {params : Arguments} {body : Expr} {dV dd pp tt : Value} {binds : List (Str × Value)} {k : Nat} {tb : TE} {Q : VK} {q : Str} (I : Inv X pins σ H s) (L : LamD X.N X.env.scope scope) (e0 : Env0 X.prog X.w X.K X.mg X.base A outer s1 HZ) (hr : Room (k + 1) A) (un : Un (frs X.stack) [] H HZ s.heap s1.heap)
    (hf : s1.heap.get? ff = some (PySem.W.kdv_obj "<lambda>" (X.env.qual ++ "<lambda>") params (.expr body) scope (cloFrom X.env.cells scope.names []) dV dd pp cc tt)) (hc : HZ cc = some (LamX.CodeO cc (X.env.qual ++ "<lambda>")))
    (hb : BindsTo s1 (PySem.W.kdv_fn "<lambda>" (X.env.qual ++ "<lambda>") params (.expr body) scope (cloFrom X.env.cells scope.names []) dV dd pp (.ref cc) tt) ⟨[], []⟩ binds) (hl : ∀ y ∈ binds, scope.names.lookup y.1 = some .local)
    (hbody : ∀ (A : Around) (outer : List Env) (s : Shared) (H : Hp), Room k (A.deeper (LamX.lamEnv X scope s.heap.objs.size ff cc)) → PE (LamX.lamCx X A outer s H E scope ff cc) body tb) (ht : tb σ HZ Q) :
    codeAny (model X.prog X.w) A (.call (.ref ff) ⟨[], []⟩) (CR (L2.CX X.prog X.w) outer X.prog X.w HZ s1 Q E) s1 := by
  obtain ⟨⟨oc, vs, t, hoc, hdc, hvc⟩, _, _⟩ := e0.hok cc _ hc
  have lim : s1.heap.NoLimit := e0.mod.nolimit.keeps fun b o e => (e0.bs b o e).1
  refine PySem.W.kla_callFunE hr.depth hf rfl L.co L.gn rfl ⟨cc, oc, vs, t, rfl, hoc, hdc, hvc⟩ (hb _ _ _ _ ?_)
  refine wpAny_newFunctionEnv L.ce hl (fun hn ns hsb => ⟨lim.fresh _ hsb, ?_⟩) L.kd
  show codeAny _ _ (.expr body (LamX.lamEnv X scope s1.heap.objs.size ff cc)) _ _
  have kp : ∀ b o, s1.heap.get? b = some o → hn.get? b = some o := fun b o e => hsb.extBut b o (Nat.ne_of_lt (Heap.lt_size e)) (Heap.get?_push_of_some _ e)
  have J : Inv (LamX.lamCx X A outer s1 HZ E scope ff cc) [] σ HZ { s1 with heap := hn, toks := s1.toks + binds.length } := lam_in I L e0 hr.hd un ns kp
  refine PySem.W.kla_codeExpr (wpAny_mono ((hbody A outer s1 HZ (hr.deeper _)).run [] _ σ HZ Q J ht) (fun v s' hq => ?_) fun _ _ hq => hq)
  obtain ⟨u, H', J', rv, q⟩ := hq
  exact ⟨u, H', J'.os, J'.bare, J'.base, J'.hok, rv, q⟩
end
/-- how a lambda without arguments is called: it has no parameter, or one with a default -/
def LamBind (params : Arguments) (body : Expr) (scope : Scope) : Option Str → Prop
  | none => ∀ (q : Str) (cl : List (Str × Addr)) (dd pp cv tt : Value), bindArgs (PySem.W.kdv_fn "<lambda>" q params (.expr body) scope cl .none dd pp cv tt) ⟨[], []⟩ = pure []
  | some x => scope.names.lookup x = some .local ∧ ∀ (q : Str) (cl : List (Str × Addr)) (T : Addr) (dd pp cv tt : Value), ∃ g, bindArgs (PySem.W.kdv_fn "<lambda>" q params (.expr body) scope cl (.ref T) dd pp cv tt) ⟨[], []⟩ = seqItems? (.ref T) >>= g ∧ ∀ u, g (some #[u]) = pure [(x, u)]
/-- the default that was made -/
def LamDf (H : Hp) : Option Str → Value → Prop
  | none, dV => dV = .none
  | some _, dV => ∃ T, dV = .ref T ∧ H T = some (.tup [.int 0])
theorem LamDf.ext {H H' : Hp} {x : Option Str} {dV : Value} (h : LamDf H x dV) (e : ∀ b xs, H b = some (.tup xs) → H' b = some (.tup xs)) : LamDf H' x dV := by
  cases x with
  | none => exact h
  | some x =>
    obtain ⟨T, rfl, hT⟩ := h
    exact ⟨T, rfl, e _ _ hT⟩
theorem lam_binds {P : Program} {w : World} {H : Hp} {s : Shared} {params : Arguments} {body : Expr} {scope : Scope} {x : Option Str} {dV : Value} (b : LamBind params body scope x) (d : LamDf H x dV) (ok : HOk P w H s.heap) (q : Str) (cl : List (Str × Addr)) (dd pp cv tt : Value) :
    ∃ binds, BindsTo s (PySem.W.kdv_fn "<lambda>" q params (.expr body) scope cl dV dd pp cv tt) ⟨[], []⟩ binds ∧ ∀ y ∈ binds, scope.names.lookup y.1 = some .local := by
  cases x with
  | none =>
    obtain rfl : dV = .none := d
    exact ⟨[], BindsTo.of_eq (b q cl dd pp cv tt), fun y hy => absurd hy List.not_mem_nil⟩
  | some x =>
    obtain ⟨T, rfl, hT⟩ := d
    obtain ⟨hl, hb⟩ := b
    obtain ⟨g, g1, g2⟩ := hb q cl T dd pp cv tt
    obtain ⟨_, its, rv, o, ho, hc, n, hd⟩ := ok T _ hT
    obtain ⟨u, rfl⟩ : ∃ u, its = [u] := by
      cases rv with
      | cons r t =>
        cases t
        exact ⟨_, rfl⟩
    exact ⟨[(x, u)], BindsTo.of_defaults rfl ho hd g1 (g2 u), fun y hy => by rw [List.mem_singleton.mp hy]; exact hl⟩
/-- a(), a kept lambda that the running def has made itself -/
def tLamRun (q : Str) (cl : List (Str × Addr)) (i : Nat) (params : Arguments) (body : Expr) (scope : Scope) (x : Option Str) (tb : XK → TE) (W : WX) : TE := fun σ H Q => ∃ (ff cc : Addr) (dV : Value), σ[i]? = some (some (.ref ff)) ∧ H ff = some (LamO q cl params body scope dV cc ff) ∧ H cc = some (LamX.CodeO cc q) ∧ LamDf H x dV ∧ tb (WE W σ) σ H Q
theorem pe_lamrun {X : Cx} {W : WX} {q : Str} {cl : List (Str × Addr)} {i k : Nat} {a : Str} {params : Arguments} {body : Expr} {scope : Scope} {x : Option Str} {tb : XK → TE} {p1 p2 : Pos} (tk : Takes X W) (hr : Room (k + 1) X.A) (L : LamD X.N X.env.scope scope) (b : LamBind params body scope x)
    (hbody : ∀ (A : Around) (outer : List Env) (s : Shared) (H : Hp) (E : XK) (ff cc : Addr), Room k (A.deeper (LamX.lamEnv X scope s.heap.objs.size ff cc)) → PE (LamX.lamCx X A outer s H E scope ff cc) body (tb E))
    (hN : X.N[i]? = some a) (hv : Vis X.env.scope a) (hq : X.env.qual ++ "<lambda>" = q := by rfl) (hcl : cloFrom X.env.cells scope.names [] = cl := by rfl) (hd : (a == ("__debug__" : Str)) = false := by decide) (hcd : (a == ("__classdict__" : Str)) = false := by decide) : PE X (.Call (.Name a p1) [] [] p2) (tLamRun q cl i params body scope x tb W) := by
  subst hq hcl
  refine ⟨fun pins s σ H Q I h => ?_⟩
  obtain ⟨ff, cc, dV, hσ, hf, hc, hdf, ht⟩ := h
  refine wpAny_Call_Name_kw (thn ((pe_var (pos := p1) (i := i) hN hv hd hcd).run pins s σ H (fun v H1 => v = .ref ff ∧ H1 = H) I ⟨.ref ff, hσ, rfl, rfl⟩) fun u s1 ⟨v, H1, I1, r1, ev, eH⟩ => ?_)
  subst ev
  subst eH
  obtain rfl : u = Value.ref ff := r1
  obtain ⟨⟨dd, pp, tt, of1⟩, _, _⟩ := I1.hok ff _ hf
  refine PySem.W.callWith_F0 ⟨_, _, _, _, of1⟩ ?_
  obtain ⟨binds, hb, hl⟩ := lam_binds b hdf I1.hok (X.env.qual ++ "<lambda>") (cloFrom X.env.cells scope.names []) dd pp (.ref cc) tt
  have rc := lam_run (E := WE W σ) (q := a) I1 L I1.env0 hr Un.refl of1 hc hb hl (fun A outer s H hr2 => hbody A outer s H (WE W σ) ff cc hr2) ht
  refine wpAny_call (codeAny_mono rc fun r s' hq => ?_)
  cases r with
  | error e => exact passAt tk σ pins H1 s1 e s' I1 hq
  | ok fl =>
    cases fl with
    | ret u => exact I1.after hq
    | next => exact False.elim hq
    | brk => exact False.elim hq
    | cont => exact False.elim hq
/-! the making of such a lambda -/
def tLamMk (q : Str) (cl : List (Str × Addr)) (P : Addr) (params : Arguments) (body : Expr) (scope : Scope) (x : Option Str) : TE := fun _ H Q => LamX.TabS H P q ∧ ∀ (ff cc : Addr) (dV : Value) (H1 : Hp), LamX.ExtN H H1 → LamX.TabS H1 P q → H1 cc = some (LamX.CodeO cc q) → LamDf H1 x dV → H1 ff = none → Q (.ref ff) (upd H1 ff (LamO q cl params body scope dV cc ff))
section
variable {X : Cx} {pins : List (Addr × Obj)} {σ : L2.St} {H : Hp} {s : Shared}
theorem lam_tail {E Q : Value → Shared → Prop} {c P : Addr} {params : Arguments} {body : Expr} {scope : Scope} {pos : Pos} {dV : Value} {x : Option Str} (I : Inv X pins σ H s) (TB : LamX.TabB X.base X.mg c P) (hcode : X.env.code = .ref c) (hT : LamX.TabS H P (X.env.qual ++ "<lambda>")) (hdf : LamDf H x dV)
    (hfree : ∀ y ∈ scope.names, y.2 = .free → ∃ c, X.env.cells.lookup y.1 = some c)
    (h : ∀ (ff cc : Addr) (H1 : Hp) (s' : Shared), Inv X pins σ (upd H1 ff (LamO (X.env.qual ++ "<lambda>") (cloFrom X.env.cells scope.names []) params body scope dV cc ff)) s' → LamX.ExtN H H1 → LamX.TabS H1 P (X.env.qual ++ "<lambda>") → H1 cc = some (LamX.CodeO cc (X.env.qual ++ "<lambda>")) → LamDf H1 x dV → H1 ff = none → Q (.ref ff) s') :
    wpAny (model X.prog X.w) X.A (PySem.makeTail "<lambda>" (X.env.qual ++ "<lambda>") params (.expr body) scope X.env dV .none none pos pos.line) Q E s := by
  obtain ⟨ps, hP, htr, hall⟩ := hT
  have bP : s.heap.BuiltinsAt X.mg P := TB.bm.keeps I.bk
  have gl : s.heap.Ns mainGlobals X.mg := I.mod.glob.keeps I.bk
  have oP : s.heap.get? P = some { cls := .none, data := .fields ps } := I.hok P _ hP
  cases hm : codeAmong pos ps.toList with
  | some cv =>
    obtain ⟨cc, ec, hcc⟩ := hall pos cv hm
    subst ec
    refine PySem.W.kdv_makeTailHit (mg := X.mg) (c := c) (P := P) (ps := ps) (closure_ok hfree) I.ok.glob gl hcode (TB.code.keeps I.bk) oP htr hm bP fun tt dd h' tk kk hsz => ?_
    have I0 : Inv X pins σ H { s with heap := h', toks := tk } := I.kept kk
    have nf : H h'.objs.size = none := I0.hok.fresh (Nat.le_refl _)
    exact h h'.objs.size cc H _ (I0.laid (t' := tk) (fun b u e => Heap.get?_push_of_some _ e) (Nat.le_refl _) (lamO_ok (Heap.get?_push_size _ rfl))) (LamX.ExtN.refl H) ⟨ps, hP, htr, hall⟩ hcc hdf nf
  | none =>
    refine PySem.W.kdv_makeTail (mg := X.mg) (c := c) (P := P) (ps := ps) (closure_ok hfree) I.ok.glob gl hcode (TB.code.keeps I.bk) oP htr hm TB.gP bP fun cc tt dd h' tk hx hge hlt hrec htb => ?_
    obtain ⟨c2, oc, vs, t, e2, e3, e4, e5⟩ := hrec
    cases e2
    have nC : H cc = none := I.hok.fresh hge
    have I0 := LamX.inv_table (t' := tk) (q := X.env.qual ++ "<lambda>") (more := #[rawInt pos.line, rawInt pos.col, .ref cc]) (h' := h') I hP (fun b o hb e => hx b o hb e) htb hge ⟨oc, vs, t, e3, e4, e5⟩
    have ext : LamX.ExtN H (upd (upd H P (.tbl (ps ++ #[rawInt pos.line, rawInt pos.col, .ref cc]))) cc (LamX.CodeO cc (X.env.qual ++ "<lambda>"))) := fun b o e nt => by
      rw [upd_ne (ne_of_none e nC), upd_ne fun z => nt ps (Option.some.inj (e.symm.trans (by rw [z]; exact hP)))]
      exact e
    have tups : ∀ b xs, H b = some (.tup xs) → (upd (upd H P (.tbl (ps ++ #[rawInt pos.line, rawInt pos.col, .ref cc]))) cc (LamX.CodeO cc (X.env.qual ++ "<lambda>"))) b = some (.tup xs) := fun b xs e => ext b _ e fun qs z => by cases z
    have tab : LamX.TabS (upd (upd H P (.tbl (ps ++ #[rawInt pos.line, rawInt pos.col, .ref cc]))) cc (LamX.CodeO cc (X.env.qual ++ "<lambda>"))) P (X.env.qual ++ "<lambda>") := by
      have el : (ps ++ #[rawInt pos.line, rawInt pos.col, .ref cc]).toList = ps.toList ++ [rawInt pos.line, rawInt pos.col, .ref cc] := by simp
      refine ⟨_, by rw [upd_ne (ne_of_none hP nC), upd_same], by rw [el]; exact PySem.TriplesOk_snoc _ _ _ _ htr, fun p' cv hcv => ?_⟩
      rw [el] at hcv
      rcases LamX.among_app _ htr hcv with z | z
      · obtain ⟨c0, q1, q2⟩ := hall p' cv z
        exact ⟨c0, q1, ext _ _ q2 LamX.codeO_ne⟩
      · exact ⟨cc, z, upd_same⟩
    have nf : (upd (upd H P (.tbl (ps ++ #[rawInt pos.line, rawInt pos.col, .ref cc]))) cc (LamX.CodeO cc (X.env.qual ++ "<lambda>"))) h'.objs.size = none := I0.hok.fresh (Nat.le_refl _)
    exact h h'.objs.size cc _ _ (I0.laid (t' := tk) (fun b u e => Heap.get?_push_of_some _ e) (Nat.le_refl _) (lamO_ok (Heap.get?_push_size _ rfl))) ext tab upd_same (hdf.ext tups) nf
end
theorem pe_lammk0 {X : Cx} {c P : Addr} {q : Str} {cl : List (Str × Addr)} {params : Arguments} {body : Expr} {scope : Scope} {lpos : Pos} (TB : LamX.TabB X.base X.mg c P) (hcode : X.env.code = .ref c) (L : LamD X.N X.env.scope scope) (hdef : defaultsOf params X.env = ([], [])) (hq : X.env.qual ++ "<lambda>" = q := by rfl) (hcl : cloFrom X.env.cells scope.names [] = cl := by rfl) : PE X (.Lambda params body scope lpos) (tLamMk q cl P params body scope none) := by
  subst hq hcl
  refine ⟨fun pins s σ H Q I h => ?_⟩
  obtain ⟨hT, h⟩ := h
  refine PySem.W.kla_eval hdef ?_
  rw [PySem.makeFunction_eq]
  simp only [List.zip_nil_right, List.filterMap_nil, List.isEmpty_nil, if_true, pure_bind]
  exact lam_tail (x := none) I TB hcode hT rfl (L.caught I.ok) fun ff cc H1 s' I1 a1 a2 a3 a4 a5 => ⟨.ref ff, _, I1, rfl, h ff cc .none H1 a1 a2 a3 a4 a5⟩
/-- lambda x = 0: .. -/
theorem pe_lammk1 {X : Cx} {c P : Addr} {x : Str} {q : Str} {cl : List (Str × Addr)} {params : Arguments} {body d : Expr} {scope : Scope} {lpos : Pos} (TB : LamX.TabB X.base X.mg c P) (hcode : X.env.code = .ref c) (L : LamD X.N X.env.scope scope) (hd : params.defaults = [d]) (hk : params.kw_defaults = []) (h0 : PE X d (tC (.int 0))) (hq : X.env.qual ++ "<lambda>" = q := by rfl) (hcl : cloFrom X.env.cells scope.names [] = cl := by rfl) : PE X (.Lambda params body scope lpos) (tLamMk q cl P params body scope (some x)) := by
  subst hq hcl
  refine ⟨fun pins s σ H Q I h => ?_⟩
  obtain ⟨hT, h⟩ := h
  refine PySem.W.kdv_lam (by rw [hd]; rfl) hk ?_
  rw [hd]
  refine PySem.W.kdv_all1 (thn (h0.run pins s σ H (fun v H1 => v = .int 0 ∧ H1 = H) I ⟨rfl, rfl⟩) fun u s1 ⟨v, H1, I1, r1, ev, eH⟩ => ?_)
  subst ev
  subst eH
  refine PySem.W.kdv_all0 ?_
  rw [PySem.makeFunction_eq]
  simp only [List.zip_nil_right, List.filterMap_nil, List.isEmpty_nil, List.isEmpty_cons, Bool.false_eq_true, if_true, if_false, pure_bind]
  refine wpAny_bind (wpAny_newTextTuple ?_)
  have nT : H1 s1.heap.objs.size = none := I1.hok.fresh (Nat.le_refl _)
  have I2 : Inv X pins σ (upd H1 s1.heap.objs.size (.tup [.int 0])) { s1 with heap := s1.heap.push { cls := .type "tuple", data := .seq #[u] } } := I1.laid (t' := s1.toks) (fun b o e => Heap.get?_push_of_some _ e) (Nat.le_refl _) ⟨by decide, [u], .cons r1 .nil, _, Heap.get?_push_size _ rfl, rfl, _, rfl⟩
  have ext0 : LamX.ExtN H1 (upd H1 s1.heap.objs.size (.tup [.int 0])) := LamX.ExtN.of fun b o e => by
    rw [upd_ne (ne_of_none e nT)]
    exact e
  exact lam_tail (x := some x) I2 TB hcode (hT.ext fun b o e => by rw [upd_ne (ne_of_none e nT)]; exact e) ⟨_, rfl, upd_same⟩ (L.caught I.ok) fun ff cc H2 s' I3 a1 a2 a3 a4 a5 => ⟨.ref ff, _, I3, rfl, h ff cc _ H2 (ext0.trans a1) a2 a3 a4 a5⟩

/-! ### a law that makes lambdas: its own code is known, its script may be any list -/
structure FunC (K : PySem.W.Frag) (x qual : Str) (st : Stmt) (f : Addr) (fd : FuncData) (cL : Addr) : Prop where
  ex : ∃ (oc : Value) (od : Option Addr) (kV doc pm : Value) (an : Option Addr) (ct : Value) (osl : Array (Option Value)), fd = PySem.W.fnOf x qual (defArgs st) (defBody st) (defScope st) .none kV doc pm an (.ref cL) ct ∧ K.lookup f = some ⟨oc, od, .func fd, osl⟩ ∧ PySem.W.codeIn K (.ref cL) qual = true
theorem FunC.ok {P : Program} {w : World} {K : PySem.W.Frag} {mg : Str → Option Value} {base : Heap} {x qual : Str} {st : Stmt} {f cL : Addr} {fd : FuncData} {N ps : List Str} {k : Nat} {sp : Sp} (F : FunC K x qual st f fd cL) (S : FnScope N ps (defScope st)) (len : ∀ vs H Q E, sp vs H Q E → vs.length = ps.length)
    (hbody : ∀ (A : Around) (outer : List Env) (s : Shared) (H : Hp) (vs : List V) (Q : VK) (E : XK), Room k (A.deeper (envOfC qual (defScope st) s.heap.objs.size f (.ref cL))) → sp vs H Q E →
      ∃ t, PSs (cxOf CX0 P w K mg base N qual (defScope st) f (.ref cL) A outer s H E).nox (defBody st) t ∧ t { nx := fun _ H' => Q .non H', rt := Q } (start N vs) H) : FnOk P w K mg base CX0 (k + 1) f fd ps sp := by
  obtain ⟨oc, od, kV, doc, pm, an, ct, osl, rfl, lk, hcd⟩ := F.ex
  refine fn_of lk hcd S len fun A outer s H vs Q E hr hsp => ?_
  obtain ⟨t, h, q⟩ := hbody A outer s H vs Q E hr hsp
  exact ⟨t, h.nox, q⟩
/-- with the table of the law's lambdas at PL -/
def spLawL (K : PySem.W.Frag) (PL : Addr) : Sp := fun vs H Q _ => ∃ (a : Addr) (ns : List Int), vs = [.ref a] ∧ Scr K H a ns ∧ H PL = some (.tbl #[]) ∧ ∀ H', Q (.bl true) H'
def spLawT (K : PySem.W.Frag) (PL : Addr) : Sp := fun vs H Q _ => ∃ (a : Addr) (ns : List Int), vs = [.ref a] ∧ SqL K H a (ns.map V.int) ∧ H PL = some (.tbl #[]) ∧ ∀ H', Q (.bl true) H'
theorem law_thaw {P : Program} {w : World} {K : PySem.W.Frag} {mg : Str → Option Value} {base : Heap} {f PL : Addr} {fd : FuncData} {k : Nat} (F : FnOk P w K mg base CX0 k f fd ["script"] (spLawL K PL)) : FnOk P w K mg base CX0 k f fd ["script"] (spLawT K PL) := by
  refine ⟨fun vs H Q E h => ?_, fun A outer s H args us vs Q E hr e0 hb r h => ?_⟩
  · obtain ⟨a, ns, rfl, _⟩ := h
    rfl
  · obtain ⟨a, ns, rfl, hS, hP, q⟩ := h
    have known : Scr K H a ns → codeAny (model P w) A (.call (.ref f) args) (CR CX0 outer P w H s Q E) s := fun sc => F.run A outer s H args us _ Q E hr e0 hb r ⟨a, ns, rfl, sc, hP, q⟩
    rcases hS with (hS | ⟨o, hS⟩) | hS
    · obtain ⟨o, ho⟩ : ∃ o, s.heap.get? a = some o := by
        obtain ⟨_, its, n, _, e⟩ := e0.hok a _ hS
        exact ⟨_, e⟩
      have nPa : PL ≠ a := ne_of hP hS (by intro z; cases z)
      have at_ : ∀ b, b ≠ a → upd H a (.frz o (.lst (ns.map V.int))) b = H b := fun b hb => upd_ne hb
      have nN : ∀ b, H b = none → b ≠ a := fun b e z => by
        rw [z, hS] at e
        cases e
      have e1 : Env0 P w K mg base A outer s (upd H a (.frz o (.lst (ns.map V.int)))) := by
        refine ⟨e0.frames, e0.mod, fun b u e => ⟨(e0.bs b u e).1, by rw [at_ b (nN b (e0.bs b u e).2)]; exact (e0.bs b u e).2⟩, e0.bsz, e0.funs, fun b hb => by rw [at_ b (nN b (e0.frf b hb))]; exact e0.frf b hb, fun b u e => ?_, e0.bare⟩
        by_cases z : b = a
        · rw [z, upd_same] at e
          cases e
          rw [z]
          refine ⟨ho, (e0.hok a _ hS).stay (fun _ _ _ q => q) (fun c hc => ?_) fun c xs hc => ?_⟩
          · rw [at_ c (ne_of hc hS (by intro z; cases z))]
            exact hc
          · rw [at_ c (ne_of hc hS (by intro z; cases z))]
            exact hc
        · rw [at_ b z] at e
          refine (e0.hok b u e).stay (fun _ _ _ q => q) (fun c hc => ?_) fun c xs hc => ?_
          · rw [at_ c (ne_of hc hS (by intro z; cases z))]
            exact hc
          · rw [at_ c (ne_of hc hS (by intro z; cases z))]
            exact hc
      have run := F.run A outer s (upd H a (.frz o (.lst (ns.map V.int)))) args us _ (fun v _ => v = .bl true) E hr e1 hb r ⟨a, ns, rfl, .inl ⟨o, upd_same⟩, by rw [at_ PL nPa]; exact hP, fun _ => rfl⟩
      refine codeAny_mono run fun rr s' hq => ?_
      cases rr with
      | error e => exact hq
      | ok fl =>
        cases fl with
        | next => exact hq
        | brk => exact hq
        | cont => exact hq
        | ret u =>
          obtain ⟨v, H', os, bare, un, hok, rv, ev⟩ := hq
          have fz : H' a = some (.frz o (.lst (ns.map V.int))) := un.frzs a o _ upd_same
          have bt : ∀ b, b ≠ a → upd H' a (.lst (ns.map V.int)) b = H' b := fun b hb => upd_ne hb
          refine ⟨v, upd H' a (.lst (ns.map V.int)), os, bare, ?_, fun b u e => ?_, rv, by rw [show v = .bl true from ev]; exact q _⟩
          · refine ⟨fun b o' e n h1 h2 => un.keep b o' e (by rw [at_ b (nN b n)]; exact n) h1 h2, fun b o' e n h1 h2 => un.slot b o' e (by rw [at_ b (nN b n)]; exact n) h1 h2, fun b o' e n h2 => ?_, un.there, fun b xs e => ?_, fun b o' u' e => ?_, fun b ps e => ?_⟩
            · rw [bt b (nN b n)]
              exact un.free b o' e (by rw [at_ b (nN b n)]; exact n) h2
            · have nb : b ≠ a := ne_of e hS (by intro z; cases z)
              rw [bt b nb]
              exact un.tups b xs (by rw [at_ b nb]; exact e)
            · have nb : b ≠ a := ne_of e hS (by intro z; cases z)
              rw [bt b nb]
              exact un.frzs b o' u' (by rw [at_ b nb]; exact e)
            · have nb : b ≠ a := ne_of e hS (by intro z; cases z)
              obtain ⟨more, hm⟩ := un.tbls b ps (by rw [at_ b nb]; exact e)
              exact ⟨more, by rw [bt b nb]; exact hm⟩
          · by_cases z : b = a
            · rw [z, upd_same] at e
              cases e
              rw [z]
              obtain ⟨_, ok⟩ := hok a _ fz
              refine ObjOk.stay ok (fun _ _ _ q => q) (fun c hc => ?_) fun c xs hc => ?_
              · rw [bt c (ne_of hc fz (by intro z; cases z))]
                exact hc
              · rw [bt c (ne_of hc fz (by intro z; cases z))]
                exact hc
            · rw [bt b z] at e
              refine (hok b u e).stay (fun _ _ _ q => q) (fun c hc => ?_) fun c xs hc => ?_
              · rw [bt c (ne_of hc fz (by intro z; cases z))]
                exact hc
              · rw [bt c (ne_of hc fz (by intro z; cases z))]
                exact hc
    · exact known (.inl ⟨o, hS⟩)
    · exact known (.inr hS)

/-! ### what the papers' and walkers' texts are, joined and split -/
theorem joinL_len (S : List Nat) : ∀ ps : List (List Nat), (joinL S ps).length ≤ (ps.map List.length).sum + ps.length * S.length
  | [] => Nat.zero_le _
  | [p] => by
    show p.length ≤ p.length + 0 + 1 * S.length
    omega
  | p :: q :: r => by
    have h := joinL_len S (q :: r)
    show (p ++ (S ++ joinL S (q :: r))).length ≤ p.length + ((q :: r).map List.length).sum + ((q :: r).length + 1) * S.length
    rw [List.length_append, List.length_append, Nat.add_mul]
    omega
theorem join_len (y : Str) (ps : List Str) : (Txt.join y ps).length ≤ (ps.map (·.length)).sum + ps.length * y.length := by
  have h := joinL_len (tl y) (ps.map tl)
  rw [len_tl, join_eq, tl_join]
  rw [List.map_map, List.length_map] at h
  rw [len_tl y, show (fun x : Str => x.length) = List.length ∘ tl from funext fun x => len_tl x]
  exact h
theorem sum_le {α : Type} (f : α → Nat) (m : Nat) : ∀ l : List α, (∀ x ∈ l, f x ≤ m) → (l.map f).sum ≤ l.length * m
  | [], _ => Nat.zero_le _
  | x :: l, h => by
    have h1 := h x List.mem_cons_self
    have h2 := sum_le f m l fun y hy => h y (List.mem_cons_of_mem _ hy)
    rw [List.map_cons, List.sum_cons, List.length_cons, Nat.add_mul]
    omega
theorem joined {ps : List Str} {m : Nat} (h : ∀ p ∈ ps, p.length ≤ m) : (Txt.join (Str.ofString " ") ps).length ≤ ps.length * m + ps.length := by
  have a := join_len (Str.ofString " ") ps
  have b := sum_le (fun p : Str => p.length) m ps h
  rw [show (Str.ofString " ").length = 1 from rfl] at a
  omega
theorem pap_back {z : Str} {ys : List Int} (f : 32 ∉ tl z) (h : ∀ i ∈ ys, i.natAbs < 10 ^ 61) : papV (Txt.join (Str.ofString " ") (z :: ys.map numS)) = .str z :: ys.map V.int := by
  have e : Txt.split (Txt.join (Str.ofString " ") (z :: ys.map numS)) (Str.ofString " ") = z :: ys.map numS := split_join (s := 32) (S := []) rfl (by decide +kernel) (by simp) fun p hp => by
    rcases List.mem_cons.mp hp with rfl | hp
    · exact f
    · obtain ⟨i, _, rfl⟩ := List.mem_map.mp hp
      exact numS_free
  unfold papV
  rw [e]
  show V.str z :: (ys.map numS).map wordV = _
  rw [List.map_map]
  refine congrArg _ (List.map_congr_left fun i hi => ?_)
  exact wordV_num (h i hi)
theorem wlk_back {ks : List Int} (ne : ks ≠ []) (h : ∀ i ∈ ks, i.natAbs < 10 ^ 61) : wlkV (Txt.join (Str.ofString " ") (ks.map numS)) = ks.map V.int := by
  have e : Txt.split (Txt.join (Str.ofString " ") (ks.map numS)) (Str.ofString " ") = ks.map numS := split_join (s := 32) (S := []) rfl (by decide +kernel) (by simpa using ne) fun p hp => by
    obtain ⟨i, _, rfl⟩ := List.mem_map.mp hp
    exact numS_free
  unfold wlkV
  rw [e, List.map_map]
  exact List.map_congr_left fun i hi => wordV_num (h i hi)
theorem num_lens {ks : List Int} (h : ∀ i ∈ ks, i.natAbs < 10 ^ 61) : ∀ p ∈ ks.map numS, p.length ≤ 62 := fun p hp => by
  obtain ⟨i, hi, rfl⟩ := List.mem_map.mp hp
  exact numS_len (h i hi)
section
variable {K : PySem.W.Frag} {H : Hp}
theorem dpInts : ∀ ks : List Int, DpAll K H (ks.map V.int) (ks.map PyData.int)
  | [] => .nil
  | k :: ks => .cons (.int k) (dpInts ks)
theorem scalInts {ks : List Int} : ∀ x ∈ ks.map V.int, scal x = true := fun x hx => by
  obtain ⟨i, _, rfl⟩ := List.mem_map.mp hx
  rfl
theorem okInts {n : Nat} : ∀ {ks : List Int}, ∀ d ∈ ks.map PyData.int, okD (n + 1) d := fun {_} d hd => by
  obtain ⟨i, _, rfl⟩ := List.mem_map.mp hd
  exact trivial
end
theorem kit_self {K : PySem.W.Frag} {v : Value} : PySem.W.kitOne K v v = some true := if_pos (beq_self_eq_true v)
/-- over a list that is made for it -/
theorem for_new {K : PySem.W.Frag} {tl : TE} {xs : List V} {g : TG} {tb : TS} {D : L2.Ends} {σ : L2.St} {H : Hp} (Pv : Addr → Nat → L2.St → Hp → Prop) (hm : ∀ Q : VK, (∀ L H1, H1 L = some (.lst xs) → Same H H1 → Q (.ref L) H1) → tl σ H Q) (h0 : ∀ L H1, H1 L = some (.lst xs) → Same H H1 → Pv L 0 σ H1) (hl : ∀ L i σ H, Pv L i σ H → H L = some (.lst xs))
    (hs : ∀ L i x σ H, xs[i]? = some x → Pv L i σ H → g x σ H fun σ2 H2 => tb { D with nx := Pv L (i + 1), ct := Pv L (i + 1), bk := D.nx } σ2 H2) (hd : ∀ L σ H, Pv L xs.length σ H → D.nx σ H) : tFor (iList K tl) g tb D σ H :=
  hm _ fun L H1 hL sm => ⟨L, rfl, ⟨xs, SqL.of hL⟩, for_list (Pv L) (h0 L H1 hL sm) (fun i σ H _ p => SqL.of (hl L i σ H p)) (hs L) (hd L)⟩
theorem for_newG {K : PySem.W.Frag} {tl : TE} {G : List V → Hp → Prop} {g : TG} {tb : TS} {D : L2.Ends} {σ : L2.St} {H : Hp} (Pv : Addr → List V → Nat → L2.St → Hp → Prop) (hm : ∀ Q : VK, (∀ L xs H1, H1 L = some (.lst xs) → G xs H1 → Same H H1 → Q (.ref L) H1) → tl σ H Q) (h0 : ∀ L xs H1, H1 L = some (.lst xs) → G xs H1 → Same H H1 → Pv L xs 0 σ H1) (hl : ∀ L xs i σ H, Pv L xs i σ H → H L = some (.lst xs))
    (hs : ∀ L xs i x σ H, xs[i]? = some x → Pv L xs i σ H → g x σ H fun σ2 H2 => tb { D with nx := Pv L xs (i + 1), ct := Pv L xs (i + 1), bk := D.nx } σ2 H2) (hd : ∀ L xs σ H, Pv L xs xs.length σ H → D.nx σ H) : tFor (iList K tl) g tb D σ H :=
  hm _ fun L xs H1 hL hg sm => ⟨L, rfl, ⟨xs, SqL.of hL⟩, for_list (Pv L xs) (h0 L xs H1 hL hg sm) (fun i σ H _ p => SqL.of (hl L xs i σ H p)) (hs L xs) (hd L xs)⟩
theorem ne_len {H : Hp} {a b : Addr} {xs ys : List V} (h1 : H a = some (.lst xs)) (h2 : H b = some (.lst ys)) (n : xs.length ≠ ys.length) : a ≠ b := fun e => by
  rw [e, h2] at h1
  have h : (HO.lst ys) = .lst xs := Option.some.inj h1
  injection h with h
  exact n (congrArg List.length h.symm)
theorem fs_step {H : Hp} {fa PL L : Addr} {n : Nat} {b : Bool} {xs : List V} (nP : PL ≠ fa) (nL : L ≠ fa) (hb : b = true) (hp : H PL = some (.tbl #[])) (hL : H L = some (.lst xs)) :
    (upd H fa (.lst (List.replicate n (.bl true) ++ [.bl b]))) fa = some (.lst (List.replicate (n + 1) (.bl true))) ∧ (upd H fa (.lst (List.replicate n (.bl true) ++ [.bl b]))) PL = some (.tbl #[]) ∧ (upd H fa (.lst (List.replicate n (.bl true) ++ [.bl b]))) L = some (.lst xs) := by
  subst hb
  refine ⟨by rw [upd_same, List.replicate_succ'], by rw [upd_ne nP]; exact hp, by rw [upd_ne nL]; exact hL⟩
/-- what is no paper -/
def BadPV (H : Hp) (v : V) : Prop := v = .non ∨ v = .int 5 ∨ (∃ a, v = .ref a ∧ H a = some (.tup [.str "stops"])) ∨ (∃ a, v = .ref a ∧ H a = some (.tup [.str "round", .int 1])) ∨ ∃ a, v = .ref a ∧ H a = some (.lst [.str "stops", .int 1])
theorem BadPV.same {H H' : Hp} {v : V} (s : Same H H') (h : BadPV H v) : BadPV H' v := by
  rcases h with h | h | ⟨a, e, h⟩ | ⟨a, e, h⟩ | ⟨a, e, h⟩
  · exact .inl h
  · exact .inr (.inl h)
  · exact .inr (.inr (.inl ⟨a, e, s _ _ h⟩))
  · exact .inr (.inr (.inr (.inl ⟨a, e, s _ _ h⟩)))
  · exact .inr (.inr (.inr (.inr ⟨a, e, s _ _ h⟩)))
theorem BadPV.upd {H : Hp} {v : V} {fa : Addr} {ys : List V} {o : HO} (hf : H fa = some (.lst ys)) (l : 3 ≤ ys.length) (h : BadPV H v) : BadPV (L2.upd H fa o) v := by
  rcases h with h | h | ⟨a, e, h⟩ | ⟨a, e, h⟩ | ⟨a, e, h⟩
  · exact .inl h
  · exact .inr (.inl h)
  · exact .inr (.inr (.inl ⟨a, e, by rw [upd_ne (fun z => by rw [z, hf] at h; cases h)]; exact h⟩))
  · exact .inr (.inr (.inr (.inl ⟨a, e, by rw [upd_ne (fun z => by rw [z, hf] at h; cases h)]; exact h⟩)))
  · exact .inr (.inr (.inr (.inr ⟨a, e, by rw [upd_ne (ne_len h hf (by show 2 ≠ _; omega))]; exact h⟩)))
theorem BadPV.judged {K : PySem.W.Frag} {H : Hp} {v : V} (h : BadPV H v) : JudgedP K H v false := by
  rcases h with h | h | ⟨a, e, h⟩ | ⟨a, e, h⟩ | ⟨a, e, h⟩
  · exact .inl ⟨h, rfl⟩
  · exact .inr (.inl ⟨_, h, rfl⟩)
  · exact .inr (.inr (.inr ⟨a, _, [], e, SqT.of h, by decide, by decide, by decide +kernel⟩))
  · exact .inr (.inr (.inr ⟨a, _, [.int 1], e, SqT.of h, by decide, by decide, by decide +kernel⟩))
  · exact .inr (.inr (.inl ⟨a, _, e, SqL.of h, rfl⟩))
/-- what is no walker -/
def BadWV (H : Hp) (v : V) : Prop := v = .non ∨ ∃ a xs, v = .ref a ∧ H a = some (.tup xs) ∧ xs.length ≤ 1000 ∧ (∀ x ∈ xs, scal x = true) ∧ walkerB xs = false
theorem BadWV.same {H H' : Hp} {v : V} (s : Same H H') (h : BadWV H v) : BadWV H' v := by
  rcases h with h | ⟨a, xs, e, h, z⟩
  · exact .inl h
  · exact .inr ⟨a, xs, e, s _ _ h, z⟩
theorem BadWV.upd {H : Hp} {v : V} {fa : Addr} {ys : List V} {o : HO} (hf : H fa = some (.lst ys)) (h : BadWV H v) : BadWV (L2.upd H fa o) v := by
  rcases h with h | ⟨a, xs, e, h, z⟩
  · exact .inl h
  · exact .inr ⟨a, xs, e, by rw [upd_ne (fun z => by rw [z, hf] at h; cases h)]; exact h, z⟩
theorem BadWV.judged {K : PySem.W.Frag} {H : Hp} {v : V} (h : BadWV H v) : Judged K H walkerB v false := by
  rcases h with h | ⟨a, xs, e, h, l, sc, z⟩
  · exact .inl ⟨h, rfl⟩
  · exact .inr (.inr (.inr ⟨a, xs, e, SqT.of h, l, sc, z.symm⟩))
theorem for_newN {K : PySem.W.Frag} {tl : TE} {G : List V → Hp → Prop} {g : TG} {tb : TS} {D : L2.Ends} {σ : L2.St} {H : Hp} (Pv : Addr → List V → Nat → L2.St → Hp → Prop) (hm : ∀ Q : VK, (∀ L xs H1, H1 L = some (.lst xs) → G xs H1 → Q (.ref L) H1) → tl σ H Q) (h0 : ∀ L xs H1, H1 L = some (.lst xs) → G xs H1 → Pv L xs 0 σ H1) (hl : ∀ L xs i σ H, Pv L xs i σ H → H L = some (.lst xs))
    (hs : ∀ L xs i x σ H, xs[i]? = some x → Pv L xs i σ H → g x σ H fun σ2 H2 => tb { D with nx := Pv L xs (i + 1), ct := Pv L xs (i + 1), bk := D.nx } σ2 H2) (hd : ∀ L xs σ H, Pv L xs xs.length σ H → D.nx σ H) : tFor (iList K tl) g tb D σ H :=
  hm _ fun L xs H1 hL hg => ⟨L, rfl, ⟨xs, SqL.of hL⟩, for_list (Pv L xs) (h0 L xs H1 hL hg) (fun i σ H _ p => SqL.of (hl L xs i σ H p)) (hs L xs) (hd L xs)⟩

/-! ### the law -/
theorem gname_seq {i : Nat} {v : V} {t u : TS} {D : L2.Ends} {rt : VK} {bk ct : L2.St → Hp → Prop} {σ : L2.St} {H : Hp} (h : tSeq t u D (σ.set i (some v)) H) : gName i v σ H ({ nx := tSeq t u D, rt := rt, bk := bk, ct := ct } : L2.Ends).nx := h
theorem gname_of {i : Nat} {v : V} {σ : L2.St} {H : Hp} {k : L2.St → Hp → Prop} (h : k (σ.set i (some v)) H) : gName i v σ H k := h
theorem nx_seq {t u : TS} {D : L2.Ends} {rt : VK} {bk ct : L2.St → Hp → Prop} {σ : L2.St} {H : Hp} (h : tSeq t u D σ H) : ({ nx := tSeq t u D, rt := rt, bk := bk, ct := ct } : L2.Ends).nx σ H := h
theorem seq_assoc {t u v : TS} {D : L2.Ends} {σ : L2.St} {H : Hp} (h : tSeq (tSeq t u) v D σ H) : tSeq t (tSeq u v) D σ H := h
def lamL : Expr := forOf ((defBody s_law).getD 12 (.Pass ⟨0, 0, 0, 0⟩))
/-- a paper and a walker as the law draws them -/
structure PapN (z : Str) (ys : List Int) : Prop where
  ok : paperB (.str z :: ys.map V.int) = true
  len : ys.length ≤ 2
  big : ∀ i ∈ ys, i.natAbs < 10 ^ 61
  zl : z.length ≤ 100
  free : 32 ∉ tl z
structure WlkN (ks : List Int) : Prop where
  ok : walkerB (ks.map V.int) = true
  len : ks.length = 4
  big : ∀ i ∈ ks, i.natAbs < 10 ^ 61
theorem whole_ok {i lo hi : Int} (a : lo ≤ i) (b : i ≤ hi) : wholeB (.int i) lo hi = true := by
  show (decide (lo ≤ i) && decide (i ≤ hi)) = true
  rw [decide_eq_true a, decide_eq_true b]
  rfl
theorem big5 {i : Int} (a : 0 ≤ i) (b : i ≤ 100000) : i.natAbs < 10 ^ 61 := Nat.lt_of_le_of_lt (show i.natAbs ≤ 100000 by omega) (by decide)
theorem papN0 {v : Int} (a : 0 ≤ v) (b : v ≤ 100000) : PapN (Str.ofString "stops") [v] := ⟨by
  show (wholeB (.int v) 0 100000 && decide (V.str (Str.ofString "stops") = .str "stops")) = true
  rw [whole_ok a b]
  rfl, by show 1 ≤ 2; decide, fun i hi => by rw [List.mem_singleton.mp hi]; exact big5 a b, by decide, by decide⟩
theorem papN1 {v u : Int} (a : 0 ≤ v) (b : v ≤ 100000) (c : 1 ≤ u) (d : u ≤ 2000) : PapN (Str.ofString "round") [v, u] := ⟨by
  show (wholeB (.int v) 0 100000 && (inV (V.str (Str.ofString "round")) [.str "round", .str "street"] && wholeB (.int u) 1 2000)) = true
  rw [whole_ok a b, whole_ok c d]
  decide, by show 2 ≤ 2; decide, fun i hi => by
    rcases List.mem_cons.mp hi with e | hi
    · rw [e]; exact big5 a b
    · rw [List.mem_singleton.mp hi]; exact big5 (by omega) (by omega), by decide, by decide⟩
theorem papN2 {u : Int} (c : 1 ≤ u) (d : u ≤ 2000) : PapN (Str.ofString "street") [0, u] := ⟨by
  show (wholeB (.int 0) 0 100000 && (inV (V.str (Str.ofString "street")) [.str "round", .str "street"] && wholeB (.int u) 1 2000)) = true
  rw [whole_ok (by decide) (by decide), whole_ok c d]
  decide, by show 2 ≤ 2; decide, fun i hi => by
    rcases List.mem_cons.mp hi with e | hi
    · rw [e]; decide
    · rw [List.mem_singleton.mp hi]; exact big5 (by omega) (by omega), by decide, by decide⟩
theorem wlkN {x y h s : Int} (x0 : -(2 ^ 199) ≤ x) (x1 : x ≤ 2 ^ 199) (y0 : -9 ≤ y) (y1 : y ≤ 9) (h0 : 0 ≤ h) (h1 : h < 4) (s0 : 0 ≤ s) (s1 : s < 4) : WlkN [x, y, h, s] := by
  have f : (2 : Int) ^ 199 ≤ 1000000000000000000000000000000000000000000000000000000000000 := by decide +kernel
  refine ⟨?_, rfl, fun i hi => ?_⟩
  · show (((wholeB (.int x) (-1000000000000000000000000000000000000000000000000000000000000) 1000000000000000000000000000000000000000000000000000000000000 && wholeB (.int y) (-1000000000000000000000000000000000000000000000000000000000000) 1000000000000000000000000000000000000000000000000000000000000) && wholeB (.int h) 0 3) && wholeB (.int s) 0 9) = true
    rw [whole_ok (by omega) (by omega), whole_ok (by omega) (by omega), whole_ok (by omega) (by omega), whole_ok (by omega) (by omega)]
    rfl
  · simp only [List.mem_cons, List.not_mem_nil, or_false] at hi
    have g : (10 : Nat) ^ 61 = 10000000000000000000000000000000000000000000000000000000000000 := by decide +kernel
    rw [g]
    rcases hi with rfl | rfl | rfl | rfl <;> omega
theorem slN1 (x : V) (xs : List V) : ¬ (HT.sIx (x :: xs).length 0 (some 1) = 0 ∧ HT.sIx (x :: xs).length (x :: xs).length none = (x :: xs).length) := fun z => by
  have e1 : HT.sIx (x :: xs).length 0 (some ((1 : Nat) : Int)) = 1 := by
    rw [HT.sIx_nat, List.length_cons]
    omega
  have e2 : HT.sIx (x :: xs).length 0 (some ((1 : Nat) : Int)) = 0 := z.1
  rw [e1] at e2
  cases e2
theorem txt_pap (z : Str) (ys : List Int) : (V.str z :: ys.map V.int).map txtV = z :: ys.map numS := by
  rw [List.map_cons, List.map_map]
  rfl
theorem txt_wlk (ks : List Int) : (ks.map V.int).map txtV = ks.map numS := by
  rw [List.map_map]
  rfl
theorem PapN.its {z : Str} {ys : List Int} (h : PapN z ys) : ∀ x ∈ V.str z :: ys.map V.int, (∃ z, x = .str z ∧ z.length ≤ 100) ∨ ∃ i : Int, x = .int i ∧ i.natAbs < 10 ^ 61 := fun x hx => by
  rcases List.mem_cons.mp hx with rfl | hx
  · exact .inl ⟨z, rfl, h.zl⟩
  · obtain ⟨i, hi, rfl⟩ := List.mem_map.mp hx
    exact .inr ⟨i, rfl, h.big i hi⟩
theorem WlkN.its {ks : List Int} (h : WlkN ks) : ∀ x ∈ ks.map V.int, (∃ z, x = .str z ∧ z.length ≤ 100) ∨ ∃ i : Int, x = .int i ∧ i.natAbs < 10 ^ 61 := fun x hx => by
  obtain ⟨i, hi, rfl⟩ := List.mem_map.mp hx
  exact .inr ⟨i, rfl, h.big i hi⟩
theorem PapN.scal {z : Str} {ys : List Int} (_ : PapN z ys) : ∀ x ∈ V.str z :: ys.map V.int, scal x = true := fun x hx => by
  rcases List.mem_cons.mp hx with rfl | hx
  · rfl
  · exact scalInts x hx
def lawN : List Str := ["script", "row", "first", "period", "paper", "walker", "texts", "found", "some", "error", "value", "work", "one"]
theorem lamD0 : LamD lawN (defScope s_law) (lamC (itemOf lamL 0)) := lamD_by (by decide +kernel)
theorem lamD1 : LamD lawN (defScope s_law) (lamC (itemOf lamL 1)) := lamD_by (by decide +kernel)
def badsP : List Str := ["", "stops", "stops x", "stops 1 2", "round 0 0", "street 1 2001", "stops 01", "stops  1", "ends 1", "stops -1", "round 1 2 "]
theorem badP : ∀ z ∈ badsP, z.length ≤ 400 ∧ paperB (papV z) = false := by decide +kernel
def badsW : List Str := ["", "0 0 0", "0 0 4 0", "0 0 0 10", "+1 0 0 0", "-0 0 0 0", "0 0 0 0 0", "1" ++ zeros ++ " 0 0 0", "a 0 0 0"]
theorem badW : ∀ z ∈ badsW, z.length ≤ 400 ∧ walkerB (wlkV z) = false := by decide +kernel
/-- the law's slots and heap with n found -/
def FS (a r pa wa ta fa PL : Addr) (n : Nat) : L2.St → Hp → Prop := fun σ H => ∃ y2 y3 y8 y9 y10 y11 y12 : Option V, σ = [some (.ref a), some (.ref r), y2, y3, some (.ref pa), some (.ref wa), some (.ref ta), some (.ref fa), y8, y9, y10, y11, y12] ∧ H fa = some (.lst (List.replicate n (.bl true))) ∧ H PL = some (.tbl #[])
def lamQ : Str := Str.ofString "law.<locals>.<lambda>"
/-- one of the law's lambdas -/
def IsL (k : Nat) (x : Option Str) (H : Hp) (v : V) : Prop := ∃ (ff cc : Addr) (dV : Value), v = .ref ff ∧ H ff = some (LamO lamQ [] (lamA (itemOf lamL k)) (lamE (itemOf lamL k)) (lamC (itemOf lamL k)) dV cc ff) ∧ H cc = some (LamX.CodeO cc lamQ) ∧ LamDf H x dV
theorem IsL.ext {k : Nat} {x : Option Str} {H H' : Hp} {v : V} (e : LamX.ExtN H H') (h : IsL k x H v) : IsL k x H' v := by
  obtain ⟨ff, cc, dV, rfl, h1, h2, h3⟩ := h
  exact ⟨ff, cc, dV, rfl, e _ _ h1 (fun _ z => by cases z), e _ _ h2 (fun _ z => by cases z), h3.ext fun b xs hb => e _ _ hb (fun _ z => by cases z)⟩
theorem IsL.upd {k : Nat} {x : Option Str} {H : Hp} {v : V} {fa : Addr} {ys : List V} {o : HO} (hf : H fa = some (.lst ys)) (h : IsL k x H v) : IsL k x (L2.upd H fa o) v := by
  obtain ⟨ff, cc, dV, rfl, h1, h2, h3⟩ := h
  refine ⟨ff, cc, dV, rfl, ?_, ?_, h3.ext fun b xs hb => ?_⟩
  · rw [upd_ne (fun z => by rw [z, hf] at h1; cases h1)]
    exact h1
  · rw [upd_ne (fun z => by rw [z, hf] at h2; cases h2)]
    exact h2
  · rw [upd_ne (fun z => by rw [z, hf] at hb; cases hb)]
    exact hb
def FL (a r pa wa ta fa : Addr) (n : Nat) : L2.St → Hp → Prop := fun σ H => ∃ y2 y3 y8 y9 y10 y11 y12 : Option V, σ = [some (.ref a), some (.ref r), y2, y3, some (.ref pa), some (.ref wa), some (.ref ta), some (.ref fa), y8, y9, y10, y11, y12] ∧ H fa = some (.lst (List.replicate n (.bl true)))
theorem rep_more (n : Nat) : List.replicate n (V.bl true) ++ [.bl true] = List.replicate (n + 1) (V.bl true) := by
  rw [List.replicate_succ']
section
variable {P : Program} {w : World} {K : PySem.W.Frag} {mg : Str → Option Value} {base : Heap}
local macro_rules | `(tactic| walk_at "cl") => `(tactic| first | (refine le_only ?_; omega) | (refine lt_only ?_; omega))
set_option maxHeartbeats 0 in
theorem ok_law {CI CN CP CW CE f cL PL : Addr} {fd : FuncData} (T : Txt K mg) (TI : ExcCls K mg "InvalidText" CI) (TN : ExcCls K mg "NotText" CN) (TP : ExcCls K mg "BadPaper" CP) (TW : ExcCls K mg "BadWalker" CW) (FI : ExcInit1 P w K mg base CI "place") (gW : mg "WalkError" = some (.ref CE)) (hxI : PySem.W.exmOne K (.ref CI) (.ref CE) = some true) (hxN : PySem.W.exmOne K (.ref CN) (.ref CE) = some true) (hxP : PySem.W.exmOne K (.ref CP) (.ref CE) = some true) (hxW : PySem.W.exmOne K (.ref CW) (.ref CE) = some true) (F : FunC K "law" "law" s_law f fd cL) (TB : LamX.TabB base mg cL PL) (C_law_pick : Cal P w K mg base CX0 "_law_pick" 2 ["row", "things"] (spPick K)) (C_law_taken : Cal P w K mg base CX0 "_law_taken" 1 ["row", "many"] (spTaken K)) (C_law_signed : Cal P w K mg base CX0 "_law_signed" 2 ["row", "most"] (spSigned K)) (C_law_alike : Cal P w K mg base CX0 "_law_alike" 6 ["found", "due"] (spAlike K 5))
    (C_write_paper : Cal P w K mg base (L2.CX P w) "write_paper" 3 ["paper"] (spWriteP K CP)) (C_write_walker : Cal P w K mg base (L2.CX P w) "write_walker" 5 ["walker"] (spWriteW K CW)) (C_read_paper : Cal P w K mg base (L2.CX P w) "read_paper" 3 ["text"] (spReadP K CN CI)) (C_read_walker : Cal P w K mg base (L2.CX P w) "read_walker" 4 ["text"] (spReadW K CN CI)) : FnOk P w K mg base CX0 7 f fd ["script"] (spLawL K PL) := by
  refine F.ok sc_law (fun vs H Q E h => ?_) (fun A outer s H vs Q E hr h => ?_)
  · obtain ⟨a, ns, rfl, _⟩ := h
    rfl
  · obtain ⟨a, ns, rfl, hS, hP, q⟩ := h
    refine ⟨_, (pss_cons (ps_set (i := 1) sc_law.nd rfl (Or.inl rfl) (pe_lst (pa_cons (pv 0) (pa_cons pe_int (pa_cons pe_int (pa_cons pe_int pa_nil))))))
      (pss_cons (ps_par (i := 2) (j := 3) (by rfl) sc_law.nd rfl rfl (by decide) rfl rfl (pa_cons (pe_own C_law_taken hr (by first | decide | omega) (pa_cons (pv 1) (pa_cons pe_int pa_nil))) (pa_cons (pe_op op_add pe_int (pe_own C_law_taken hr (by first | decide | omega) (pa_cons (pv 1) (pa_cons pe_int pa_nil)))) pa_nil)) (by rfl))
      (pss_cons (ps_set (i := 4) sc_law.nd rfl (Or.inl rfl) (pe_own C_law_pick hr (by first | decide | omega) (pa_cons (pv 1) (pa_cons (pe_lst (pa_cons (pe_tup (pa_cons pe_str (pa_cons (pv 2) pa_nil))) (pa_cons (pe_tup (pa_cons pe_str (pa_cons (pv 2) (pa_cons (pv 3) pa_nil)))) (pa_cons (pe_tup (pa_cons pe_str (pa_cons pe_int (pa_cons (pv 3) pa_nil)))) pa_nil)))) pa_nil))))
      (pss_cons (ps_set (i := 5) sc_law.nd rfl (Or.inl rfl) (pe_tup (pa_cons (pe_own C_law_signed hr (by first | decide | omega) (pa_cons (pv 1) (pa_cons (pe_op op_shl pe_int pe_int) pa_nil))) (pa_cons (pe_own C_law_signed hr (by first | decide | omega) (pa_cons (pv 1) (pa_cons pe_int pa_nil))) (pa_cons (pe_own C_law_taken hr (by first | decide | omega) (pa_cons (pv 1) (pa_cons pe_int pa_nil))) (pa_cons (pe_own C_law_taken hr (by first | decide | omega) (pa_cons (pv 1) (pa_cons pe_int pa_nil))) pa_nil))))))
      (pss_cons (ps_set (i := 6) sc_law.nd rfl (Or.inl rfl) (pe_lst (pa_cons (pe_m1 PySem.F.slot_str_join PySem.F.type_str_join (k_mt_join (K := K)) pe_str (pe_op op_cat (pe_lst (pa_cons (pe_ix (k_ix_tup (K := K)) (pv 4) pe_int (fun _ _ => rfl)) pa_nil)) (pe_lc (own := [("one", 12)]) (g := gName 12) rfl sc_law.nd (k_pi_tup (K := K) (pe_slice (k_sl_tup (K := K)) (pv 4) (po_some pe_int) po_none)) (blkOk_by (by rfl)) (fun _ _ _ _ _ => (pg_name (i := 12) sc_law.nd rfl (Or.inl rfl))) (fun _ _ _ _ _ => pts_nil) (fun _ _ _ _ _ => (pe_callTy cr_strV (by rfl) T.m_str (by decide +kernel) (pa_cons (pv 12) pa_nil)))))) (pa_cons (pe_m1 PySem.F.slot_str_join PySem.F.type_str_join (k_mt_join (K := K)) pe_str (pe_lc (own := [("one", 12)]) (g := gName 12) rfl sc_law.nd (k_pi_tup (K := K) (pv 5)) (blkOk_by (by rfl)) (fun _ _ _ _ _ => (pg_name (i := 12) sc_law.nd rfl (Or.inl rfl))) (fun _ _ _ _ _ => pts_nil) (fun _ _ _ _ _ => (pe_callTy cr_strV (by rfl) T.m_str (by decide +kernel) (pa_cons (pv 12) pa_nil))))) pa_nil))))
      (pss_cons (ps_if (pt_not (pt_val (pe_own C_law_alike hr (by first | decide | omega) (pa_cons (pe_lst (pa_cons (pe_ownL C_write_paper hr (by decide) (pa_cons (pv 4) pa_nil)) (pa_cons (pe_ownL C_write_walker hr (by decide) (pa_cons (pv 5) pa_nil)) pa_nil))) (pa_cons (pv 6) pa_nil))))) (pss_one (ps_ret pe_bl)) pss_nil)
      (pss_cons (ps_if (pt_not (pt_val (pe_own C_law_alike hr (by first | decide | omega) (pa_cons (pe_lst (pa_cons (pe_ownL C_read_paper hr (by decide) (pa_cons (pe_ix (k_ix_list (K := K)) (pv 6) pe_int (fun _ _ => rfl)) pa_nil)) (pa_cons (pe_ownL C_read_walker hr (by decide) (pa_cons (pe_ix (k_ix_list (K := K)) (pv 6) pe_int (fun _ _ => rfl)) pa_nil)) pa_nil))) (pa_cons (pe_lst (pa_cons (pv 4) (pa_cons (pv 5) pa_nil))) pa_nil))))) (pss_one (ps_ret pe_bl)) pss_nil)
      (pss_cons (ps_set (i := 7) sc_law.nd rfl (Or.inl rfl) (pe_lst pa_nil))
      (pss_cons (ps_for PassesOwn.never rfl (k_pi_list (K := K) (pe_lst (pa_cons pe_str (pa_cons pe_str (pa_cons pe_str (pa_cons pe_str (pa_cons pe_str (pa_cons pe_str (pa_cons pe_str (pa_cons pe_str (pa_cons pe_str (pa_cons pe_str (pa_cons pe_str pa_nil))))))))))))) (pg_name (i := 8) sc_law.nd rfl (Or.inl rfl))
      (pss_one (ps_try_as (i := 9) (tb := fun W => tDrop (tCallS (spReadP K CN CI) (WE W) (tCons (tVar 8) tNil))) (ts := fun a cls d => tDrop (tBM K "list" rAppend (tVar 7) (tCons (tAndV (tCB (rIsEd K mg a cls d) (tCons (tVar 9) (tCons (tC (.ref CI)) tNil))) (tOp rEq (tXf a cls d CI "place" (tVar 9)) (tC (.int 0)))) tNil))) (Wout := fun _ _ _ _ => False) rfl rfl sc_law.nd rfl rfl ⟨rfl, by decide, .inl gW⟩ takes0 (fun W pn xe tk _ => pss_one (ps_expr (by exact (pe_ownS C_read_paper tk hr (by decide) (by exact (pa_cons (pv 8) pa_nil)))))) (fun a oe cls d pn hz hf => pss_one (ps_expr (by exact (pe_bm PySem.F.plainAttrs_list PySem.F.slot_list_append PySem.F.type_list_append mt_append (pv 7) (pa_cons (pe_and (pe_callB (call_isEd hz hf) (by rfl) T.m_isinstance (by decide +kernel) (pa_cons (pv 9) (pa_cons (pe_glob (by rfl) TI.gC rfl) pa_nil))) (pe_one (pe_cmpR op_eq (pe_xf TI.xf FI.no hz hf (pv 9)) pe_int (nomark _)))) pa_nil))))))))
      (pss_cons (ps_for PassesOwn.never rfl (k_pi_list (K := K) (pe_lst (pa_cons pe_str (pa_cons pe_str (pa_cons pe_str (pa_cons pe_str (pa_cons pe_str (pa_cons pe_str (pa_cons pe_str (pa_cons (pe_op op_add_str (pe_op op_add_str pe_str (pe_op op_zeros pe_str pe_int)) pe_str) (pa_cons pe_str pa_nil))))))))))) (pg_name (i := 8) sc_law.nd rfl (Or.inl rfl))
      (pss_one (ps_try_as (i := 9) (tb := fun W => tDrop (tCallS (spReadW K CN CI) (WE W) (tCons (tVar 8) tNil))) (ts := fun a cls d => tDrop (tBM K "list" rAppend (tVar 7) (tCons (tAndV (tCB (rIsEd K mg a cls d) (tCons (tVar 9) (tCons (tC (.ref CI)) tNil))) (tOp rEq (tXf a cls d CI "place" (tVar 9)) (tC (.int 0)))) tNil))) (Wout := fun _ _ _ _ => False) rfl rfl sc_law.nd rfl rfl ⟨rfl, by decide, .inl gW⟩ takes0 (fun W pn xe tk _ => pss_one (ps_expr (by exact (pe_ownS C_read_walker tk hr (by decide) (by exact (pa_cons (pv 8) pa_nil)))))) (fun a oe cls d pn hz hf => pss_one (ps_expr (by exact (pe_bm PySem.F.plainAttrs_list PySem.F.slot_list_append PySem.F.type_list_append mt_append (pv 7) (pa_cons (pe_and (pe_callB (call_isEd hz hf) (by rfl) T.m_isinstance (by decide +kernel) (pa_cons (pv 9) (pa_cons (pe_glob (by rfl) TI.gC rfl) pa_nil))) (pe_one (pe_cmpR op_eq (pe_xf TI.xf FI.no hz hf (pv 9)) pe_int (nomark _)))) pa_nil))))))))
      (pss_cons (ps_for PassesOwn.never rfl (k_pi_list (K := K) (pe_lst (pa_cons pe_non (pa_cons pe_int (pa_cons (pe_tup (pa_cons pe_str pa_nil)) (pa_cons (pe_tup (pa_cons pe_str (pa_cons pe_int pa_nil))) (pa_cons (pe_lst (pa_cons pe_str (pa_cons pe_int pa_nil))) pa_nil))))))) (pg_name (i := 10) sc_law.nd rfl (Or.inl rfl))
      (pss_one (ps_try_as (i := 9) (tb := fun W => tDrop (tCallS (spWriteP K CP) (WE W) (tCons (tVar 10) tNil))) (ts := fun a cls d => tDrop (tBM K "list" rAppend (tVar 7) (tCons (tCB (rIsEd K mg a cls d) (tCons (tVar 9) (tCons (tC (.ref CP)) tNil))) tNil))) (Wout := fun _ _ _ _ => False) rfl rfl sc_law.nd rfl rfl ⟨rfl, by decide, .inl gW⟩ takes0 (fun W pn xe tk _ => pss_one (ps_expr (by exact (pe_ownS C_write_paper tk hr (by decide) (by exact (pa_cons (pv 10) pa_nil)))))) (fun a oe cls d pn hz hf => pss_one (ps_expr (by exact (pe_bm PySem.F.plainAttrs_list PySem.F.slot_list_append PySem.F.type_list_append mt_append (pv 7) (pa_cons (pe_callB (call_isEd hz hf) (by rfl) T.m_isinstance (by decide +kernel) (pa_cons (pv 9) (pa_cons (pe_glob (by rfl) TP.gC rfl) pa_nil))) pa_nil))))))))
      (pss_cons (ps_for PassesOwn.never rfl (k_pi_list (K := K) (pe_lst (pa_cons pe_non (pa_cons (pe_tup (pa_cons pe_int (pa_cons pe_int (pa_cons pe_int pa_nil)))) (pa_cons (pe_tup (pa_cons pe_int (pa_cons pe_int (pa_cons pe_int (pa_cons pe_int pa_nil))))) (pa_cons (pe_tup (pa_cons pe_bl (pa_cons pe_int (pa_cons pe_int (pa_cons pe_int pa_nil))))) (pa_cons (pe_tup (pa_cons (pe_op op_shl pe_int pe_int) (pa_cons pe_int (pa_cons pe_int (pa_cons pe_int pa_nil))))) pa_nil))))))) (pg_name (i := 10) sc_law.nd rfl (Or.inl rfl))
      (pss_one (ps_try_as (i := 9) (tb := fun W => tDrop (tCallS (spWriteW K CW) (WE W) (tCons (tVar 10) tNil))) (ts := fun a cls d => tDrop (tBM K "list" rAppend (tVar 7) (tCons (tCB (rIsEd K mg a cls d) (tCons (tVar 9) (tCons (tC (.ref CW)) tNil))) tNil))) (Wout := fun _ _ _ _ => False) rfl rfl sc_law.nd rfl rfl ⟨rfl, by decide, .inl gW⟩ takes0 (fun W pn xe tk _ => pss_one (ps_expr (by exact (pe_ownS C_write_walker tk hr (by decide) (by exact (pa_cons (pv 10) pa_nil)))))) (fun a oe cls d pn hz hf => pss_one (ps_expr (by exact (pe_bm PySem.F.plainAttrs_list PySem.F.slot_list_append PySem.F.type_list_append mt_append (pv 7) (pa_cons (pe_callB (call_isEd hz hf) (by rfl) T.m_isinstance (by decide +kernel) (pa_cons (pv 9) (pa_cons (pe_glob (by rfl) TW.gC rfl) pa_nil))) pa_nil))))))))
      (pss_cons (ps_for PassesOwn.never rfl (k_pi_list (K := K) (pe_lst (pa_cons (pe_lammk0 (q := (Str.ofString "law.<locals>.<lambda>")) (cl := []) TB rfl (by exact lamD0) rfl) (pa_cons (pe_lammk1 (x := "a") (q := (Str.ofString "law.<locals>.<lambda>")) (cl := []) TB rfl (by exact lamD1) rfl rfl pe_int) pa_nil)))) (pg_name (i := 11) sc_law.nd rfl (Or.inl rfl))
      (pss_one (ps_try_as (i := 9) (tb := fun W => tDrop (fun σ H Q => (tLamRun (Str.ofString "law.<locals>.<lambda>") [] 11 (lamA (itemOf lamL 0)) (lamE (itemOf lamL 0)) (lamC (itemOf lamL 0)) none (fun E => (tCallS (spReadP K CN CI) (fun _ => E) (tCons (tC .non) tNil))) W) σ H Q ∨ (tLamRun (Str.ofString "law.<locals>.<lambda>") [] 11 (lamA (itemOf lamL 1)) (lamE (itemOf lamL 1)) (lamC (itemOf lamL 1)) (some "a") (fun E => (tCallS (spReadW K CN CI) (fun _ => E) (tCons (tC (.int 5)) tNil))) W) σ H Q)) (ts := fun a cls d => tDrop (tBM K "list" rAppend (tVar 7) (tCons (tCB (rIsEd K mg a cls d) (tCons (tVar 9) (tCons (tC (.ref CN)) tNil))) tNil))) (Wout := fun _ _ _ _ => False) rfl rfl sc_law.nd rfl rfl ⟨rfl, by decide, .inl gW⟩ takes0 (fun W pn xe tk _ => pss_one (ps_expr (by exact (pe_either (pe_lamrun (params := lamA (itemOf lamL 0)) (body := lamE (itemOf lamL 0)) (scope := lamC (itemOf lamL 0)) (x := none) tk hr (by exact lamD0) (by exact fun _ _ _ _ _ _ => rfl) (fun A2 outer2 s2 H2 E2 ff cc hr2 => by exact (pe_ownS C_read_paper (takes_of rfl rfl rfl rfl) hr2 (by decide) (by exact (pa_cons pe_non pa_nil)))) rfl (.inl rfl)) (pe_lamrun (params := lamA (itemOf lamL 1)) (body := lamE (itemOf lamL 1)) (scope := lamC (itemOf lamL 1)) (x := (some "a")) tk hr (by exact lamD1) (by exact ⟨rfl, fun _ _ _ _ _ _ _ => ⟨_, rfl, fun _ => rfl⟩⟩) (fun A2 outer2 s2 H2 E2 ff cc hr2 => by exact (pe_ownS C_read_walker (takes_of rfl rfl rfl rfl) hr2 (by decide) (by exact (pa_cons pe_int pa_nil)))) rfl (.inl rfl)))))) (fun a oe cls d pn hz hf => pss_one (ps_expr (by exact (pe_bm PySem.F.plainAttrs_list PySem.F.slot_list_append PySem.F.type_list_append mt_append (pv 7) (pa_cons (pe_callB (call_isEd hz hf) (by rfl) T.m_isinstance (by decide +kernel) (pa_cons (pv 9) (pa_cons (pe_glob (by rfl) TN.gC rfl) pa_nil))) pa_nil))))))))
      (pss_one (ps_ret (pe_and (pe_cmpR op_eq (pe_callB (k_len_l (K := K)) (by rfl) T.m_len (by decide +kernel) (pa_cons (pv 7) pa_nil)) pe_int (nomark _)) (pe_one (pe_cmpR op_notIn_seq pe_bl (pv 7) (by rfl))))))))))))))))))), ?_⟩
    walk_at "st"
    intro r nr
    have R0 : Row K (upd H r (.lst [.ref a, .int 0, .int 11115, .int 0])) r := ⟨a, ns, 0, 11115, 0, upd_same, hS.mono (TK.new nr), by decide, by decide, by decide, by decide⟩
    have hP0 : (upd H r (.lst [.ref a, .int 0, .int 11115, .int 0])) PL = some (.tbl #[]) := by
      rw [upd_ne (ne_of_none hP nr)]
      exact hP
    have nPr : PL ≠ r := ne_of_none hP nr
    generalize hH0 : upd H r (.lst [.ref a, .int 0, .int 11115, .int 0]) = H0 at *
    refine gname_seq ?_
    refine seq_assoc ?_
    refine seq_assoc ?_
    refine seq_assoc ?_
    rw [show L2.start ["script", "row", "first", "period", "paper", "walker", "texts", "found", "some", "error", "value", "work", "one"] [V.ref a] = [some (V.ref a), none, none, none, none, none, none, none, none, none, none, none, none] from rfl]
    simp only [List.set_cons_zero, List.set_cons_succ]
    refine seq_cutO (fun σ' H' => ∃ (y2 y3 : Option V) (pa wa ta : Addr) (z : Str) (ys ks : List Int), σ' = [some (.ref a), some (.ref r), y2, y3, some (.ref pa), some (.ref wa), some (.ref ta), none, none, none, none, none, none] ∧ H' pa = some (.tup (.str z :: ys.map V.int)) ∧ H' wa = some (.tup (ks.map V.int)) ∧ H' ta = some (.lst [.str (Txt.join (Str.ofString " ") (z :: ys.map numS)), .str (Txt.join (Str.ofString " ") (ks.map numS))]) ∧ H' PL = some (.tbl #[]) ∧ PapN z ys ∧ WlkN ks) ?_ ?_
    rotate_left
    -- <A
    · intro R hR
      clear hS hP hH0 nr
      walk_at "st"
      intro v1 H1 v10 v11 R1 k1
      walk_at "st"
      intro v2 H2 v20 v21 R2 k2
      have hP2 := k2 _ _ nPr (k1 _ _ nPr hP0)
      refine ⟨_, _, rfl, rfl, ?_⟩
      refine ⟨_, _, rfl, ?_⟩
      simp only [List.set_cons_zero, List.set_cons_succ]
      generalize ep : 1 + v2 = per at *
      have p0 : 1 ≤ per := by omega
      have p1 : per ≤ 2000 := by omega
      clear ep v20 v21 k1 k2 R0 R1 hP0 H0 H1
      walk_at "st"
      intro a1 n1
      walk_at "st"
      intro a2 n2
      walk_at "st"
      intro a3 n3
      walk_at "st"
      intro q3 nq3
      have s1 : Same H2 (upd H2 a1 (.tup [.str "stops", .int v1])) := Same.new n1
      have h1 : (upd H2 a1 (.tup [.str "stops", .int v1])) a1 = some (.tup [.str "stops", .int v1]) := upd_same
      generalize hE1 : upd H2 a1 (.tup [.str "stops", .int v1]) = E1 at *
      have s2 : Same E1 (upd E1 a2 (.tup [.str "round", .int v1, .int per])) := Same.new n2
      have h2 : (upd E1 a2 (.tup [.str "round", .int v1, .int per])) a2 = some (.tup [.str "round", .int v1, .int per]) := upd_same
      generalize hE2 : upd E1 a2 (.tup [.str "round", .int v1, .int per]) = E2 at *
      have s3 : Same E2 (upd E2 a3 (.tup [.str "street", .int 0, .int per])) := Same.new n3
      have h3 : (upd E2 a3 (.tup [.str "street", .int 0, .int per])) a3 = some (.tup [.str "street", .int 0, .int per]) := upd_same
      generalize hE3 : upd E2 a3 (.tup [.str "street", .int 0, .int per]) = E3 at *
      have s4 : Same E3 (upd E3 q3 (.lst [.ref a1, .ref a2, .ref a3])) := Same.new nq3
      have hq3 : (upd E3 q3 (.lst [.ref a1, .ref a2, .ref a3])) q3 = some (.lst [.ref a1, .ref a2, .ref a3]) := upd_same
      generalize hE4 : upd E3 q3 (.lst [.ref a1, .ref a2, .ref a3]) = E4 at *
      have R4 := R2.same (Same.trans s1 (Same.trans s2 (Same.trans s3 s4)))
      have hP4 := Same.trans s1 (Same.trans s2 (Same.trans s3 s4)) _ _ hP2
      have g1 := Same.trans s2 (Same.trans s3 s4) _ _ h1
      have g2 := Same.trans s3 s4 _ _ h2
      have g3 := s4 _ _ h3
      have ne3 : q3 ≠ r := by
        obtain ⟨xs, e⟩ := (R2.same (Same.trans s1 (Same.trans s2 s3))).lst
        exact (ne_of_none e nq3).symm
      clear hE1 hE2 hE3 hE4 s1 s2 s3 s4 h1 h2 h3 n1 n2 n3 nq3 hP2 R2
      walk_at "st"
      intro v H5 kk hkk R5 k5
      have tE := k5.row R4
      have hP5 := k5 _ _ nPr hP4
      obtain ⟨pa, z, ys, rfl, hpa, pn⟩ : ∃ (pa : Addr) (z : Str) (ys : List Int), v = .ref pa ∧ H5 pa = some (.tup (.str z :: ys.map V.int)) ∧ PapN z ys := by
        match kk, hkk with
        | 0, h => exact ⟨a1, _, [v1], (Option.some.inj h).symm, tE.tup _ _ g1, papN0 v10 (by omega)⟩
        | 1, h => exact ⟨a2, _, [v1, per], (Option.some.inj h).symm, tE.tup _ _ g2, papN1 v10 (by omega) p0 p1⟩
        | 2, h => exact ⟨a3, _, [0, per], (Option.some.inj h).symm, tE.tup _ _ g3, papN2 p0 p1⟩
        | k + 3, h => exact absurd h (by simp)
      clear hkk g1 g2 g3 hq3 ne3 R4 hP4 k5 tE v10 v11 p0 p1 E1 E2 E3 E4
      have cp : CPow 1 199 := ⟨by decide, by decide, by decide⟩
      have m0 : (0 : Int) ≤ 1 * 2 ^ (199 : Int).toNat := by decide +kernel
      have m1 : (1 : Int) * 2 ^ (199 : Int).toNat < 2 ^ 200 := by decide +kernel
      walk_at "st"
      intro x H6 x0 x1 R6 k6
      walk_at "st"
      intro y H7 y0 y1 R7 k7
      walk_at "st"
      intro h H8 h0 h4 R8 k8
      walk_at "st"
      intro t H9 t0 t4 R9 k9
      walk_at "st"
      intro wa nwa
      have x0 : -(2 ^ 199) ≤ x := x0
      have x1 : x ≤ 2 ^ 199 := by
        have := x1
        rw [show (1 : Int) * 2 ^ (199 : Int).toNat = 2 ^ 199 from by decide +kernel] at this
        exact this
      have wn := wlkN x0 x1 y0 y1 h0 h4 t0 t4
      have k59 : KeepB r H5 H9 := ((k6.trans k7).trans k8).trans k9
      have t59 := k59.row R5
      have hpa9 := t59.tup _ _ hpa
      have hP9 := k59 _ _ nPr hP5
      have s10 : Same H9 (upd H9 wa (.tup [.int x, .int y, .int h, .int t])) := Same.new nwa
      have hwa10 : (upd H9 wa (.tup [.int x, .int y, .int h, .int t])) wa = some (.tup [.int x, .int y, .int h, .int t]) := upd_same
      generalize hEA : upd H9 wa (.tup [.int x, .int y, .int h, .int t]) = HA at *
      have hpaA := s10 _ _ hpa9
      have hPA := s10 _ _ hP9
      clear m0 m1 cp hpa hP5 R5 k6 k7 k8 k9 R6 R7 R8 R9 k59 t59 hpa9 hP9 s10 hEA nwa x0 x1 y0 y1 h0 h4 t0 t4
      have hpT : SqT K HA pa (.str z :: ys.map V.int) := SqT.of hpaA
      have hz0 : atI (V.str z :: ys.map V.int) (0 : Int) = some (V.str z) := at0
      walk_at "st"
      intro L nL
      have sL : Same HA (upd HA L (.lst [.str z])) := Same.new nL
      have hL : (upd HA L (.lst [.str z])) L = some (.lst [.str z]) := upd_same
      generalize hEB : upd HA L (.lst [.str z]) = HB at *
      have hpT := TK.seqT (Same.tk sL) hpT
      have sln := slN1 (V.str z) (ys.map V.int)
      walk_at "st"
      intro p np
      rw [cut1]
      have sp : Same HB (upd HB p (.tup (ys.map V.int))) := Same.new np
      have hp : SqT K (upd HB p (.tup (ys.map V.int))) p (ys.map V.int) := SqT.of upd_same
      generalize hEC : upd HB p (.tup (ys.map V.int)) = HC at *
      have sAC := Same.trans sL sp
      refine ⟨p, rfl, ⟨_, hp⟩, fun D nD => ?_⟩
      refine lc_it (walk_tup (K := K) (a := p) (xs := ys.map V.int)) (fun j H' => Ok (Same HC H' ∧ H' D = some (.lst (((ys.take j).map numS).map V.str)))) ⟨Same.new nD, upd_same⟩ (fun j H' _ ⟨sm, _⟩ => TK.seqT (Same.tk sm) hp) ?_ ?_
      · rintro j u H2 H3 hj ⟨sm, hD⟩ ⟨rfl, hx⟩
        rw [List.getElem?_map] at hx
        obtain ⟨i, hi, rfl⟩ := Option.map_eq_some_iff.mp hx
        have tk1 := take_more hi
        have lt : (((ys.take j).map numS).map V.str).length < sizeLine := by
          rw [List.length_map, List.length_map, List.length_take]
          have := pn.len
          exact small1000 (by omega)
        walk_at "st"
        exact .inr ⟨i, rfl, log61 (pn.big i (List.mem_of_getElem? hi)), _, hD, lt, ⟨Same.fresh sm nD, by rw [upd_same, tk1, List.map_append, List.map_append]; rfl⟩⟩
      · rintro HD ⟨sm, hD⟩
        rw [List.length_map, List.take_length] at hD
        have hLD := sm _ _ (sp _ _ hL)
        have sAD := Same.trans sAC sm
        have hwaD : SqT K HD wa [.int x, .int y, .int h, .int t] := SqT.of (sAD _ _ hwa10)
        walk_at "st"
        refine ⟨by rw [List.length_map, List.length_map]; have := pn.len; exact small_le (by show 1 + ys.length ≤ 1000; omega), fun p2 np2 => ?_⟩
        have s2 : Same HD (upd HD p2 (.lst ([V.str z] ++ (ys.map numS).map V.str))) := Same.new np2
        have hp2 : SqL K (upd HD p2 (.lst ([V.str z] ++ (ys.map numS).map V.str))) p2 ((z :: ys.map numS).map V.str) := SqL.of upd_same
        generalize hEF : upd HD p2 (.lst ([V.str z] ++ (ys.map numS).map V.str)) = HF at *
        have sz1 := join_sz pn.its (by rw [List.length_cons, List.length_map]; have := pn.len; omega)
        rw [txt_pap] at sz1
        refine ⟨_, p2, z :: ys.map numS, rfl, rfl, .inl hp2, sz1, ?_⟩
        have sAF := Same.trans sAD s2
        have hwaF : SqT K HF wa ([x, y, h, t].map V.int) := SqT.of (sAF _ _ hwa10)
        have hwaF' := sAF _ _ hwa10
        have hwaF' : HF wa = some (.tup (([x, y, h, t] : List Int).map V.int)) := hwaF'
        clear hwa10 hwaD
        generalize eks : [x, y, h, t] = ks at *
        refine ⟨⟨_, rfl⟩, _, rfl, wa, rfl, ⟨_, hwaF⟩, fun D2 nD2 => ?_⟩
        refine lc_it (walk_tup (K := K) (a := wa) (xs := ks.map V.int)) (fun j H' => Ok (Same HF H' ∧ H' D2 = some (.lst (((ks.take j).map numS).map V.str)))) ⟨Same.new nD2, upd_same⟩ (fun j H' _ ⟨sm, _⟩ => TK.seqT (Same.tk sm) hwaF) ?_ ?_
        · rintro j u H2 H3 hj ⟨sm, hD⟩ ⟨rfl, hx⟩
          rw [List.getElem?_map] at hx
          obtain ⟨i, hi, rfl⟩ := Option.map_eq_some_iff.mp hx
          have tk1 := take_more hi
          have lt : (((ks.take j).map numS).map V.str).length < sizeLine := by
            rw [List.length_map, List.length_map, List.length_take]
            have := wn.len
            exact small1000 (by omega)
          walk_at "st"
          exact .inr ⟨i, rfl, log61 (wn.big i (List.mem_of_getElem? hi)), _, hD, lt, ⟨Same.fresh sm nD2, by rw [upd_same, tk1, List.map_append, List.map_append]; rfl⟩⟩
        · rintro HG ⟨sm2, hD2⟩
          rw [List.length_map, List.take_length] at hD2
          have hSD2 := SqL.of (K := K) hD2
          have sz2 := join_sz wn.its (by rw [List.length_map]; have := wn.len; omega)
          rw [txt_wlk] at sz2
          refine ⟨_, D2, ks.map numS, rfl, rfl, .inl hSD2, sz2, ?_⟩
          walk_at "st"
          intro ta nta
          have st : Same HG (upd HG ta (.lst [.str (Txt.join (Str.ofString " ") (z :: ys.map numS)), .str (Txt.join (Str.ofString " ") (ks.map numS))])) := Same.new nta
          have sAll := Same.trans sAF (Same.trans sm2 st)
          have sFl := Same.trans sm2 st
          refine gname_of ?_
          exact hR _ _ ⟨some (.int v1), some (.int per), pa, wa, ta, z, ys, ks, rfl, sAll _ _ hpaA, sFl _ _ hwaF', upd_same, sAll _ _ hPA, pn, wn⟩
    -- >A
    · rintro σ' H1 ⟨y2, y3, pa, wa, ta, z, ys, ks, rfl, hpa, hwa, hta, hP1, pn, wn⟩
      clear hS hP hH0 nr R0 hP0
      refine seq_ifs false (fun e _ _ => by cases e) (fun _ H' sm => ?_) (fun Q hQ => ?_)
      rotate_left
      · walk_at "st"
        rotate_left
        · exact true
        refine ⟨.inr (.inr (.inr ⟨pa, z, ys.map V.int, rfl, SqT.of hpa, by rw [List.length_cons, List.length_map]; have := pn.len; omega, pn.scal, pn.ok.symm⟩)), fun _ => ⟨pa, _, rfl, SqT.of hpa, by rw [List.length_cons, List.length_map]; have := pn.len; omega, pn.its, fun H2 s2 => ?_⟩, fun e => by cases e⟩
        have hwa2 := s2 _ _ hwa
        rw [txt_pap]
        walk_at "st"
        rotate_left
        · exact true
        refine ⟨.inr (.inr (.inr ⟨wa, ks.map V.int, rfl, SqT.of hwa2, by rw [List.length_map, wn.len]; decide, scalInts, wn.ok.symm⟩)), fun _ => ⟨wa, _, rfl, SqT.of hwa2, by rw [List.length_map, wn.len]; decide, wn.its, fun H3 s3 => ?_⟩, fun e => by cases e⟩
        rw [txt_wlk]
        have hta3 := s3 _ _ (s2 _ _ hta)
        walk_at "st"
        intro p np
        walk_at "st"
        rotate_left
        · exact .list [.str (Txt.join (Str.ofString " ") (z :: ys.map numS)), .str (Txt.join (Str.ofString " ") (ks.map numS))]
        refine ⟨.lst (SqL.of upd_same) (.cons (.str _) (.cons (.str _) .nil)), .lst (SqL.of ((Same.new np) _ _ hta3)) (.cons (.str _) (.cons (.str _) .nil)), ⟨by show 2 ≤ 5000; decide, fun d hd => ?_⟩, fun H4 s4 => ⟨_, rfl, hQ _ (Same.trans s2 (Same.trans s3 (Same.trans (Same.new np) s4)))⟩⟩
        simp only [List.mem_cons, List.not_mem_nil, or_false] at hd
        rcases hd with rfl | rfl <;> exact trivial
      have hpa1 := sm _ _ hpa
      have hwa1 := sm _ _ hwa
      have hta1 := sm _ _ hta
      have hP2 := sm _ _ hP1
      refine next_seq ?_
      clear hpa hwa hta hP1 sm
      refine seq_ifs false (fun e _ _ => by cases e) (fun _ H2 sm2 => ?_) (fun Q hQ => ?_)
      rotate_left
      · walk_at "st"
        have pb := pap_back pn.free pn.big
        have wb := wlk_back (by intro e; have := wn.len; rw [e] at this; cases this) wn.big
        refine .inl ⟨_, rfl, ?_, ?_⟩
        · refine Nat.le_trans (joined (m := 100) fun p hp => ?_) ?_
          · rcases List.mem_cons.mp hp with rfl | hp
            · exact pn.zl
            · exact Nat.le_trans (num_lens pn.big p hp) (by decide)
          · rw [List.length_cons, List.length_map]
            have := pn.len
            omega
        · rw [pb]
          refine ⟨fun _ p H3 np hp s3 => ?_, fun e => by rw [pn.ok] at e; cases e⟩
          have hta3 := s3 _ _ hta1
          walk_at "st"
          refine .inl ⟨_, rfl, ?_, ?_⟩
          · refine Nat.le_trans (joined (m := 62) (num_lens wn.big)) ?_
            rw [List.length_map, wn.len]
            decide
          · rw [wb]
            refine ⟨fun _ p2 H4 np2 hp2 s4 => ?_, fun e => by rw [wn.ok] at e; cases e⟩
            walk_at "st"
            intro q1 nq1
            walk_at "st"
            intro q2 nq2
            walk_at "st"
            have S5 : Same H4 (upd H4 q1 (.lst [.ref p, .ref p2])) := Same.new nq1
            have S6 := Same.new (o := HO.lst [.ref pa, .ref wa]) nq2
            have T1 : SqT K (upd (upd H4 q1 (.lst [.ref p, .ref p2])) q2 (.lst [.ref pa, .ref wa])) p (.str z :: ys.map V.int) := SqT.of (S6 _ _ (S5 _ _ (s4 _ _ hp)))
            have T2 : SqT K (upd (upd H4 q1 (.lst [.ref p, .ref p2])) q2 (.lst [.ref pa, .ref wa])) p2 (ks.map V.int) := SqT.of (S6 _ _ (S5 _ _ hp2))
            have T3 : SqT K (upd (upd H4 q1 (.lst [.ref p, .ref p2])) q2 (.lst [.ref pa, .ref wa])) pa (.str z :: ys.map V.int) := SqT.of (S6 _ _ (S5 _ _ (s4 _ _ (s3 _ _ hpa1))))
            have T4 : SqT K (upd (upd H4 q1 (.lst [.ref p, .ref p2])) q2 (.lst [.ref pa, .ref wa])) wa (ks.map V.int) := SqT.of (S6 _ _ (S5 _ _ (s4 _ _ (s3 _ _ hwa1))))
            have dz : DpAll K (upd (upd H4 q1 (.lst [.ref p, .ref p2])) q2 (.lst [.ref pa, .ref wa])) (.str z :: ys.map V.int) (.str z :: ys.map PyData.int) := .cons (.str z) (dpInts ys)
            rotate_left
            · exact .list [.tuple (.str z :: ys.map PyData.int), .tuple (ks.map PyData.int)]
            refine ⟨.lst (SqL.of (S6 _ _ upd_same)) (.cons (.tup T1 dz) (.cons (.tup T2 (dpInts ks)) .nil)), .lst (SqL.of upd_same) (.cons (.tup T3 dz) (.cons (.tup T4 (dpInts ks)) .nil)), ⟨by show 2 ≤ 5000; decide, fun d hd => ?_⟩, fun H7 s7 => ⟨_, rfl, hQ _ (Same.trans s3 (Same.trans s4 (Same.trans S5 (Same.trans S6 s7))))⟩⟩
            simp only [List.mem_cons, List.not_mem_nil, or_false] at hd
            rcases hd with rfl | rfl
            · refine ⟨by rw [List.length_cons, List.length_map]; have := pn.len; omega, fun d hd => ?_⟩
              rcases List.mem_cons.mp hd with rfl | hd
              · exact trivial
              · exact okInts d hd
            · exact ⟨by rw [List.length_map, wn.len]; decide, fun d hd => okInts d hd⟩
      have hP3 := sm2 _ _ hP2
      refine next_seq ?_
      clear hpa1 hwa1 hta1 hP2 sm2 pn wn
      walk_at "st"
      intro fa nfa
      have hP4 := (Same.new (o := HO.lst []) nfa) _ _ hP3
      have hfa : (upd H2 fa (HO.lst [])) fa = some (HO.lst (List.replicate 0 (.bl true))) := upd_same
      generalize hH5 : upd H2 fa (HO.lst []) = H5 at *
      clear hH5 nfa hP3
      refine gname_seq ?_
      simp only [List.set_cons_zero, List.set_cons_succ]
      have nPf : PL ≠ fa := fun e => by rw [e, hfa] at hP4; cases hP4
      refine seq_cutO (FS a r pa wa ta fa PL 11) ?_ ?_
      rotate_left
      -- <L1
      · intro R hR
        refine for_new (xs := badsP.map V.str) (fun L i σ H' => Ok (FS a r pa wa ta fa PL i σ H' ∧ H' L = some (.lst (badsP.map V.str)))) (fun Q hQ => ?_) (fun L H' hL sm => ⟨⟨_, _, _, _, _, _, _, rfl, sm _ _ hfa, sm _ _ hP4⟩, hL⟩) (fun L i σ H' ⟨_, h⟩ => h) ?_ (fun L σ H' ⟨st, _⟩ => hR _ _ st)
        · walk_at "st"
          intro L nL
          exact hQ _ _ upd_same (Same.new nL)
        · rintro L i x σ H' hx ⟨⟨x2, x3, x8, x9, x10, x11, x12, rfl, hf, hp⟩, hL⟩
          rw [List.getElem?_map] at hx
          obtain ⟨z, hi, rfl⟩ := Option.map_eq_some_iff.mp hx
          obtain ⟨zl, zb⟩ := badP z (List.mem_of_getElem? hi)
          walk_at "st"
          refine .inl ⟨z, rfl, zl, fun e => (by rw [zb] at e; cases e), fun _ d H10 hd s10 => ?_⟩
          refine ⟨true, hxI, fun _ ea na => ?_, fun z => by cases z⟩
          have hkit := kit_self (K := K) (v := Value.ref CI)
          have hdok : DOk (some d) H10 := .inr ⟨d, _, rfl, hd⟩
          have hf2 := s10 _ _ hf
          have hp2 := s10 _ _ hp
          have hL2 := s10 _ _ hL
          have il : i < 11 := (List.getElem?_eq_some_iff.mp hi).1
          have nLf : L ≠ fa := ne_len hL2 hf2 (by rw [List.length_map, List.length_replicate]; show 11 ≠ _; omega)
          have hSf := SqL.of (K := K) hf2
          walk_at "st"
          obtain ⟨g1, g2, g3⟩ := fs_step (n := i) nPf nLf (b := decide (V.int 0 = V.int 0)) (decide_eq_true rfl) hp2 hL2
          exact ⟨by rw [List.length_replicate]; exact small1000 (by omega), ⟨⟨_, _, _, _, _, _, _, rfl, g1, g2⟩, g3⟩⟩
      -- >L1
      · clear hfa hP4 nPf
        rintro σ' H6 ⟨z2, z3, z8, z9, z10, z11, z12, rfl, hfa, hP4⟩
        have nPf : PL ≠ fa := fun e => by rw [e, hfa] at hP4; cases hP4
        refine seq_cutO (FS a r pa wa ta fa PL 20) ?_ ?_
        rotate_left
        -- <L2
        · intro R hR
          refine for_new (xs := badsW.map V.str) (fun L i σ H' => Ok (FS a r pa wa ta fa PL (11 + i) σ H' ∧ H' L = some (.lst (badsW.map V.str)))) (fun Q hQ => ?_) (fun L H' hL sm => ⟨⟨_, _, _, _, _, _, _, rfl, sm _ _ hfa, sm _ _ hP4⟩, hL⟩) (fun L i σ H' ⟨_, h⟩ => h) ?_ (fun L σ H' ⟨st, _⟩ => hR _ _ st)
          · walk_at "st"
            intro L nL
            exact hQ _ _ upd_same (Same.new nL)
          · rintro L i x σ H' hx ⟨⟨x2, x3, x8, x9, x10, x11, x12, rfl, hf, hp⟩, hL⟩
            rw [List.getElem?_map] at hx
            obtain ⟨z, hi, rfl⟩ := Option.map_eq_some_iff.mp hx
            obtain ⟨zl, zb⟩ := badW z (List.mem_of_getElem? hi)
            walk_at "st"
            refine .inl ⟨z, rfl, zl, fun e => (by rw [zb] at e; cases e), fun _ d H10 hd s10 => ?_⟩
            refine ⟨true, hxI, fun _ ea na => ?_, fun z => by cases z⟩
            have hkit := kit_self (K := K) (v := Value.ref CI)
            have hdok : DOk (some d) H10 := .inr ⟨d, _, rfl, hd⟩
            have hf2 := s10 _ _ hf
            have hp2 := s10 _ _ hp
            have hL2 := s10 _ _ hL
            have il : i < 9 := (List.getElem?_eq_some_iff.mp hi).1
            have nLf : L ≠ fa := ne_len hL2 hf2 (by rw [List.length_map, List.length_replicate]; show 9 ≠ _; omega)
            have hSf := SqL.of (K := K) hf2
            walk_at "st"
            obtain ⟨g1, g2, g3⟩ := fs_step (n := 11 + i) nPf nLf (b := decide (V.int 0 = V.int 0)) (decide_eq_true rfl) hp2 hL2
            exact ⟨by rw [List.length_replicate]; exact small1000 (by omega), ⟨⟨_, _, _, _, _, _, _, rfl, g1, g2⟩, g3⟩⟩
        -- >L2
        · clear hfa hP4 nPf
          rintro σ' H7 ⟨z2, z3, z8, z9, z10, z11, z12, rfl, hfa, hP4⟩
          have nPf : PL ≠ fa := fun e => by rw [e, hfa] at hP4; cases hP4
          refine seq_cutO (FS a r pa wa ta fa PL 25) ?_ ?_
          rotate_left
          -- <L3
          · intro R hR
            refine for_newG (G := fun xs H' => xs.length = 5 ∧ ∀ x ∈ xs, BadPV H' x) (fun L xs i σ H' => Ok (FS a r pa wa ta fa PL (20 + i) σ H' ∧ H' L = some (.lst xs) ∧ xs.length = 5 ∧ ∀ x ∈ xs, BadPV H' x)) (fun Q hQ => ?_) (fun L xs H' hL hg sm => ⟨⟨_, _, _, _, _, _, _, rfl, sm _ _ hfa, sm _ _ hP4⟩, hL, hg⟩) (fun L xs i σ H' ⟨_, h, _⟩ => h) ?_ (fun L xs σ H' ⟨st, _, h, _⟩ => hR _ _ (by rw [h] at st; exact st))
            · walk_at "st"
              intro t1 n1
              walk_at "st"
              intro t2 n2
              walk_at "st"
              intro t3 n3
              walk_at "st"
              intro L nL
              have q1 := (Same.new n3 (o := HO.lst [.str "stops", .int 1])) _ _ ((Same.new n2 (o := HO.tup [.str "round", .int 1])) _ _ (upd_same (H := H7) (a := t1) (o := HO.tup [.str "stops"])))
              have q2 := (Same.new n3 (o := HO.lst [.str "stops", .int 1])) _ _ (upd_same (a := t2) (o := HO.tup [.str "round", .int 1]))
              have sL := Same.new (o := HO.lst [.non, .int 5, .ref t1, .ref t2, .ref t3]) nL
              refine hQ L _ _ upd_same ⟨rfl, fun x hx => ?_⟩ (Same.trans (Same.new n1) (Same.trans (Same.new n2) (Same.trans (Same.new n3) sL)))
              simp only [List.mem_cons, List.not_mem_nil, or_false] at hx
              rcases hx with rfl | rfl | rfl | rfl | rfl
              · exact .inl rfl
              · exact .inr (.inl rfl)
              · exact .inr (.inr (.inl ⟨_, rfl, sL _ _ q1⟩))
              · exact .inr (.inr (.inr (.inl ⟨_, rfl, sL _ _ q2⟩)))
              · exact .inr (.inr (.inr (.inr ⟨_, rfl, sL _ _ upd_same⟩)))
            · rintro L xs i x σ H' hx ⟨⟨x2, x3, x8, x9, x10, x11, x12, rfl, hf, hp⟩, hL, hl, hall⟩
              have hb := hall x (List.mem_of_getElem? hx)
              walk_at "st"
              rotate_left
              · exact false
              refine ⟨hb.judged, fun e => (by cases e), fun _ H10 s10 => ?_⟩
              refine ⟨true, hxP, fun _ ea na => ?_, fun z => by cases z⟩
              have hkit := kit_self (K := K) (v := Value.ref CP)
              have hdok : DOk none H10 := .inl rfl
              have hf2 := s10 _ _ hf
              have hp2 := s10 _ _ hp
              have hL2 := s10 _ _ hL
              have il : i < xs.length := (List.getElem?_eq_some_iff.mp hx).1
              have nLf : L ≠ fa := ne_len hL2 hf2 (by rw [hl, List.length_replicate]; omega)
              have hSf := SqL.of (K := K) hf2
              have hall2 := fun y hy => ((hall y hy).same s10).upd (o := .lst (List.replicate (20 + i) (.bl true) ++ [.bl true])) hf2 (by rw [List.length_replicate]; omega)
              walk_at "st"
              obtain ⟨g1, g2, g3⟩ := fs_step (n := 20 + i) nPf nLf (b := true) rfl hp2 hL2
              exact ⟨by rw [List.length_replicate]; exact small1000 (by omega), ⟨⟨_, _, _, _, _, _, _, rfl, g1, g2⟩, g3, hl, hall2⟩⟩
          -- >L3
          · clear hfa hP4 nPf
            rintro σ' H8 ⟨z2, z3, z8, z9, z10, z11, z12, rfl, hfa, hP4⟩
            have nPf : PL ≠ fa := fun e => by rw [e, hfa] at hP4; cases hP4
            refine seq_cutO (FS a r pa wa ta fa PL 30) ?_ ?_
            rotate_left
            -- <L4
            · intro R hR
              refine for_newG (G := fun xs H' => xs.length = 5 ∧ ∀ x ∈ xs, BadWV H' x) (fun L xs i σ H' => Ok (FS a r pa wa ta fa PL (25 + i) σ H' ∧ H' L = some (.lst xs) ∧ xs.length = 5 ∧ ∀ x ∈ xs, BadWV H' x)) (fun Q hQ => ?_) (fun L xs H' hL hg sm => ⟨⟨_, _, _, _, _, _, _, rfl, sm _ _ hfa, sm _ _ hP4⟩, hL, hg⟩) (fun L xs i σ H' ⟨_, h, _⟩ => h) ?_ (fun L xs σ H' ⟨st, _, h, _⟩ => hR _ _ (by rw [h] at st; exact st))
              · walk_at "st"
                intro t1 n1
                walk_at "st"
                intro t2 n2
                walk_at "st"
                intro t3 n3
                have cp2 : CPow 1 200 := ⟨by decide, by decide, by decide⟩
                walk_at "st"
                intro t4 n4
                walk_at "st"
                intro L nL
                have s1 := Same.new (o := HO.tup [.int 0, .int 0, .int 0]) n1
                have s2 := Same.new (o := HO.tup [.int 0, .int 0, .int 0, .int 10]) n2
                have s3 := Same.new (o := HO.tup [.bl true, .int 0, .int 0, .int 0]) n3
                have s4 := Same.new (o := HO.tup [.int (1 * 2 ^ (200 : Int).toNat), .int 0, .int 0, .int 0]) n4
                have sL := Same.new (o := HO.lst [.non, .ref t1, .ref t2, .ref t3, .ref t4]) nL
                have q1 := s4 _ _ (s3 _ _ (s2 _ _ (upd_same (H := H8) (a := t1) (o := HO.tup [.int 0, .int 0, .int 0]))))
                have q2 := s4 _ _ (s3 _ _ (upd_same (a := t2) (o := HO.tup [.int 0, .int 0, .int 0, .int 10])))
                have q3 := s4 _ _ (upd_same (a := t3) (o := HO.tup [.bl true, .int 0, .int 0, .int 0]))
                refine hQ L _ _ upd_same ⟨rfl, fun x hx => ?_⟩ (Same.trans s1 (Same.trans s2 (Same.trans s3 (Same.trans s4 sL))))
                simp only [List.mem_cons, List.not_mem_nil, or_false] at hx
                rcases hx with rfl | rfl | rfl | rfl | rfl
                · exact .inl rfl
                · exact .inr ⟨_, _, rfl, sL _ _ q1, by show 3 ≤ 1000; decide, by decide, by decide +kernel⟩
                · exact .inr ⟨_, _, rfl, sL _ _ q2, by show 4 ≤ 1000; decide, by decide, by decide +kernel⟩
                · exact .inr ⟨_, _, rfl, sL _ _ q3, by show 4 ≤ 1000; decide, by decide, by decide +kernel⟩
                · exact .inr ⟨_, _, rfl, sL _ _ upd_same, by show 4 ≤ 1000; decide, fun x hx => by
                    simp only [List.mem_cons, List.not_mem_nil, or_false] at hx
                    rcases hx with rfl | rfl | rfl | rfl <;> rfl, by decide +kernel⟩
              · rintro L xs i x σ H' hx ⟨⟨x2, x3, x8, x9, x10, x11, x12, rfl, hf, hp⟩, hL, hl, hall⟩
                have hb := hall x (List.mem_of_getElem? hx)
                walk_at "st"
                rotate_left
                · exact false
                refine ⟨hb.judged, fun e => (by cases e), fun _ H10 s10 => ?_⟩
                refine ⟨true, hxW, fun _ ea na => ?_, fun z => by cases z⟩
                have hkit := kit_self (K := K) (v := Value.ref CW)
                have hdok : DOk none H10 := .inl rfl
                have hf2 := s10 _ _ hf
                have hp2 := s10 _ _ hp
                have hL2 := s10 _ _ hL
                have il : i < xs.length := (List.getElem?_eq_some_iff.mp hx).1
                have nLf : L ≠ fa := ne_len hL2 hf2 (by rw [hl, List.length_replicate]; omega)
                have hSf := SqL.of (K := K) hf2
                have hall2 := fun y hy => ((hall y hy).same s10).upd (o := .lst (List.replicate (25 + i) (.bl true) ++ [.bl true])) hf2
                walk_at "st"
                obtain ⟨g1, g2, g3⟩ := fs_step (n := 25 + i) nPf nLf (b := true) rfl hp2 hL2
                exact ⟨by rw [List.length_replicate]; exact small1000 (by omega), ⟨⟨_, _, _, _, _, _, _, rfl, g1, g2⟩, g3, hl, hall2⟩⟩
            -- >L4
            · clear hfa hP4 nPf
              rintro σ' H9 ⟨z2, z3, z8, z9, z10, z11, z12, rfl, hfa, hP4⟩
              have nPf : PL ≠ fa := fun e => by rw [e, hfa] at hP4; cases hP4
              refine seq_cutO (FL a r pa wa ta fa 32) ?_ ?_
              rotate_left
              -- <L5
              · intro R hR
                refine for_newN (G := fun xs H' => H' fa = some (.lst (List.replicate 30 (.bl true))) ∧ xs.length = 2 ∧ ∀ x ∈ xs, IsL 0 none H' x ∨ IsL 1 (some "a") H' x) (fun L xs i σ H' => Ok (FL a r pa wa ta fa (30 + i) σ H' ∧ H' L = some (.lst xs) ∧ xs.length = 2 ∧ ∀ x ∈ xs, IsL 0 none H' x ∨ IsL 1 (some "a") H' x)) (fun Q hQ => ?_) (fun L xs H' hL hg => ⟨⟨_, _, _, _, _, _, _, rfl, hg.1⟩, hL, hg.2⟩) (fun L xs i σ H' ⟨_, h, _⟩ => h) ?_ (fun L xs σ H' ⟨st, _, h, _⟩ => hR _ _ (by rw [h] at st; exact st))
                · walk_at "st"
                  refine ⟨LamX.TabS.nil hP4, fun ff1 cc1 d1 E1 x1 T1 c1 df1 n1 => ?_⟩
                  have hf1 := Same.new n1 (o := LamO lamQ [] (lamA (itemOf lamL 0)) (lamE (itemOf lamL 0)) (lamC (itemOf lamL 0)) d1 cc1 ff1) _ _ (x1 _ _ hfa (fun _ z => by cases z))
                  have sm1 := Same.new n1 (o := LamO lamQ [] (lamA (itemOf lamL 0)) (lamE (itemOf lamL 0)) (lamC (itemOf lamL 0)) d1 cc1 ff1)
                  have l1 : IsL 0 none (upd E1 ff1 (LamO lamQ [] (lamA (itemOf lamL 0)) (lamE (itemOf lamL 0)) (lamC (itemOf lamL 0)) d1 cc1 ff1)) (.ref ff1) := ⟨ff1, cc1, d1, rfl, upd_same, sm1 _ _ c1, df1⟩
                  have T1' := T1.ext sm1
                  walk_at "st"
                  intro ff2 cc2 d2 E2 x2 T2 c2 df2 n2
                  have sm2 := Same.new n2 (o := LamO lamQ [] (lamA (itemOf lamL 1)) (lamE (itemOf lamL 1)) (lamC (itemOf lamL 1)) d2 cc2 ff2)
                  have hf2 := sm2 _ _ (x2 _ _ hf1 (fun _ z => by cases z))
                  have l2 := (l1.ext x2).ext (LamX.ExtN.of sm2)
                  have l3 : IsL 1 (some "a") (upd E2 ff2 (LamO lamQ [] (lamA (itemOf lamL 1)) (lamE (itemOf lamL 1)) (lamC (itemOf lamL 1)) d2 cc2 ff2)) (.ref ff2) := ⟨ff2, cc2, d2, rfl, upd_same, sm2 _ _ c2, df2.ext fun b xs hb => sm2 _ _ hb⟩
                  walk_at "st"
                  intro L nL
                  have sL := Same.new nL (o := HO.lst [.ref ff1, .ref ff2])
                  refine hQ L _ _ upd_same ⟨sL _ _ hf2, rfl, fun x hx => ?_⟩
                  simp only [List.mem_cons, List.not_mem_nil, or_false] at hx
                  rcases hx with rfl | rfl
                  · exact .inl (l2.ext (LamX.ExtN.of sL))
                  · exact .inr (l3.ext (LamX.ExtN.of sL))
                · rintro L xs i x σ H' hx ⟨⟨x2, x3, x8, x9, x10, x11, x12, rfl, hf⟩, hL, hl, hall⟩
                  have hb := hall x (List.mem_of_getElem? hx)
                  refine gname_of ?_
                  have fin : wAs K (.ref CE) 9 (fun a cls d => tDrop (tBM K "list" rAppend (tVar 7) (tCons (tCB (rIsEd K mg a cls d) (tCons (tVar 9) (tCons (tC (V.ref CN)) tNil))) tNil))) (fun _ _ _ _ => False) { nx := fun σ H' => Ok (FL a r pa wa ta fa (30 + (i + 1)) σ H' ∧ H' L = some (HO.lst xs) ∧ xs.length = 2 ∧ ∀ x ∈ xs, IsL 0 none H' x ∨ IsL 1 (some "a") H' x), rt := fun v H => Q v H, bk := R, ct := fun σ H' => Ok (FL a r pa wa ta fa (30 + (i + 1)) σ H' ∧ H' L = some (HO.lst xs) ∧ xs.length = 2 ∧ ∀ x ∈ xs, IsL 0 none H' x ∨ IsL 1 (some "a") H' x) } (.ref CN) none [some (V.ref a), some (V.ref r), x2, x3, some (V.ref pa), some (V.ref wa), some (V.ref ta), some (V.ref fa), x8, x9, x10, some x, x12] H' := by
                    refine ⟨true, hxN, fun _ ea na => ?_, fun z => by cases z⟩
                    have hkit := kit_self (K := K) (v := Value.ref CN)
                    have hdok : DOk none H' := .inl rfl
                    have il : i < xs.length := (List.getElem?_eq_some_iff.mp hx).1
                    have nLf : L ≠ fa := ne_len hL hf (by rw [hl, List.length_replicate]; omega)
                    have hSf := SqL.of (K := K) hf
                    have hall2 := fun y hy => (hall y hy).imp (IsL.upd (o := .lst (List.replicate (30 + i) (.bl true) ++ [.bl true])) hf) (IsL.upd (o := .lst (List.replicate (30 + i) (.bl true) ++ [.bl true])) hf)
                    walk_at "st"
                    refine ⟨by rw [List.length_replicate]; exact small1000 (by omega), ⟨⟨_, _, _, _, _, _, _, rfl, by rw [upd_same, show 30 + (i + 1) = 30 + i + 1 from rfl, List.replicate_succ']⟩, by rw [upd_ne nLf]; exact hL, hl, hall2⟩⟩
                  rcases hb with ⟨ff, cc, dV, rfl, h1, h2, h3⟩ | ⟨ff, cc, dV, rfl, h1, h2, h3⟩
                  · exact .inl ⟨ff, cc, dV, rfl, h1, h2, h3, .non, rfl, .inr ⟨.inl rfl, fin⟩⟩
                  · exact .inr ⟨ff, cc, dV, rfl, h1, h2, h3, .int 5, rfl, .inr ⟨.inr ⟨5, rfl⟩, fin⟩⟩
              -- >L5
              · rintro σ' H7 ⟨z2, z3, z8, z9, z10, z11, z12, rfl, hfa⟩
                have hSf := SqL.of (K := K) hfa
                walk_at "st"
                rw [show (if true = true then !inV (V.bl false) (List.replicate 32 (V.bl true)) else inV (V.bl false) (List.replicate 32 (V.bl true))) = true from by decide +kernel]
                exact q _
end

theorem defAt_mk {K : PySem.W.Frag} {mg : Str → Option Value} {h : Heap} {x : Str} {st : Stmt} {ps : List Str} {f : Addr} {od an : Option Addr} {sl : Array (Option Value)} {oc kV dc pm cd ct : Value} (X : K.In h) (G : h.Ns mainGlobals mg) (a : PySem.W.nsIn K mainGlobals x = some (some (.ref f))) (l : K.lookup f = some ⟨oc, od, .func (PySem.W.fnOf x x (defArgs st) (defBody st) (defScope st) .none kV dc pm an cd ct), sl⟩) (c : PySem.W.codeIn K cd x = true) (k : PySem.W.keepIn K (.ref f) = true)
    (hb : ∀ (kV doc pm : Value) (an : Option Addr) (cdv ct : Value) (us : List Value), us.length = ps.length → bindArgs (PySem.W.fnOf x x (defArgs st) (defBody st) (defScope st) .none kV doc pm an cdv ct) ⟨us, []⟩ = pure (ps.zip us)) : DefAt K mg x st ps := by
  have F := fun_mk (st := st) l c k
  exact ⟨f, _, F, PySem.W.mg_of X G a, F.binds hb⟩
theorem metAt_mk {K : PySem.W.Frag} {C : Addr} {m qual : Str} {st : Stmt} {ps : List Str} {f : Addr} {od an : Option Addr} {sl : Array (Option Value)} {oc kV dc pm cd ct : Value} (a : PySem.W.findIn K (.ref C) m = some (some (.ref f))) (t : PySem.W.typeIn K (.ref f) = some (.type "function")) (l : K.lookup f = some ⟨oc, od, .func (PySem.W.fnOf m qual (defArgs st) (defBody st) (defScope st) .none kV dc pm an cd ct), sl⟩) (c : PySem.W.codeIn K cd qual = true) (k : PySem.W.keepIn K (.ref f) = true)
    (hb : ∀ (kV doc pm : Value) (an : Option Addr) (cdv ct : Value) (us : List Value), us.length = ps.length → bindArgs (PySem.W.fnOf m qual (defArgs st) (defBody st) (defScope st) .none kV doc pm an cdv ct) ⟨us, []⟩ = pure (ps.zip us)) : MetAt K C m qual st ps := by
  have F := fun_mk (st := st) l c k
  exact ⟨f, _, a, t, F, F.binds hb⟩
theorem all_mk {P : Program} {w : World} {K : PySem.W.Frag} {h : Heap} {mg : Str → Option Value} {fa : Addr} {f0 : Addr} {od0 an0 : Option Addr} {sl0 : Array (Option Value)} {oc0 kV0 dc0 pm0 cd0 ct0 : Value} {f1 : Addr} {od1 an1 : Option Addr} {sl1 : Array (Option Value)} {oc1 kV1 dc1 pm1 cd1 ct1 : Value} {f2 : Addr} {od2 an2 : Option Addr} {sl2 : Array (Option Value)} {oc2 kV2 dc2 pm2 cd2 ct2 : Value} {f3 : Addr} {od3 an3 : Option Addr} {sl3 : Array (Option Value)} {oc3 kV3 dc3 pm3 cd3 ct3 : Value} {f4 : Addr} {od4 an4 : Option Addr} {sl4 : Array (Option Value)} {oc4 kV4 dc4 pm4 cd4 ct4 : Value} {f5 : Addr} {od5 an5 : Option Addr} {sl5 : Array (Option Value)} {oc5 kV5 dc5 pm5 cd5 ct5 : Value} {f6 : Addr} {od6 an6 : Option Addr} {sl6 : Array (Option Value)} {oc6 kV6 dc6 pm6 cd6 ct6 : Value} {f7 : Addr} {od7 an7 : Option Addr} {sl7 : Array (Option Value)} {oc7 kV7 dc7 pm7 cd7 ct7 : Value} {f8 : Addr} {od8 an8 : Option Addr} {sl8 : Array (Option Value)} {oc8 kV8 dc8 pm8 cd8 ct8 : Value} {f9 : Addr} {od9 an9 : Option Addr} {sl9 : Array (Option Value)} {oc9 kV9 dc9 pm9 cd9 ct9 : Value} {f10 : Addr} {od10 an10 : Option Addr} {sl10 : Array (Option Value)} {oc10 kV10 dc10 pm10 cd10 ct10 : Value} {f11 : Addr} {od11 an11 : Option Addr} {sl11 : Array (Option Value)} {oc11 kV11 dc11 pm11 cd11 ct11 : Value} {f12 : Addr} {od12 an12 : Option Addr} {sl12 : Array (Option Value)} {oc12 kV12 dc12 pm12 cd12 ct12 : Value} {f13 : Addr} {od13 an13 : Option Addr} {sl13 : Array (Option Value)} {oc13 kV13 dc13 pm13 cd13 ct13 : Value} {f14 : Addr} {od14 an14 : Option Addr} {sl14 : Array (Option Value)} {oc14 kV14 dc14 pm14 cd14 ct14 : Value} {f15 : Addr} {od15 an15 : Option Addr} {sl15 : Array (Option Value)} {oc15 kV15 dc15 pm15 ct15 : Value} {cLw PLw : Addr} {ddw : Option Addr} {vsw : Array Value} {slw : Array (Option Value)} {filew : Str} {tfw tgw ttw : Tok} {flagsw textw : Int} {inFw : Bool} {t_FAR : Tok} {t_MOST_STATES : Tok} {t_FIGURES : Tok} {t_MOST_STEPS : Tok} {t_LONGEST_PERIOD : Tok} {t_MOST_FIGURES : Tok} {C_InvalidText : Addr} {nm_InvalidText q_InvalidText : Str} {N_InvalidText : Addr} {bs_InvalidText bm_InvalidText : List Value} {sn_InvalidText : List Str} {sub_InvalidText : List Value} {ab_InvalidText : Bool} {col_InvalidText : Option Bool} {dd_InvalidText : Option Addr} {m0_InvalidText m1_InvalidText m2_InvalidText m3_InvalidText m5_InvalidText : Option Value} {fI_InvalidText : Addr} {odI_InvalidText anI_InvalidText : Option Addr} {slI_InvalidText : Array (Option Value)} {ocI_InvalidText kVI_InvalidText dcI_InvalidText pmI_InvalidText cdI_InvalidText ctI_InvalidText : Value} {C_NotText : Addr} {nm_NotText q_NotText : Str} {N_NotText : Addr} {bs_NotText bm_NotText : List Value} {sn_NotText : List Str} {sub_NotText : List Value} {ab_NotText : Bool} {col_NotText : Option Bool} {dd_NotText : Option Addr} {m0_NotText m1_NotText m2_NotText m3_NotText m5_NotText : Option Value} {C_BadPaper : Addr} {nm_BadPaper q_BadPaper : Str} {N_BadPaper : Addr} {bs_BadPaper bm_BadPaper : List Value} {sn_BadPaper : List Str} {sub_BadPaper : List Value} {ab_BadPaper : Bool} {col_BadPaper : Option Bool} {dd_BadPaper : Option Addr} {m0_BadPaper m1_BadPaper m2_BadPaper m3_BadPaper m5_BadPaper : Option Value} {C_BadWalker : Addr} {nm_BadWalker q_BadWalker : Str} {N_BadWalker : Addr} {bs_BadWalker bm_BadWalker : List Value} {sn_BadWalker : List Str} {sub_BadWalker : List Value} {ab_BadWalker : Bool} {col_BadWalker : Option Bool} {dd_BadWalker : Option Addr} {m0_BadWalker m1_BadWalker m2_BadWalker m3_BadWalker m5_BadWalker : Option Value} {CW : Addr} (X : K.In h) (G : h.Ns mainGlobals mg) (hfa : mg "law" = some (.ref fa)) (own : LamX.OwnTab K fa h)
    (a0 : PySem.W.nsIn K mainGlobals "is_whole" = some (some (.ref f0)))
    (l0 : K.lookup f0 = some ⟨oc0, od0, .func (PySem.W.fnOf "is_whole" "is_whole" (defArgs s_is_whole) (defBody s_is_whole) (defScope s_is_whole) .none kV0 dc0 pm0 an0 cd0 ct0), sl0⟩)
    (c0 : PySem.W.codeIn K cd0 "is_whole" = true)
    (k0 : PySem.W.keepIn K (.ref f0) = true)
    (a1 : PySem.W.nsIn K mainGlobals "is_place" = some (some (.ref f1)))
    (l1 : K.lookup f1 = some ⟨oc1, od1, .func (PySem.W.fnOf "is_place" "is_place" (defArgs s_is_place) (defBody s_is_place) (defScope s_is_place) .none kV1 dc1 pm1 an1 cd1 ct1), sl1⟩)
    (c1 : PySem.W.codeIn K cd1 "is_place" = true)
    (k1 : PySem.W.keepIn K (.ref f1) = true)
    (a2 : PySem.W.nsIn K mainGlobals "check_text" = some (some (.ref f2)))
    (l2 : K.lookup f2 = some ⟨oc2, od2, .func (PySem.W.fnOf "check_text" "check_text" (defArgs s_check_text) (defBody s_check_text) (defScope s_check_text) .none kV2 dc2 pm2 an2 cd2 ct2), sl2⟩)
    (c2 : PySem.W.codeIn K cd2 "check_text" = true)
    (k2 : PySem.W.keepIn K (.ref f2) = true)
    (a3 : PySem.W.nsIn K mainGlobals "check_walker" = some (some (.ref f3)))
    (l3 : K.lookup f3 = some ⟨oc3, od3, .func (PySem.W.fnOf "check_walker" "check_walker" (defArgs s_check_walker) (defBody s_check_walker) (defScope s_check_walker) .none kV3 dc3 pm3 an3 cd3 ct3), sl3⟩)
    (c3 : PySem.W.codeIn K cd3 "check_walker" = true)
    (k3 : PySem.W.keepIn K (.ref f3) = true)
    (a4 : PySem.W.nsIn K mainGlobals "is_walker" = some (some (.ref f4)))
    (l4 : K.lookup f4 = some ⟨oc4, od4, .func (PySem.W.fnOf "is_walker" "is_walker" (defArgs s_is_walker) (defBody s_is_walker) (defScope s_is_walker) .none kV4 dc4 pm4 an4 cd4 ct4), sl4⟩)
    (c4 : PySem.W.codeIn K cd4 "is_walker" = true)
    (k4 : PySem.W.keepIn K (.ref f4) = true)
    (a5 : PySem.W.nsIn K mainGlobals "is_paper" = some (some (.ref f5)))
    (l5 : K.lookup f5 = some ⟨oc5, od5, .func (PySem.W.fnOf "is_paper" "is_paper" (defArgs s_is_paper) (defBody s_is_paper) (defScope s_is_paper) .none kV5 dc5 pm5 an5 cd5 ct5), sl5⟩)
    (c5 : PySem.W.codeIn K cd5 "is_paper" = true)
    (k5 : PySem.W.keepIn K (.ref f5) = true)
    (a6 : PySem.W.nsIn K mainGlobals "write_paper" = some (some (.ref f6)))
    (l6 : K.lookup f6 = some ⟨oc6, od6, .func (PySem.W.fnOf "write_paper" "write_paper" (defArgs s_write_paper) (defBody s_write_paper) (defScope s_write_paper) .none kV6 dc6 pm6 an6 cd6 ct6), sl6⟩)
    (c6 : PySem.W.codeIn K cd6 "write_paper" = true)
    (k6 : PySem.W.keepIn K (.ref f6) = true)
    (a7 : PySem.W.nsIn K mainGlobals "write_walker" = some (some (.ref f7)))
    (l7 : K.lookup f7 = some ⟨oc7, od7, .func (PySem.W.fnOf "write_walker" "write_walker" (defArgs s_write_walker) (defBody s_write_walker) (defScope s_write_walker) .none kV7 dc7 pm7 an7 cd7 ct7), sl7⟩)
    (c7 : PySem.W.codeIn K cd7 "write_walker" = true)
    (k7 : PySem.W.keepIn K (.ref f7) = true)
    (a8 : PySem.W.nsIn K mainGlobals "read_paper" = some (some (.ref f8)))
    (l8 : K.lookup f8 = some ⟨oc8, od8, .func (PySem.W.fnOf "read_paper" "read_paper" (defArgs s_read_paper) (defBody s_read_paper) (defScope s_read_paper) .none kV8 dc8 pm8 an8 cd8 ct8), sl8⟩)
    (c8 : PySem.W.codeIn K cd8 "read_paper" = true)
    (k8 : PySem.W.keepIn K (.ref f8) = true)
    (a9 : PySem.W.nsIn K mainGlobals "read_walker" = some (some (.ref f9)))
    (l9 : K.lookup f9 = some ⟨oc9, od9, .func (PySem.W.fnOf "read_walker" "read_walker" (defArgs s_read_walker) (defBody s_read_walker) (defScope s_read_walker) .none kV9 dc9 pm9 an9 cd9 ct9), sl9⟩)
    (c9 : PySem.W.codeIn K cd9 "read_walker" = true)
    (k9 : PySem.W.keepIn K (.ref f9) = true)
    (a10 : PySem.W.nsIn K mainGlobals "whole_of" = some (some (.ref f10)))
    (l10 : K.lookup f10 = some ⟨oc10, od10, .func (PySem.W.fnOf "whole_of" "whole_of" (defArgs s_whole_of) (defBody s_whole_of) (defScope s_whole_of) .none kV10 dc10 pm10 an10 cd10 ct10), sl10⟩)
    (c10 : PySem.W.codeIn K cd10 "whole_of" = true)
    (k10 : PySem.W.keepIn K (.ref f10) = true)
    (a11 : PySem.W.nsIn K mainGlobals "_law_taken" = some (some (.ref f11)))
    (l11 : K.lookup f11 = some ⟨oc11, od11, .func (PySem.W.fnOf "_law_taken" "_law_taken" (defArgs s_law_taken) (defBody s_law_taken) (defScope s_law_taken) .none kV11 dc11 pm11 an11 cd11 ct11), sl11⟩)
    (c11 : PySem.W.codeIn K cd11 "_law_taken" = true)
    (k11 : PySem.W.keepIn K (.ref f11) = true)
    (a12 : PySem.W.nsIn K mainGlobals "_law_pick" = some (some (.ref f12)))
    (l12 : K.lookup f12 = some ⟨oc12, od12, .func (PySem.W.fnOf "_law_pick" "_law_pick" (defArgs s_law_pick) (defBody s_law_pick) (defScope s_law_pick) .none kV12 dc12 pm12 an12 cd12 ct12), sl12⟩)
    (c12 : PySem.W.codeIn K cd12 "_law_pick" = true)
    (k12 : PySem.W.keepIn K (.ref f12) = true)
    (a13 : PySem.W.nsIn K mainGlobals "_law_signed" = some (some (.ref f13)))
    (l13 : K.lookup f13 = some ⟨oc13, od13, .func (PySem.W.fnOf "_law_signed" "_law_signed" (defArgs s_law_signed) (defBody s_law_signed) (defScope s_law_signed) .none kV13 dc13 pm13 an13 cd13 ct13), sl13⟩)
    (c13 : PySem.W.codeIn K cd13 "_law_signed" = true)
    (k13 : PySem.W.keepIn K (.ref f13) = true)
    (a14 : PySem.W.nsIn K mainGlobals "_law_alike" = some (some (.ref f14)))
    (l14 : K.lookup f14 = some ⟨oc14, od14, .func (PySem.W.fnOf "_law_alike" "_law_alike" (defArgs s_law_alike) (defBody s_law_alike) (defScope s_law_alike) .none kV14 dc14 pm14 an14 cd14 ct14), sl14⟩)
    (c14 : PySem.W.codeIn K cd14 "_law_alike" = true)
    (k14 : PySem.W.keepIn K (.ref f14) = true)
    (a15 : PySem.W.nsIn K mainGlobals "law" = some (some (.ref f15)))
    (l15 : K.lookup f15 = some ⟨oc15, od15, .func (PySem.W.fnOf "law" "law" (defArgs s_law) (defBody s_law) (defScope s_law) .none kV15 dc15 pm15 an15 (.ref cLw) ct15), sl15⟩)
    (c15 : PySem.W.codeIn K (.ref cLw) "law" = true)
    (lCw : K.lookup cLw = some ⟨.type "code", ddw, .fields vsw, slw⟩)
    (vPw : vsw[11]? = some (.ref PLw))
    (nPw : K.lookup PLw = none)
    (gw18 : vsw.getD 18 .none = .str filew tfw)
    (gw7 : vsw.getD 7 .none = .int flagsw tgw)
    (gw9 : vsw.getD 9 .none = .bool inFw)
    (gw10 : vsw.getD 10 .none = .int textw ttw)
    (k15 : PySem.W.keepIn K (.ref f15) = true)
    (z_ValueError : PySem.W.nsIn K mainGlobals "ValueError" = some none)
    (z_any : PySem.W.nsIn K mainGlobals "any" = some none)
    (z_bool : PySem.W.nsIn K mainGlobals "bool" = some none)
    (z_int : PySem.W.nsIn K mainGlobals "int" = some none)
    (z_isinstance : PySem.W.nsIn K mainGlobals "isinstance" = some none)
    (z_len : PySem.W.nsIn K mainGlobals "len" = some none)
    (z_list : PySem.W.nsIn K mainGlobals "list" = some none)
    (z_range : PySem.W.nsIn K mainGlobals "range" = some none)
    (z_str : PySem.W.nsIn K mainGlobals "str" = some none)
    (z_tuple : PySem.W.nsIn K mainGlobals "tuple" = some none)
    (g_FAR : PySem.W.nsIn K mainGlobals "FAR" = some (some (.int 1000000000000000000000000000000000000000000000000000000000000 t_FAR)))
    (g_MOST_STATES : PySem.W.nsIn K mainGlobals "MOST_STATES" = some (some (.int 10 t_MOST_STATES)))
    (g_FIGURES : PySem.W.nsIn K mainGlobals "FIGURES" = some (some (.str "0123456789" t_FIGURES)))
    (g_MOST_STEPS : PySem.W.nsIn K mainGlobals "MOST_STEPS" = some (some (.int 100000 t_MOST_STEPS)))
    (g_LONGEST_PERIOD : PySem.W.nsIn K mainGlobals "LONGEST_PERIOD" = some (some (.int 2000 t_LONGEST_PERIOD)))
    (g_MOST_FIGURES : PySem.W.nsIn K mainGlobals "MOST_FIGURES" = some (some (.int 61 t_MOST_FIGURES)))
    (a_InvalidText : PySem.W.nsIn K mainGlobals "InvalidText" = some (some (.ref C_InvalidText)))
    (xL_InvalidText : K.lookup C_InvalidText = some (PySem.excClassObj nm_InvalidText q_InvalidText C_InvalidText N_InvalidText bs_InvalidText bm_InvalidText true sn_InvalidText sub_InvalidText ab_InvalidText col_InvalidText dd_InvalidText m0_InvalidText m1_InvalidText m2_InvalidText m3_InvalidText m5_InvalidText "ValueError.__new__"))
    (rv_InvalidText : PySem.HandSPX.refsVE bm_InvalidText = true)
    (sa_InvalidText : PySem.W.findIn K (.ref C_InvalidText) "__setattr__" = some (some (.builtin "object.__setattr__")))
    (ga_InvalidText : PySem.W.findIn K (.ref C_InvalidText) "__getattribute__" = some (some (.builtin "BaseException.__getattribute__")))
    (gg_InvalidText : PySem.W.findIn K (.ref C_InvalidText) "__getattr__" = some none)
    (ha_InvalidText : PySem.W.findIn K (.ref C_InvalidText) "__class__" = some (some (.builtin "object.__class__")))
    (eC_InvalidText : PySem.W.subIn K (.ref C_InvalidText) (.type "BaseException") = some true)
    (tC_InvalidText : PySem.W.typeIn K (.ref C_InvalidText) = some (.type "type"))
    (kC_InvalidText : PySem.W.keepIn K (.ref C_InvalidText) = true)
    (hC_InvalidText : PySem.W.hasDictIn K C_InvalidText = true)
    (hm_InvalidText : PySem.W.mroIn K C_InvalidText (.type "object") = some true)
    (iA_InvalidText : PySem.W.findIn K (.ref C_InvalidText) "__init__" = some (some (.ref fI_InvalidText)))
    (iT_InvalidText : PySem.W.typeIn K (.ref fI_InvalidText) = some (.type "function"))
    (iL_InvalidText : K.lookup fI_InvalidText = some ⟨ocI_InvalidText, odI_InvalidText, .func (PySem.W.fnOf "__init__" "InvalidText.__init__" (defArgs s_InvalidText_init) (defBody s_InvalidText_init) (defScope s_InvalidText_init) .none kVI_InvalidText dcI_InvalidText pmI_InvalidText anI_InvalidText cdI_InvalidText ctI_InvalidText), slI_InvalidText⟩)
    (iC_InvalidText : PySem.W.codeIn K cdI_InvalidText "InvalidText.__init__" = true)
    (iK_InvalidText : PySem.W.keepIn K (.ref fI_InvalidText) = true)
    (no_InvalidText : PySem.W.findIn K (.ref C_InvalidText) "place" = some none)
    (a_NotText : PySem.W.nsIn K mainGlobals "NotText" = some (some (.ref C_NotText)))
    (xL_NotText : K.lookup C_NotText = some (PySem.excClassObj nm_NotText q_NotText C_NotText N_NotText bs_NotText bm_NotText true sn_NotText sub_NotText ab_NotText col_NotText dd_NotText m0_NotText m1_NotText m2_NotText m3_NotText m5_NotText "ValueError.__new__"))
    (rv_NotText : PySem.HandSPX.refsVE bm_NotText = true)
    (sa_NotText : PySem.W.findIn K (.ref C_NotText) "__setattr__" = some (some (.builtin "object.__setattr__")))
    (ga_NotText : PySem.W.findIn K (.ref C_NotText) "__getattribute__" = some (some (.builtin "BaseException.__getattribute__")))
    (gg_NotText : PySem.W.findIn K (.ref C_NotText) "__getattr__" = some none)
    (ha_NotText : PySem.W.findIn K (.ref C_NotText) "__class__" = some (some (.builtin "object.__class__")))
    (eC_NotText : PySem.W.subIn K (.ref C_NotText) (.type "BaseException") = some true)
    (tC_NotText : PySem.W.typeIn K (.ref C_NotText) = some (.type "type"))
    (kC_NotText : PySem.W.keepIn K (.ref C_NotText) = true)
    (hC_NotText : PySem.W.hasDictIn K C_NotText = true)
    (hm_NotText : PySem.W.mroIn K C_NotText (.type "object") = some true)
    (a_BadPaper : PySem.W.nsIn K mainGlobals "BadPaper" = some (some (.ref C_BadPaper)))
    (xL_BadPaper : K.lookup C_BadPaper = some (PySem.excClassObj nm_BadPaper q_BadPaper C_BadPaper N_BadPaper bs_BadPaper bm_BadPaper true sn_BadPaper sub_BadPaper ab_BadPaper col_BadPaper dd_BadPaper m0_BadPaper m1_BadPaper m2_BadPaper m3_BadPaper m5_BadPaper "ValueError.__new__"))
    (rv_BadPaper : PySem.HandSPX.refsVE bm_BadPaper = true)
    (sa_BadPaper : PySem.W.findIn K (.ref C_BadPaper) "__setattr__" = some (some (.builtin "object.__setattr__")))
    (ga_BadPaper : PySem.W.findIn K (.ref C_BadPaper) "__getattribute__" = some (some (.builtin "BaseException.__getattribute__")))
    (gg_BadPaper : PySem.W.findIn K (.ref C_BadPaper) "__getattr__" = some none)
    (ha_BadPaper : PySem.W.findIn K (.ref C_BadPaper) "__class__" = some (some (.builtin "object.__class__")))
    (eC_BadPaper : PySem.W.subIn K (.ref C_BadPaper) (.type "BaseException") = some true)
    (tC_BadPaper : PySem.W.typeIn K (.ref C_BadPaper) = some (.type "type"))
    (kC_BadPaper : PySem.W.keepIn K (.ref C_BadPaper) = true)
    (hC_BadPaper : PySem.W.hasDictIn K C_BadPaper = true)
    (hm_BadPaper : PySem.W.mroIn K C_BadPaper (.type "object") = some true)
    (a_BadWalker : PySem.W.nsIn K mainGlobals "BadWalker" = some (some (.ref C_BadWalker)))
    (xL_BadWalker : K.lookup C_BadWalker = some (PySem.excClassObj nm_BadWalker q_BadWalker C_BadWalker N_BadWalker bs_BadWalker bm_BadWalker true sn_BadWalker sub_BadWalker ab_BadWalker col_BadWalker dd_BadWalker m0_BadWalker m1_BadWalker m2_BadWalker m3_BadWalker m5_BadWalker "ValueError.__new__"))
    (rv_BadWalker : PySem.HandSPX.refsVE bm_BadWalker = true)
    (sa_BadWalker : PySem.W.findIn K (.ref C_BadWalker) "__setattr__" = some (some (.builtin "object.__setattr__")))
    (ga_BadWalker : PySem.W.findIn K (.ref C_BadWalker) "__getattribute__" = some (some (.builtin "BaseException.__getattribute__")))
    (gg_BadWalker : PySem.W.findIn K (.ref C_BadWalker) "__getattr__" = some none)
    (ha_BadWalker : PySem.W.findIn K (.ref C_BadWalker) "__class__" = some (some (.builtin "object.__class__")))
    (eC_BadWalker : PySem.W.subIn K (.ref C_BadWalker) (.type "BaseException") = some true)
    (tC_BadWalker : PySem.W.typeIn K (.ref C_BadWalker) = some (.type "type"))
    (kC_BadWalker : PySem.W.keepIn K (.ref C_BadWalker) = true)
    (hC_BadWalker : PySem.W.hasDictIn K C_BadWalker = true)
    (hm_BadWalker : PySem.W.mroIn K C_BadWalker (.type "object") = some true)
    (xP_NotText : PySem.W.excIn K C_NotText [.type "ValueError", .type "Exception", .type "BaseException", .type "object"] "ValueError.__new__" = true)
    (xP_BadPaper : PySem.W.excIn K C_BadPaper [.type "ValueError", .type "Exception", .type "BaseException", .type "object"] "ValueError.__new__" = true)
    (xP_BadWalker : PySem.W.excIn K C_BadWalker [.type "ValueError", .type "Exception", .type "BaseException", .type "object"] "ValueError.__new__" = true)
    (xhn : PySem.W.specialIn K (.builtin "object.__class__") "__get__" = some (some (.builtin "getset_descriptor.__get__")))
    (xht : PySem.W.takesIn K (.builtin "object.__class__") = some true)
    (wA : PySem.W.nsIn K mainGlobals "WalkError" = some (some (.ref CW)))
    (wE : PySem.W.subIn K (.ref CW) (.type "BaseException") = some true)
    (wD : PySem.W.hasDictIn K CW = true)
    (wT : PySem.W.typeIn K (.ref CW) = some (.type "type"))
    (wS_InvalidText : PySem.W.subIn K (.ref C_InvalidText) (.ref CW) = some true)
    (wS_NotText : PySem.W.subIn K (.ref C_NotText) (.ref CW) = some true)
    (wS_BadPaper : PySem.W.subIn K (.ref C_BadPaper) (.ref CW) = some true)
    (wS_BadWalker : PySem.W.subIn K (.ref C_BadWalker) (.ref CW) = some true)
    : ∃ (fd : FuncData) (cs : List (Addr × Addr)) (sp : Sp), (∀ p ∈ cs, h.get? p.2 = some { cls := .none, data := .fields #[] }) ∧ (∀ p ∈ cs, K.lookup p.2 = none) ∧ (∀ p ∈ cs, PySem.W.CodeHd h p.1 p.2) ∧ (∀ (s : Shared) (u : Value), BindsTo s fd ⟨[u], []⟩ [("script", u)]) ∧ (∀ (H : Hp) (a : Addr) (ns : List Int), ns.length ≤ 63 → (∀ z ∈ ns, Builtin.Int.intBits z ≤ 1048576) → (∀ p ∈ cs, H p.2 = some (.tbl #[])) → SqL K H a (ns.map V.int) → sp [.ref a] H (fun v _ => v = .bl true) fun _ _ _ => False) ∧ ∀ base : Heap, K.In base → base.Ns mainGlobals mg → (∀ p ∈ cs, LamX.TabB base mg p.1 p.2) → FnOk P w K mg base CX0 7 fa fd ["script"] sp := by
  have e := hfa.symm.trans (PySem.W.mg_of X G a15)
  cases e
  have D_is_whole : DefAt K mg "is_whole" s_is_whole ["value", "least", "greatest"] := defAt_mk X G a0 l0 c0 k0 (fun _ _ _ _ _ _ us hl => match us, hl with | [_, _, _], _ => rfl)
  have D_is_place : DefAt K mg "is_place" s_is_place ["value"] := defAt_mk X G a1 l1 c1 k1 (fun _ _ _ _ _ _ us hl => match us, hl with | [_], _ => rfl)
  have D_check_text : DefAt K mg "check_text" s_check_text ["value"] := defAt_mk X G a2 l2 c2 k2 (fun _ _ _ _ _ _ us hl => match us, hl with | [_], _ => rfl)
  have D_check_walker : DefAt K mg "check_walker" s_check_walker ["value", "states"] := defAt_mk X G a3 l3 c3 k3 (fun _ _ _ _ _ _ us hl => match us, hl with | [_, _], _ => rfl)
  have D_is_walker : DefAt K mg "is_walker" s_is_walker ["value", "states"] := defAt_mk X G a4 l4 c4 k4 (fun _ _ _ _ _ _ us hl => match us, hl with | [_, _], _ => rfl)
  have D_is_paper : DefAt K mg "is_paper" s_is_paper ["value"] := defAt_mk X G a5 l5 c5 k5 (fun _ _ _ _ _ _ us hl => match us, hl with | [_], _ => rfl)
  have D_write_paper : DefAt K mg "write_paper" s_write_paper ["paper"] := defAt_mk X G a6 l6 c6 k6 (fun _ _ _ _ _ _ us hl => match us, hl with | [_], _ => rfl)
  have D_write_walker : DefAt K mg "write_walker" s_write_walker ["walker"] := defAt_mk X G a7 l7 c7 k7 (fun _ _ _ _ _ _ us hl => match us, hl with | [_], _ => rfl)
  have D_read_paper : DefAt K mg "read_paper" s_read_paper ["text"] := defAt_mk X G a8 l8 c8 k8 (fun _ _ _ _ _ _ us hl => match us, hl with | [_], _ => rfl)
  have D_read_walker : DefAt K mg "read_walker" s_read_walker ["text"] := defAt_mk X G a9 l9 c9 k9 (fun _ _ _ _ _ _ us hl => match us, hl with | [_], _ => rfl)
  have D_whole_of : DefAt K mg "whole_of" s_whole_of ["word"] := defAt_mk X G a10 l10 c10 k10 (fun _ _ _ _ _ _ us hl => match us, hl with | [_], _ => rfl)
  have D_law_taken : DefAt K mg "_law_taken" s_law_taken ["row", "many"] := defAt_mk X G a11 l11 c11 k11 (fun _ _ _ _ _ _ us hl => match us, hl with | [_, _], _ => rfl)
  have D_law_pick : DefAt K mg "_law_pick" s_law_pick ["row", "things"] := defAt_mk X G a12 l12 c12 k12 (fun _ _ _ _ _ _ us hl => match us, hl with | [_, _], _ => rfl)
  have D_law_signed : DefAt K mg "_law_signed" s_law_signed ["row", "most"] := defAt_mk X G a13 l13 c13 k13 (fun _ _ _ _ _ _ us hl => match us, hl with | [_, _], _ => rfl)
  have D_law_alike : DefAt K mg "_law_alike" s_law_alike ["found", "due"] := defAt_mk X G a14 l14 c14 k14 (fun _ _ _ _ _ _ us hl => match us, hl with | [_, _], _ => rfl)
  have F_law : FunC K "law" "law" s_law _ _ cLw := ⟨⟨_, _, _, _, _, _, _, _, rfl, l15, c15⟩⟩
  have T : Txt K mg := ⟨PySem.W.mg_none_of X G z_ValueError, PySem.W.mg_none_of X G z_any, PySem.W.mg_none_of X G z_bool, PySem.W.mg_none_of X G z_int, PySem.W.mg_none_of X G z_isinstance, PySem.W.mg_none_of X G z_len, PySem.W.mg_none_of X G z_list, PySem.W.mg_none_of X G z_range, PySem.W.mg_none_of X G z_str, PySem.W.mg_none_of X G z_tuple, ⟨_, PySem.W.mg_of X G g_FAR⟩, ⟨_, PySem.W.mg_of X G g_MOST_STATES⟩, ⟨_, PySem.W.mg_of X G g_FIGURES⟩, ⟨_, PySem.W.mg_of X G g_MOST_STEPS⟩, ⟨_, PySem.W.mg_of X G g_LONGEST_PERIOD⟩, ⟨_, PySem.W.mg_of X G g_MOST_FIGURES⟩⟩
  have T_InvalidText : ExcCls K mg "InvalidText" C_InvalidText := ⟨PySem.W.mg_of X G a_InvalidText, ⟨⟨nm_InvalidText, q_InvalidText, N_InvalidText, bs_InvalidText, bm_InvalidText, sn_InvalidText, sub_InvalidText, ab_InvalidText, col_InvalidText, dd_InvalidText, m0_InvalidText, m1_InvalidText, m2_InvalidText, m3_InvalidText, m5_InvalidText, xL_InvalidText, rv_InvalidText⟩, sa_InvalidText, eC_InvalidText, tC_InvalidText, kC_InvalidText⟩, ⟨ga_InvalidText, gg_InvalidText, eC_InvalidText, hC_InvalidText⟩, ha_InvalidText, xhn, xht, hm_InvalidText⟩
  have M_InvalidText : MetAt K C_InvalidText "__init__" "InvalidText.__init__" s_InvalidText_init ["self", "place"] := metAt_mk iA_InvalidText iT_InvalidText iL_InvalidText iC_InvalidText iK_InvalidText (fun _ _ _ _ _ _ us hl => match us, hl with | [_, _], _ => rfl)
  have T_NotText : ExcCls K mg "NotText" C_NotText := ⟨PySem.W.mg_of X G a_NotText, ⟨⟨nm_NotText, q_NotText, N_NotText, bs_NotText, bm_NotText, sn_NotText, sub_NotText, ab_NotText, col_NotText, dd_NotText, m0_NotText, m1_NotText, m2_NotText, m3_NotText, m5_NotText, xL_NotText, rv_NotText⟩, sa_NotText, eC_NotText, tC_NotText, kC_NotText⟩, ⟨ga_NotText, gg_NotText, eC_NotText, hC_NotText⟩, ha_NotText, xhn, xht, hm_NotText⟩
  have T_BadPaper : ExcCls K mg "BadPaper" C_BadPaper := ⟨PySem.W.mg_of X G a_BadPaper, ⟨⟨nm_BadPaper, q_BadPaper, N_BadPaper, bs_BadPaper, bm_BadPaper, sn_BadPaper, sub_BadPaper, ab_BadPaper, col_BadPaper, dd_BadPaper, m0_BadPaper, m1_BadPaper, m2_BadPaper, m3_BadPaper, m5_BadPaper, xL_BadPaper, rv_BadPaper⟩, sa_BadPaper, eC_BadPaper, tC_BadPaper, kC_BadPaper⟩, ⟨ga_BadPaper, gg_BadPaper, eC_BadPaper, hC_BadPaper⟩, ha_BadPaper, xhn, xht, hm_BadPaper⟩
  have T_BadWalker : ExcCls K mg "BadWalker" C_BadWalker := ⟨PySem.W.mg_of X G a_BadWalker, ⟨⟨nm_BadWalker, q_BadWalker, N_BadWalker, bs_BadWalker, bm_BadWalker, sn_BadWalker, sub_BadWalker, ab_BadWalker, col_BadWalker, dd_BadWalker, m0_BadWalker, m1_BadWalker, m2_BadWalker, m3_BadWalker, m5_BadWalker, xL_BadWalker, rv_BadWalker⟩, sa_BadWalker, eC_BadWalker, tC_BadWalker, kC_BadWalker⟩, ⟨ga_BadWalker, gg_BadWalker, eC_BadWalker, hC_BadWalker⟩, ha_BadWalker, xhn, xht, hm_BadWalker⟩
  have TS_NotText : StopCls K mg "NotText" C_NotText := ⟨PySem.W.mg_of X G a_NotText, xP_NotText, kC_NotText, eC_NotText, tC_NotText⟩
  have TS_BadPaper : StopCls K mg "BadPaper" C_BadPaper := ⟨PySem.W.mg_of X G a_BadPaper, xP_BadPaper, kC_BadPaper, eC_BadPaper, tC_BadPaper⟩
  have TS_BadWalker : StopCls K mg "BadWalker" C_BadWalker := ⟨PySem.W.mg_of X G a_BadWalker, xP_BadWalker, kC_BadWalker, eC_BadWalker, tC_BadWalker⟩
  have hex_InvalidText := PySem.W.exm_ref wE wD wT wS_InvalidText
  have hex_NotText := PySem.W.exm_ref wE wD wT wS_NotText
  have hex_BadPaper := PySem.W.exm_ref wE wD wT wS_BadPaper
  have hex_BadWalker := PySem.W.exm_ref wE wD wT wS_BadWalker
  have gW := PySem.W.mg_of X G wA
  have mm : ∀ p : Addr × Addr, p ∈ [(cLw, PLw)] → p = (cLw, PLw) := fun p hp => List.mem_singleton.mp hp
  have neP : cLw ≠ PLw := fun z => by rw [z, nPw] at lCw; cases lCw
  have gw11 : vsw.getD 11 .none = .ref PLw := by rw [Array.getD_eq_getD_getElem?, vPw]; rfl
  refine ⟨PySem.W.fnOf "law" "law" (defArgs s_law) (defBody s_law) (defScope s_law) .none kV15 dc15 pm15 an15 (.ref cLw) ct15, [(cLw, PLw)], spLawT K PLw, fun p hp => by rw [mm p hp]; exact own cLw PLw _ _ _ _ _ _ l15 rfl rfl lCw vPw, fun p hp => by rw [mm p hp]; exact nPw, fun p hp => by rw [mm p hp]; exact ⟨_, vsw, filew, tfw, flagsw, tgw, inFw, textw, ttw, X _ _ lCw, rfl, rfl, vPw, gw11, gw18, gw7, gw9, gw10, neP⟩, fun s v => .of_eq rfl, fun H a ns _ _ ht hS => ⟨a, ns, rfl, hS, ht _ (List.mem_singleton.mpr rfl), fun _ => rfl⟩, fun base hb hg tb => ?_⟩
  have TB : LamX.TabB base mg cLw PLw := tb _ (List.mem_singleton.mpr rfl)
  have FI_InvalidText := exi_InvalidText (P := P) (w := w) (mg := mg) (base := base) M_InvalidText T_InvalidText.oex no_InvalidText
  have C_law_taken := ok_law_taken (P := P) (w := w) (base := base) T D_law_taken
  have C_is_whole := ok_is_whole (P := P) (w := w) (base := base) T D_is_whole
  have C_is_place := ok_is_place (P := P) (w := w) (base := base) T D_is_place C_is_whole
  have C_is_walker := ok_is_walker (P := P) (w := w) (base := base) T D_is_walker C_is_whole C_is_place
  have C_is_paper := ok_is_paper (P := P) (w := w) (base := base) T D_is_paper C_is_whole
  have C_whole_of := ok_whole_of (P := P) (w := w) (base := base) T D_whole_of
  have C_check_text := ok_check_text (P := P) (w := w) (base := base) T TS_NotText D_check_text
  have C_check_walker := ok_check_walker (P := P) (w := w) (base := base) T TS_BadWalker D_check_walker C_is_walker
  have C_write_paper := ok_write_paper (P := P) (w := w) (base := base) T TS_BadPaper D_write_paper C_is_paper
  have C_write_walker := ok_write_walker (P := P) (w := w) (base := base) T D_write_walker C_check_walker
  have C_read_paper := ok_read_paper (P := P) (w := w) (base := base) T T_InvalidText FI_InvalidText D_read_paper C_whole_of C_is_paper C_check_text
  have C_read_walker := ok_read_walker (P := P) (w := w) (base := base) T T_InvalidText FI_InvalidText D_read_walker C_whole_of C_is_walker C_check_text
  have C_law_alike := ok_law_alike (P := P) (w := w) (base := base) T D_law_alike 5
  have C_law_pick := ok_law_pick (P := P) (w := w) (base := base) T D_law_pick C_law_taken
  have C_law_signed := ok_law_signed (P := P) (w := w) (base := base) T D_law_signed C_law_taken
  exact law_thaw (ok_law T T_InvalidText T_NotText T_BadPaper T_BadWalker FI_InvalidText gW hex_InvalidText hex_NotText hex_BadPaper hex_BadWalker F_law TB C_law_pick C_law_taken C_law_signed C_law_alike C_write_paper C_write_walker C_read_paper C_read_walker)
end Sb
open PySem PySem.W PyProof.Rows
set_option maxHeartbeats 0 in
theorem PySem.Challenge.cw_streetpapers_k15_whole_notes_holds : PySem.Challenge.rw_streetpapers_k15_whole_notes.Holds := by
  w_on; o_law; k_head; (case hw => w_witness2)
  k_fill
  refine LamX.walk_ofOwn (l := PySem.Challenge.rw_streetpapers_k15_whole_notes) (n := 63) (k := 7) (x := "script") (CX := fun _ => L2.CX0) rfl (by decide) rfl ⟨rfl, by decide, by decide⟩ (by first | rfl | decide +kernel) (fun w h Y => PySem.W.km_in_of Y) ?F (fun _ _ _ _ _ h => h)
  case F =>
    intro w mg fa h Y KX G hmg own
    refine' Sb.all_mk KX G hmg own ?a0 ?l0 ?c0 ?k0 ?a1 ?l1 ?c1 ?k1 ?a2 ?l2 ?c2 ?k2 ?a3 ?l3 ?c3 ?k3 ?a4 ?l4 ?c4 ?k4 ?a5 ?l5 ?c5 ?k5 ?a6 ?l6 ?c6 ?k6 ?a7 ?l7 ?c7 ?k7 ?a8 ?l8 ?c8 ?k8 ?a9 ?l9 ?c9 ?k9 ?a10 ?l10 ?c10 ?k10 ?a11 ?l11 ?c11 ?k11 ?a12 ?l12 ?c12 ?k12 ?a13 ?l13 ?c13 ?k13 ?a14 ?l14 ?c14 ?k14 ?a15 ?l15 ?c15 ?lCw ?vPw ?nPw ?gw18 ?gw7 ?gw9 ?gw10 ?k15 ?z_ValueError ?z_any ?z_bool ?z_int ?z_isinstance ?z_len ?z_list ?z_range ?z_str ?z_tuple ?g_FAR ?g_MOST_STATES ?g_FIGURES ?g_MOST_STEPS ?g_LONGEST_PERIOD ?g_MOST_FIGURES ?a_InvalidText ?xL_InvalidText ?rv_InvalidText ?sa_InvalidText ?ga_InvalidText ?gg_InvalidText ?ha_InvalidText ?eC_InvalidText ?tC_InvalidText ?kC_InvalidText ?hC_InvalidText ?hm_InvalidText ?iA_InvalidText ?iT_InvalidText ?iL_InvalidText ?iC_InvalidText ?iK_InvalidText ?no_InvalidText ?a_NotText ?xL_NotText ?rv_NotText ?sa_NotText ?ga_NotText ?gg_NotText ?ha_NotText ?eC_NotText ?tC_NotText ?kC_NotText ?hC_NotText ?hm_NotText ?a_BadPaper ?xL_BadPaper ?rv_BadPaper ?sa_BadPaper ?ga_BadPaper ?gg_BadPaper ?ha_BadPaper ?eC_BadPaper ?tC_BadPaper ?kC_BadPaper ?hC_BadPaper ?hm_BadPaper ?a_BadWalker ?xL_BadWalker ?rv_BadWalker ?sa_BadWalker ?ga_BadWalker ?gg_BadWalker ?ha_BadWalker ?eC_BadWalker ?tC_BadWalker ?kC_BadWalker ?hC_BadWalker ?hm_BadWalker ?xP_NotText ?xP_BadPaper ?xP_BadWalker ?xhn ?xht ?wA ?wE ?wD ?wT ?wS_InvalidText ?wS_NotText ?wS_BadPaper ?wS_BadWalker
    (case a0 => k_is)
    (case l0 => k_is)
    (case c0 => k_is)
    (case k0 => k_is)
    (case a1 => k_is)
    (case l1 => k_is)
    (case c1 => k_is)
    (case k1 => k_is)
    (case a2 => k_is)
    (case l2 => k_is)
    (case c2 => k_is)
    (case k2 => k_is)
    (case a3 => k_is)
    (case l3 => k_is)
    (case c3 => k_is)
    (case k3 => k_is)
    (case a4 => k_is)
    (case l4 => k_is)
    (case c4 => k_is)
    (case k4 => k_is)
    (case a5 => k_is)
    (case l5 => k_is)
    (case c5 => k_is)
    (case k5 => k_is)
    (case a6 => k_is)
    (case l6 => k_is)
    (case c6 => k_is)
    (case k6 => k_is)
    (case a7 => k_is)
    (case l7 => k_is)
    (case c7 => k_is)
    (case k7 => k_is)
    (case a8 => k_is)
    (case l8 => k_is)
    (case c8 => k_is)
    (case k8 => k_is)
    (case a9 => k_is)
    (case l9 => k_is)
    (case c9 => k_is)
    (case k9 => k_is)
    (case a10 => k_is)
    (case l10 => k_is)
    (case c10 => k_is)
    (case k10 => k_is)
    (case a11 => k_is)
    (case l11 => k_is)
    (case c11 => k_is)
    (case k11 => k_is)
    (case a12 => k_is)
    (case l12 => k_is)
    (case c12 => k_is)
    (case k12 => k_is)
    (case a13 => k_is)
    (case l13 => k_is)
    (case c13 => k_is)
    (case k13 => k_is)
    (case a14 => k_is)
    (case l14 => k_is)
    (case c14 => k_is)
    (case k14 => k_is)
    (case a15 => k_is)
    (case l15 => k_is)
    (case c15 => k_is)
    (case lCw => k_is)
    (case vPw => exact rfl)
    (case nPw => first | kernel_rfl | rfl)
    (case gw18 => exact rfl)
    (case gw7 => exact rfl)
    (case gw9 => exact rfl)
    (case gw10 => exact rfl)
    (case k15 => k_is)
    (case z_ValueError => k_is)
    (case z_any => k_is)
    (case z_bool => k_is)
    (case z_int => k_is)
    (case z_isinstance => k_is)
    (case z_len => k_is)
    (case z_list => k_is)
    (case z_range => k_is)
    (case z_str => k_is)
    (case z_tuple => k_is)
    (case g_FAR => k_is)
    (case g_MOST_STATES => k_is)
    (case g_FIGURES => k_is)
    (case g_MOST_STEPS => k_is)
    (case g_LONGEST_PERIOD => k_is)
    (case g_MOST_FIGURES => k_is)
    (case a_InvalidText => k_is)
    (case xL_InvalidText => k_is)
    (case rv_InvalidText => decide +kernel)
    (case sa_InvalidText => k_is)
    (case ga_InvalidText => k_is)
    (case gg_InvalidText => k_is)
    (case ha_InvalidText => k_is)
    (case eC_InvalidText => k_is)
    (case tC_InvalidText => k_is)
    (case kC_InvalidText => k_is)
    (case hC_InvalidText => k_is)
    (case hm_InvalidText => k_is)
    (case iA_InvalidText => k_is)
    (case iT_InvalidText => k_is)
    (case iL_InvalidText => k_is)
    (case iC_InvalidText => k_is)
    (case iK_InvalidText => k_is)
    (case no_InvalidText => k_is)
    (case a_NotText => k_is)
    (case xL_NotText => k_is)
    (case rv_NotText => decide +kernel)
    (case sa_NotText => k_is)
    (case ga_NotText => k_is)
    (case gg_NotText => k_is)
    (case ha_NotText => k_is)
    (case eC_NotText => k_is)
    (case tC_NotText => k_is)
    (case kC_NotText => k_is)
    (case hC_NotText => k_is)
    (case hm_NotText => k_is)
    (case a_BadPaper => k_is)
    (case xL_BadPaper => k_is)
    (case rv_BadPaper => decide +kernel)
    (case sa_BadPaper => k_is)
    (case ga_BadPaper => k_is)
    (case gg_BadPaper => k_is)
    (case ha_BadPaper => k_is)
    (case eC_BadPaper => k_is)
    (case tC_BadPaper => k_is)
    (case kC_BadPaper => k_is)
    (case hC_BadPaper => k_is)
    (case hm_BadPaper => k_is)
    (case a_BadWalker => k_is)
    (case xL_BadWalker => k_is)
    (case rv_BadWalker => decide +kernel)
    (case sa_BadWalker => k_is)
    (case ga_BadWalker => k_is)
    (case gg_BadWalker => k_is)
    (case ha_BadWalker => k_is)
    (case eC_BadWalker => k_is)
    (case tC_BadWalker => k_is)
    (case kC_BadWalker => k_is)
    (case hC_BadWalker => k_is)
    (case hm_BadWalker => k_is)
    (case xP_NotText => first | k_exc | decide +kernel)
    (case xP_BadPaper => first | k_exc | decide +kernel)
    (case xP_BadWalker => first | k_exc | decide +kernel)
    (case xhn => k_is)
    (case xht => k_is)
    (case wA => k_is)
    (case wE => k_is)
    (case wD => k_is)
    (case wT => k_is)
    (case wS_InvalidText => k_is)
    (case wS_NotText => k_is)
    (case wS_BadPaper => k_is)
    (case wS_BadWalker => k_is)
