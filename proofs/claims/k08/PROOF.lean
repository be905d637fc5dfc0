import PyProof.Rows.All
import Wide.All
import OpenK.AllK
import Wide.FinOn
import HandS.ForMost
import HandS.Wide
import HandS.IsInst
import HandS.TupAny
import HandS.Style
import HandS.FStr
import HandS.StrMore
import HandS.WordsExc
import HandS.ExcInit
import HandS.ExcField
import HandS.CallSlots
import HandS.Defaults
import KE.KExcIs
import HandS.ExcIs
import KE.GoesMore
import KE.GoesEnum
import HandS.Iter
import HandS.Walk
import HandS.DictComp
import KE.KSortTupUse
import KE.KDictSum
import KE.KDictCopyH
import HandS.SortRule
import HandS.Conv
import HandS.Set
import HandS.Keys
import HandS.DictTup
import KE.KDictPairs
import HandS.WideBits
import HandS.TupLe
import HandS.TupLen
import HandS.Conv
import HandS.DictEq
import HandS.Deep
import KE.DataEq
import HandS.Strs
import HandS.TupSets
import PyProof.Rows.SetFrom
import PySem.Challenge.RW_streetpapers_k08_whole_never_within_boun
set_option Elab.async false
set_option linter.all false
set_option maxRecDepth 100000
set_option maxHeartbeats 4000000
namespace Sb
open PySem PySem.Spec PyProof.Rows L2 TL
/-! ### defs of the text, and what they promise -/
structure DefAt (K : PySem.W.Frag) (mg : Str → Option Value) (x : Str) (st : Stmt) (ps : List Str) : Prop where
  ex : ∃ (f : Addr) (fd : FuncData), Fun K x x st f fd ∧ mg x = some (.ref f) ∧ Binds K fd ps []
structure Cal (P : Program) (w : World) (K : PySem.W.Frag) (mg : Str → Option Value) (base : Heap) (CX : CXT) (x : Str) (k : Nat) (ps : List Str) (sp : Sp) : Prop where
  ex : ∃ (f : Addr) (fd : FuncData), FnOk P w K mg base CX k f fd ps sp ∧ mg x = some (.ref f) ∧ PySem.W.keepIn K (.ref f) = true ∧ Binds K fd ps []
section
variable {P : Program} {w : World} {K : PySem.W.Frag} {mg : Str → Option Value} {base : Heap}
theorem Cal.mono {CX : CXT} {x : Str} {j k : Nat} {ps : List Str} {sp : Sp} (C : Cal P w K mg base CX x j ps sp) (h : j ≤ k) : Cal P w K mg base CX x k ps sp := by
  obtain ⟨f, fd, F, m, kp, b⟩ := C.ex
  exact ⟨f, fd, F.mono h, m, kp, b⟩
theorem Cal.imp {CX : CXT} {x : Str} {k : Nat} {ps : List Str} {sp sp' : Sp} (C : Cal P w K mg base CX x k ps sp) (h : ∀ vs H Q E, sp' vs H Q E → sp vs H Q E) : Cal P w K mg base CX x k ps sp' := by
  obtain ⟨f, fd, F, m, kp, b⟩ := C.ex
  exact ⟨f, fd, F.imp h, m, kp, b⟩
theorem DefAt.cal {x : Str} {st : Stmt} {N ps : List Str} {k : Nat} {sp : Sp} (D : DefAt K mg x st ps) (S : FnScope N ps (defScope st)) (len : ∀ vs H Q E, sp vs H Q E → vs.length = ps.length)
    (hbody : ∀ (f : Addr) (cdv : Value) (A : Around) (outer : List Env) (s : Shared) (H : Hp) (vs : List V) (Q : VK) (E : XK), Room k (A.deeper (envOfC x (defScope st) s.heap.objs.size f cdv)) → sp vs H Q E →
      ∃ t, PSs (cxOf CX0 P w K mg base N x (defScope st) f cdv A outer s H E).nox (defBody st) t ∧ t { nx := fun _ H' => Q .non H', rt := Q } (start N vs) H) : Cal P w K mg base CX0 x (k + 1) ps sp := by
  obtain ⟨f, fd, F, m, b⟩ := D.ex
  exact ⟨f, fd, F.ok S len (hbody f), m, F.kp, b⟩
end
section
variable {X : Cx} {CX : CXT} {k j : Nat} {ps : List Str} {sp : Sp} {x : Str} {p pos : Pos} {e : Expr} {es : List Expr} {t : TA}
theorem pe_own (C : Cal X.prog X.w X.K X.mg X.base CX0 x k ps sp) (hr : Room j X.A) (hk : k ≤ j) (ha : PA X (e :: es) t) (hg : Gl X x := by rfl) (hdb : (x == ("__debug__" : Str)) = false := by decide)
    (he : starEach (e :: es) X.env = (false, eval e X.env) :: starEach es X.env := by rfl) (hpl : (backTo pos (starEach es X.env)).any (·.1) = false := by rfl) : PE X (.Call (.Name x p) (e :: es) [] pos) (tCall sp [] E0 t) := by
  obtain ⟨f, fd, F, m, kp, b⟩ := C.ex
  exact pe_call F (hr.mono hk) hg m kp b .nil pass0 ha hdb he hpl
theorem pe_own0 (C : Cal X.prog X.w X.K X.mg X.base CX0 x k ps sp) (hr : Room j X.A) (hk : k ≤ j) (hg : Gl X x := by rfl) (hdb : (x == ("__debug__" : Str)) = false := by decide) : PE X (.Call (.Name x p) [] [] pos) (tCall sp [] E0 tNil) := by
  obtain ⟨f, fd, F, m, kp, b⟩ := C.ex
  exact pe_call0 F (hr.mono hk) hg m kp b .nil pass0 hdb
end
/-- a word that the steps do not enter -/
structure Ok (p : Prop) : Prop where
  o : p
/-! ### heaps -/
def KeepB (r : Addr) (H H' : Hp) : Prop := ∀ b o, b ≠ r → H b = some o → H' b = some o
theorem KeepB.refl (r : Addr) (H : Hp) : KeepB r H H := fun _ _ _ h => h
theorem KeepB.trans {r : Addr} {H H1 H2 : Hp} (a : KeepB r H H1) (b : KeepB r H1 H2) : KeepB r H H2 := fun c o n h => b c o n (a c o n h)
theorem KeepB.put {r : Addr} {H : Hp} {o : HO} : KeepB r H (upd H r o) := fun b u n h => by
  rw [upd_ne n]
  exact h
theorem Same.keepB {r : Addr} {H H' : Hp} (s : Same H H') : KeepB r H H' := fun b o _ h => s b o h
theorem Same.new {H : Hp} {p : Addr} {o : HO} (h : H p = none) : Same H (upd H p o) := fun b u e => by
  rw [upd_ne (ne_of_none e h)]
  exact e
/-- tuples and what is frozen stay -/
structure TK (H H' : Hp) : Prop where
  tup : ∀ b xs, H b = some (.tup xs) → H' b = some (.tup xs)
  frz : ∀ b o u, H b = some (.frz o u) → H' b = some (.frz o u)
theorem TK.refl (H : Hp) : TK H H := ⟨fun _ _ h => h, fun _ _ _ h => h⟩
theorem TK.trans {H H1 H2 : Hp} (a : TK H H1) (b : TK H1 H2) : TK H H2 := ⟨fun c x h => b.tup c x (a.tup c x h), fun c o u h => b.frz c o u (a.frz c o u h)⟩
theorem Same.tk {H H' : Hp} (s : Same H H') : TK H H' := ⟨fun b xs h => s b _ h, fun b o u h => s b _ h⟩
theorem KeepB.tk {r : Addr} {H H' : Hp} {xs : List V} (s : KeepB r H H') (h : H r = some (.lst xs)) : TK H H' :=
  ⟨fun b ys e => s b _ (ne_of e h (by intro z; cases z)) e, fun b o u e => s b _ (ne_of e h (by intro z; cases z)) e⟩
theorem TK.seqT {K : PySem.W.Frag} {H H' : Hp} {a : Addr} {xs : List V} (t : TK H H') (h : SqT K H a xs) : SqT K H' a xs := by
  rcases h with (h | ⟨o, h⟩) | h
  · exact .inl (.inl (t.tup _ _ h))
  · exact .inl (.inr ⟨o, t.frz _ _ _ h⟩)
  · exact .inr h
theorem TK.new {H : Hp} {p : Addr} {o : HO} (h : H p = none) : TK H (upd H p o) := Same.tk (Same.new h)
theorem TK.lst {H : Hp} {p : Addr} {xs : List V} {o : HO} (h : H p = some (.lst xs)) : TK H (upd H p o) := (KeepB.put (r := p)).tk h
theorem KeepB.new {r : Addr} {H : Hp} {p : Addr} {o : HO} (h : H p = none) : KeepB r H (upd H p o) := Same.keepB (Same.new h)
/-- a change at an object that the first heap does not know -/
theorem KeepB.fresh {r : Addr} {H H' : Hp} {p : Addr} {o : HO} (k : KeepB r H H') (h : H p = none) : KeepB r H (upd H' p o) := fun b u n e => by
  rw [upd_ne (ne_of_none e h)]
  exact k b u n e
/-- what the later heap does not know the earlier did not -/
theorem KeepB.back {r : Addr} {H H' : Hp} {p : Addr} (k : KeepB r H H') (h : H' p = none) (n : p ≠ r) : H p = none := by
  cases e : H p with
  | none => rfl
  | some o =>
    rw [k p o n e] at h
    cases h
theorem Same.fresh {H H' : Hp} {p : Addr} {o : HO} (k : Same H H') (h : H p = none) : Same H (upd H' p o) := fun b u e => by
  rw [upd_ne (ne_of_none e h)]
  exact k b u e
/-! ### immutable data -/
mutual
inductive Tp (K : PySem.W.Frag) (H : Hp) : V → PyData → Prop
  | non : Tp K H .non .none
  | bl (b : Bool) : Tp K H (.bl b) (.bool b)
  | int (i : Int) : Tp K H (.int i) (.int i)
  | str (x : Str) : Tp K H (.str x) (.str x)
  | tup {a : Addr} {xs : List V} {ds : List PyData} : SqT K H a xs → TpAll K H xs ds → Tp K H (.ref a) (.tuple ds)
inductive TpAll (K : PySem.W.Frag) (H : Hp) : List V → List PyData → Prop
  | nil : TpAll K H [] []
  | cons {v : V} {vs : List V} {d : PyData} {ds : List PyData} : Tp K H v d → TpAll K H vs ds → TpAll K H (v :: vs) (d :: ds)
end
section
variable {K : PySem.W.Frag} {H H' : Hp}
mutual
theorem Tp.mono (t : TK H H') : ∀ (d : PyData) (v : V), Tp K H v d → Tp K H' v d
  | .none, _, h => by cases h; exact .non
  | .bool b, _, h => by cases h; exact .bl b
  | .int i, _, h => by cases h; exact .int i
  | .str x, _, h => by cases h; exact .str x
  | .list ds, _, h => by cases h
  | .dict _, _, h => by cases h
  | .tuple ds, _, h => by
    cases h with
    | tup hs ha => exact .tup (t.seqT hs) (TpAll.mono t ds _ ha)
theorem TpAll.mono (t : TK H H') : ∀ (ds : List PyData) (vs : List V), TpAll K H vs ds → TpAll K H' vs ds
  | [], _, h => by cases h; exact .nil
  | d :: ds, _, h => by
    cases h with
    | cons h1 h2 => exact .cons (Tp.mono t d _ h1) (TpAll.mono t ds _ h2)
end
mutual
theorem Tp.dp : ∀ (d : PyData) (v : V), Tp K H v d → Dp K H v d
  | .none, _, h => by cases h; exact .non
  | .bool b, _, h => by cases h; exact .bl b
  | .int i, _, h => by cases h; exact .int i
  | .str x, _, h => by cases h; exact .str x
  | .list ds, _, h => by cases h
  | .dict _, _, h => by cases h
  | .tuple ds, _, h => by
    cases h with
    | tup hs ha => exact .tup hs (TpAll.dp ds _ ha)
theorem TpAll.dp : ∀ (ds : List PyData) (vs : List V), TpAll K H vs ds → DpAll K H vs ds
  | [], _, h => by cases h; exact .nil
  | d :: ds, _, h => by
    cases h with
    | cons h1 h2 => exact .cons (Tp.dp d _ h1) (TpAll.dp ds _ h2)
end
mutual
theorem Dp.mono (s : Same H H') : ∀ (d : PyData) (v : V), Dp K H v d → Dp K H' v d
  | .none, _, h => by cases h; exact .non
  | .bool b, _, h => by cases h; exact .bl b
  | .int i, _, h => by cases h; exact .int i
  | .str x, _, h => by cases h; exact .str x
  | .dict _, _, h => by cases h
  | .list ds, _, h => by
    cases h with
    | lst hs ha => exact .lst (s.seq hs) (DpAll.mono s ds _ ha)
  | .tuple ds, _, h => by
    cases h with
    | tup hs ha => exact .tup ((Same.tk s).seqT hs) (DpAll.mono s ds _ ha)
theorem DpAll.mono (s : Same H H') : ∀ (ds : List PyData) (vs : List V), DpAll K H vs ds → DpAll K H' vs ds
  | [], _, h => by cases h; exact .nil
  | d :: ds, _, h => by
    cases h with
    | cons h1 h2 => exact .cons (Dp.mono s d _ h1) (DpAll.mono s ds _ h2)
end
theorem TpAll.length : ∀ {vs : List V} {ds : List PyData}, TpAll K H vs ds → vs.length = ds.length
  | [], [], _ => rfl
  | _ :: _, [], h => by cases h
  | [], _ :: _, h => by cases h
  | v :: vs, d :: ds, h => by
    cases h with
    | cons h1 h2 =>
      show vs.length + 1 = ds.length + 1
      rw [TpAll.length h2]
theorem TpAll.get : ∀ {vs : List V} {ds : List PyData} {i : Nat} {d : PyData}, TpAll K H vs ds → ds[i]? = some d → ∃ v, vs[i]? = some v ∧ Tp K H v d
  | [], [], _, _, _, e => by simp at e
  | _ :: _, [], _, _, h, _ => by cases h
  | [], _ :: _, _, _, h, _ => by cases h
  | v :: vs, d :: ds, 0, _, h, e => by
    cases h with
    | cons h1 h2 =>
      have e : d = _ := Option.some.inj e
      subst e
      exact ⟨v, rfl, h1⟩
  | v :: vs, d :: ds, i + 1, _, h, e => by
    cases h with
    | cons h1 h2 => exact TpAll.get (i := i) h2 e
theorem TpAll.append : ∀ {vs ws : List V} {ds es : List PyData}, TpAll K H vs ds → TpAll K H ws es → TpAll K H (vs ++ ws) (ds ++ es)
  | [], _, [], _, _, h => h
  | _ :: _, _, [], _, h, _ => by cases h
  | [], _, _ :: _, _, h, _ => by cases h
  | v :: vs, _, d :: ds, _, h, h' => by
    cases h with
    | cons h1 h2 => exact .cons h1 (TpAll.append h2 h')
end
/-! ### the draws -/
/-- the script: frozen, or an object of the written part -/
def Scr (K : PySem.W.Frag) (H : Hp) (s : Addr) (ns : List Int) : Prop := (∃ o, H s = some (.frz o (.lst (ns.map V.int)))) ∨ ∃ (o : Obj) (its : Array Value) (n : Nat), K.lookup s = some o ∧ o.cls = .type "list" ∧ o.dict = none ∧ o.data = .seq its n ∧ its.size ≤ sizeLine ∧ Vals (ns.map V.int) its.toList
theorem Scr.sq {K : PySem.W.Frag} {H : Hp} {s : Addr} {ns : List Int} (h : Scr K H s ns) : SqL K H s (ns.map V.int) := by
  rcases h with ⟨o, h⟩ | h
  · exact .inl (.inr ⟨o, h⟩)
  · exact .inr h
theorem Scr.mono {K : PySem.W.Frag} {H H' : Hp} {s : Addr} {ns : List Int} (t : TK H H') (h : Scr K H s ns) : Scr K H' s ns := by
  rcases h with ⟨o, h⟩ | h
  · exact .inl ⟨o, t.frz _ _ _ h⟩
  · exact .inr h
theorem Scr.of {K : PySem.W.Frag} {H : Hp} {s : Addr} {ns : List Int} (o : Only H) (h : SqL K H s (ns.map V.int)) : Scr K H s ns := by
  rcases h with (h | ⟨u, h⟩) | h
  · rcases o s with z | ⟨u, xs, z⟩ <;> (rw [h] at z; cases z)
  · exact .inl ⟨u, h⟩
  · exact .inr h
/-- row: the script, the place in it, the mixed number, the rest of a great cell -/
def Row (K : PySem.W.Frag) (H : Hp) (r : Addr) : Prop := ∃ (s : Addr) (ns : List Int) (i m c : Int), H r = some (.lst [.ref s, .int i, .int m, .int c]) ∧ Scr K H s ns ∧ 0 ≤ i ∧ 0 ≤ m ∧ m < 2147483647 ∧ 0 ≤ c
theorem Row.lst {K : PySem.W.Frag} {H : Hp} {r : Addr} (h : Row K H r) : ∃ xs, H r = some (.lst xs) := by
  obtain ⟨s, ns, i, m, c, e, _⟩ := h
  exact ⟨_, e⟩
theorem Row.keep {K : PySem.W.Frag} {H H' : Hp} {r : Addr} (h : Row K H r) (t : TK H H') (e : H' r = H r) : Row K H' r := by
  obtain ⟨s, ns, i, m, c, e0, hs, q⟩ := h
  exact ⟨s, ns, i, m, c, e.trans e0, hs.mono t, q⟩
theorem Row.same {K : PySem.W.Frag} {H H' : Hp} {r : Addr} (h : Row K H r) (s : Same H H') : Row K H' r := by
  obtain ⟨xs, e⟩ := h.lst
  exact h.keep (Same.tk s) ((s _ _ e).trans e.symm)
theorem Row.new {K : PySem.W.Frag} {H : Hp} {r p : Addr} {o : HO} (h : Row K H r) (n : H p = none) : Row K (upd H p o) r := h.same (Same.new n)
theorem Row.ne {K : PySem.W.Frag} {H : Hp} {r p : Addr} (h : Row K H r) (n : H p = none) : p ≠ r := by
  obtain ⟨xs, e⟩ := h.lst
  exact (ne_of_none e n).symm
/-- another list changes -/
theorem Row.put {K : PySem.W.Frag} {H : Hp} {r p : Addr} {xs : List V} {o : HO} (h : Row K H r) (e : H p = some (.lst xs)) (n : p ≠ r) : Row K (upd H p o) r := h.keep (TK.lst e) (upd_ne n.symm)
theorem KeepB.row {K : PySem.W.Frag} {H H' : Hp} {r : Addr} (k : KeepB r H H') (h : Row K H r) : TK H H' := by
  obtain ⟨xs, e⟩ := h.lst
  exact k.tk e
def spTaken (K : PySem.W.Frag) : Sp := fun vs H Q _ => ∃ (r : Addr) (many : Int), vs = [.ref r, .int many] ∧ Row K H r ∧ 0 < many ∧ many < 2 ^ 250 ∧ ∀ (v : Int) (H' : Hp), 0 ≤ v → v < many → Row K H' r → KeepB r H H' → Q (.int v) H'
section
variable {X : Cx}
theorem CallR.imp {f : Value} {r r' : List V → Hp → VK → Prop} (h : CallR X f r) (i : ∀ xs H Q, r' xs H Q → r xs H Q) : CallR X f r' := fun pins s σ H xs us Q I rv q => h pins s σ H xs us Q I rv (i _ _ _ q)
theorem call_int_i : CallR X (.type "int") (fun xs H Q => ∃ i, xs = [.int i] ∧ Q (.int i) H) := CallR.imp call_int1 fun _ _ _ h => .inl h
theorem call_len_l : CallR X (.builtin "len") (fun xs H Q => ∃ p ys, xs = [.ref p] ∧ SqL X.K H p ys ∧ Q (.int ys.length) H) := CallR.imp call_len_seq fun _ _ _ ⟨p, ys, e, h, q⟩ => ⟨p, ys, e, .inl h, q⟩
theorem call_len_t : CallR X (.builtin "len") (fun xs H Q => ∃ p ys, xs = [.ref p] ∧ SqT X.K H p ys ∧ Q (.int ys.length) H) := CallR.imp call_len_seq fun _ _ _ ⟨p, ys, e, h, q⟩ => ⟨p, ys, e, .inr h, q⟩
theorem call_tuple_l : CallR X (.type "tuple") (fun xs H Q => ∃ p ys, xs = [.ref p] ∧ SqL X.K H p ys ∧ ∀ l, H l = none → Q (.ref l) (upd H l (.tup ys))) := CallR.imp call_tuple_of fun _ _ _ ⟨p, ys, e, h, q⟩ => ⟨p, ys, e, .inl ⟨h, q⟩⟩
theorem call_tuple_t : CallR X (.type "tuple") (fun xs H Q => ∃ p ys, xs = [.ref p] ∧ SqT X.K H p ys ∧ Q (.ref p) H) := CallR.imp call_tuple_of fun _ _ _ ⟨p, ys, e, h, q⟩ => ⟨p, ys, e, .inr ⟨h, q⟩⟩
end
section
variable {X : Cx} {x : Str} {pos : Pos}
theorem pe_gint {i : Int} (hg : Gl X x) (hm : ∃ t, X.mg x = some (.int i t)) (hd : (x == ("__debug__" : Str)) = false := by decide) : PE X (.Name x pos) (tC (.int i)) := by
  obtain ⟨t, h⟩ := hm
  exact pe_glob hg h ⟨t, rfl⟩ hd
theorem pe_gstr {y : Str} (hg : Gl X x) (hm : ∃ t, X.mg x = some (.str y t)) (hd : (x == ("__debug__" : Str)) = false := by decide) : PE X (.Name x pos) (tC (.str y)) := by
  obtain ⟨t, h⟩ := hm
  exact pe_glob hg h ⟨t, rfl⟩ hd
theorem pe_ty (n : String) (hg : Gl X x) (hm : X.mg x = none) (hv : bootBuiltins x = some (.type n)) (hn : x ≠ "__name__" := by decide) (hd : (x == ("__debug__" : Str)) = false := by decide) : PE X (.Name x pos) (tC (.ty n)) := pe_bltn hg hm hv rfl hn hd
/-- isinstance against a built-in class -/
def rIsN (K : PySem.W.Frag) : List V → Hp → VK → Prop := fun xs H Q => ∃ (y : V) (n : String) (t : String) (b : Bool), xs = [y, .ty n] ∧ TyX K H y (.type t) ∧ kitB t n = some b ∧ Q (.bl b) H
theorem call_isN : CallR X (.builtin "isinstance") (rIsN X.K) := CallR.imp call_isi fun _ _ _ ⟨y, n, t, b, e, h, k, q⟩ => ⟨y, .ty n, .type t, .type n, b, e, .ty n, h, kit_ty k, q⟩
/-- against two of them -/
def kitB2 (t m n : String) : Option Bool := match kitB t m with
  | some true => some true
  | some false => kitB t n
  | none => none
def rIsT2 (K : PySem.W.Frag) : List V → Hp → VK → Prop := fun xs H Q => ∃ (y : V) (p : Addr) (m n : String) (t : String) (b : Bool), xs = [y, .ref p] ∧ H p = some (.tup [.ty m, .ty n]) ∧ TyX K H y (.type t) ∧ kitB2 t m n = some b ∧ Q (.bl b) H
theorem kit2 {K : PySem.W.Frag} {t m n : String} {b : Bool} (h : kitB2 t m n = some b) : PySem.W.kitAny K (.type t) [.type m, .type n] = some b := by
  unfold kitB2 at h
  split at h
  · rename_i e
    cases h
    exact kitAny_cons (kit_ty e) (fun z => by cases z) (fun _ => rfl)
  · rename_i e
    refine kitAny_cons (kit_ty e) (fun _ => ?_) (fun z => by cases z)
    exact kitAny_cons (b := b) (kit_ty h) (fun z => by rw [z]; exact kitAny_nil) (fun z => z)
  · cases h
theorem call_isT2 : CallR X (.builtin "isinstance") (rIsT2 X.K) := CallR.imp call_isiT fun _ _ _ ⟨y, p, m, n, t, b, e, hp, h, k, q⟩ => ⟨y, p, [.ty m, .ty n], .type t, [.type m, .type n], b, e, hp, .cons (.ty m) (.cons (.ty n) .nil), h, kit2 k, q⟩
/-- s.index(c), where it is found -/
def rIndexIn : L2.St → V → List V → Hp → VK → Prop := fun _ x xs H Q => ∃ (a b : Str) (k : Nat), x = .str a ∧ xs = [.str b] ∧ Txt.index0 a b = some k ∧ Q (.int (k : Nat)) H
theorem mt_indexIn (hc : X.calm = true) : MtS X "str.index" rIndexIn := fun pins s σ H x xs v us Q I rx rs ⟨a, b, k, e1, e2, e3, q⟩ =>
  mt_indexX hc takes0 pins s σ H x xs v us Q I rx rs ⟨a, b, e1, e2, fun k' h => by rw [e3] at h; cases h; exact q, fun h => by rw [e3] at h; cases h⟩
end
section
variable {K : PySem.W.Frag} {H : Hp}
theorem tyx_tup {a : Addr} {xs : List V} (h : SqT K H a xs) : TyX K H (.ref a) (.type "tuple") := by
  rcases h with (h | ⟨o, h⟩) | ⟨o, its, n, e, c, _⟩
  · exact .base (.tup h)
  · exact .fTuple h
  · exact .kTuple e c
theorem tyx_lst {a : Addr} {xs : List V} (h : SqL K H a xs) : TyX K H (.ref a) (.type "list") := by
  rcases h with (h | ⟨o, h⟩) | ⟨o, its, n, e, c, _⟩
  · exact .base (.lst h)
  · exact .base (.frz h)
  · exact .kList e c
theorem Tp.tupI {v : V} {ds : List PyData} (h : Tp K H v (.tuple ds)) : ∃ (a : Addr) (xs : List V), v = .ref a ∧ SqT K H a xs ∧ TpAll K H xs ds := by
  cases h with
  | tup hs ha => exact ⟨_, _, rfl, hs, ha⟩
theorem Tp.intI {v : V} {i : Int} (h : Tp K H v (.int i)) : v = .int i := by cases h; rfl
theorem Tp.nonI {v : V} (h : Tp K H v .none) : v = .non := by cases h; rfl
theorem Tp.strI {v : V} {x : Str} (h : Tp K H v (.str x)) : v = .str x := by cases h; rfl
theorem Tp.blI {v : V} {b : Bool} (h : Tp K H v (.bool b)) : v = .bl b := by cases h; rfl
theorem TpAll.consI {vs : List V} {d : PyData} {ds : List PyData} (h : TpAll K H vs (d :: ds)) : ∃ v ws, vs = v :: ws ∧ Tp K H v d ∧ TpAll K H ws ds := by
  cases h with
  | cons h1 h2 => exact ⟨_, _, rfl, h1, h2⟩
theorem TpAll.nilI {vs : List V} (h : TpAll K H vs []) : vs = [] := by cases h; rfl
/-- three numbers -/
theorem Tp.int3 {v : V} {i j k : Int} (h : Tp K H v (.tuple [.int i, .int j, .int k])) : ∃ a, v = .ref a ∧ SqT K H a [.int i, .int j, .int k] := by
  obtain ⟨a, xs, rfl, hs, h⟩ := h.tupI
  obtain ⟨x, _, rfl, h1, h⟩ := h.consI
  obtain ⟨y, _, rfl, h2, h⟩ := h.consI
  obtain ⟨z, _, rfl, h3, h⟩ := h.consI
  rw [h1.intI, h2.intI, h3.intI, h.nilI] at hs
  exact ⟨a, rfl, hs⟩
end
theorem at0 {α : Type} {v : α} {r : List α} : atI (v :: r) (0 : Int) = some v := atI_nat (j := 0) rfl
theorem at1 {α : Type} {u v : α} {r : List α} : atI (u :: v :: r) (1 : Int) = some v := atI_nat (j := 1) rfl
theorem at2 {α : Type} {t u v : α} {r : List α} : atI (t :: u :: v :: r) (2 : Int) = some v := atI_nat (j := 2) rfl
theorem at3 {α : Type} {s t u v : α} {r : List α} : atI (s :: t :: u :: v :: r) (3 : Int) = some v := atI_nat (j := 3) rfl
theorem small_le {n : Nat} (h : n ≤ 1000) : n ≤ sizeLine := Nat.le_of_lt (small1000 h)
/-! ### answers read -/
theorem ne_tr {a b : Int} (h : (!decide (V.int a = V.int b)) = true) : a ≠ b := fun e => by
  rw [e, decide_eq_true rfl] at h
  cases h
theorem ne_fl {a b : Int} (h : ¬ (!decide (V.int a = V.int b)) = true) : a = b := by
  by_cases e : a = b
  · exact e
  · exact absurd (by rw [decide_eq_false (fun z => e (V.int.inj z))]; rfl) h
theorem eq_tr {a b : Int} (h : decide (V.int a = V.int b) = true) : a = b := V.int.inj (of_decide_eq_true h)
theorem eq_fl {a b : Int} (h : ¬ decide (V.int a = V.int b) = true) : a ≠ b := fun e => h (decide_eq_true (by rw [e]))
theorem d_fl {p : Prop} [Decidable p] (h : ¬ decide p = true) : ¬ p := fun q => h (decide_eq_true q)
theorem nd_tr {p : Prop} [Decidable p] (h : (!decide p) = true) : ¬ p := fun q => by
  rw [decide_eq_true q] at h
  cases h
theorem nd_fl {p : Prop} [Decidable p] (h : ¬ (!decide p) = true) : p := by
  by_cases e : p
  · exact e
  · exact absurd (by rw [decide_eq_false e]; rfl) h
theorem nb_tr {b : Bool} (h : (!b) = true) : b = false := by cases b <;> simp_all
theorem nb_fl {b : Bool} (h : ¬ (!b) = true) : b = true := by cases b <;> simp_all
theorem take_more {α : Type} {l : List α} {i : Nat} {x : α} (h : l[i]? = some x) : l.take (i + 1) = l.take i ++ [x] := by
  rw [List.take_add_one, h]
  rfl
/-! ### the rules that speak of the written part, with its letter -/
section
variable {X : Cx} {K : PySem.W.Frag}
theorem k_len_l (hK : X.K = K := by rfl) : CallR X (.builtin "len") (fun xs H Q => ∃ p ys, xs = [.ref p] ∧ SqL K H p ys ∧ Q (.int ys.length) H) := hK ▸ call_len_l
theorem k_len_t (hK : X.K = K := by rfl) : CallR X (.builtin "len") (fun xs H Q => ∃ p ys, xs = [.ref p] ∧ SqT K H p ys ∧ Q (.int ys.length) H) := hK ▸ call_len_t
theorem k_tuple_l (hK : X.K = K := by rfl) : CallR X (.type "tuple") (fun xs H Q => ∃ p ys, xs = [.ref p] ∧ SqL K H p ys ∧ ∀ l, H l = none → Q (.ref l) (upd H l (.tup ys))) := hK ▸ call_tuple_l
theorem k_tuple_t (hK : X.K = K := by rfl) : CallR X (.type "tuple") (fun xs H Q => ∃ p ys, xs = [.ref p] ∧ SqT K H p ys ∧ Q (.ref p) H) := hK ▸ call_tuple_t
theorem k_isN (hK : X.K = K := by rfl) : CallR X (.builtin "isinstance") (rIsN K) := hK ▸ call_isN
theorem k_isT2 (hK : X.K = K := by rfl) : CallR X (.builtin "isinstance") (rIsT2 K) := hK ▸ call_isT2
theorem k_all (hc : X.calm = true) (hK : X.K = K := by rfl) : CallR X (.builtin "all") (rAll K) := hK ▸ cr_all hc
theorem k_any (hc : X.calm = true) (hK : X.K = K := by rfl) : CallR X (.builtin "any") (rAny K) := hK ▸ cr_any hc
theorem k_sum (hc : X.calm = true) (hK : X.K = K := by rfl) : CallR X (.builtin "sum") (rSum K) := hK ▸ cr_sum hc
theorem k_max (hc : X.calm = true) (hK : X.K = K := by rfl) : CallR X (.builtin "max") (rMax K) := hK ▸ cr_max hc
theorem k_min (hc : X.calm = true) (hK : X.K = K := by rfl) : CallR X (.builtin "min") (rMin K) := hK ▸ cr_min hc
theorem k_ix_list (hK : X.K = K := by rfl) : IxR X (rIxL K) := hK ▸ ix_list
theorem k_ix_tup (hK : X.K = K := by rfl) : IxR X (rIxT K) := hK ▸ ix_tup
theorem k_len_seq (hK : X.K = K := by rfl) : CallR X (.builtin "len") (fun xs H Q => ∃ p ys, xs = [.ref p] ∧ (SqL K H p ys ∨ SqT K H p ys) ∧ Q (.int ys.length) H) := hK ▸ call_len_seq
theorem IxR.imp {r r' : R2} (h : IxR X r) (i : ∀ x y H Q, r' x y H Q → r x y H Q) : IxR X r' := fun a b pins s σ H x y v u Q I rx ry q e => h a b pins s σ H x y v u Q I rx ry (i _ _ _ _ q) e
/-- an item of a list or of a tuple -/
def rIxA (K : PySem.W.Frag) : R2 := fun x y H Q => ∃ p xs i v, x = .ref p ∧ y = .int i ∧ (SqL K H p xs ∨ SqT K H p xs) ∧ atI xs i = some v ∧ Q v H
theorem k_ix_seq (hK : X.K = K := by rfl) : IxR X (rIxA K) := hK ▸ IxR.imp ix_seq fun x y H Q ⟨p, xs, i, v, e1, e2, h, a, q⟩ => by
  rcases h with h | h
  · exact .inl ⟨p, xs, i, v, e1, e2, h, a, q⟩
  · exact .inr (.inl ⟨p, xs, i, v, e1, e2, h, a, q⟩)
theorem k_sl_list (hK : X.K = K := by rfl) : SlR X (rSlL K) := hK ▸ sl_list
theorem k_sl_tup (hK : X.K = K := by rfl) : SlR X (rSlT K) := hK ▸ sl_tup
theorem k_catA (hK : X.K = K := by rfl) : OpR X (binaryOp .Add) (rCatA K) := hK ▸ op_catA
theorem k_eqD (hu : X.A.units + 64 < cLine) (hK : X.K = K := by rfl) : OpR X (compareOp .Eq) (rEqD K) := hK ▸ op_eqD hu
theorem k_neD (hu : X.A.units + 64 < cLine) (hK : X.K = K := by rfl) : OpR X (compareOp .NotEq) (rNeD K) := hK ▸ op_neD hu
theorem k_pi_list {tg l : Expr} {tl : TE} (hl : PE X l tl) (hK : X.K = K := by rfl) : PI X tg l (iList K tl) := hK ▸ pi_list hl
theorem k_pi_tup {tg l : Expr} {tl : TE} (hl : PE X l tl) (hK : X.K = K := by rfl) : PI X tg l (iTup K tl) := hK ▸ pi_tup hl
theorem k_mt_join (hK : X.K = K := by rfl) : MtR X "str.join" (fun x xs H Q => ∃ a p, ∃ ys : List Str, x = .str a ∧ xs = [.ref p] ∧ (SqL K H p (ys.map V.str) ∨ SqT K H p (ys.map V.str)) ∧ (ys.map (·.length)).sum + ys.length * a.length ≤ 16777216 ∧ Q (.str (Txt.join a ys)) H) := hK ▸ mt_join
end
/-! ### own errors -/
/-- what the written part says of an error's class -/
structure ExcCls (K : PySem.W.Frag) (mg : Str → Option Value) (x : Str) (C : Addr) : Prop where
  gC : mg x = some (.ref C)
  oex : OexC K C
  xf : XfC K C
  ha : PySem.W.findIn K (.ref C) "__class__" = some (some (.builtin "object.__class__"))
  hn : PySem.W.specialIn K (.builtin "object.__class__") "__get__" = some (some (.builtin "getset_descriptor.__get__"))
  ht : PySem.W.takesIn K (.builtin "object.__class__") = some true
  hm : PySem.W.mroIn K C (.type "object") = some true
/-- the error's own dict -/
def DOk (d : Option Addr) (H : Hp) : Prop := d = none ∨ ∃ dd fs, d = some dd ∧ H dd = some (.xd fs)
section
variable {X : Cx} {a : Addr} {oe : Obj} {cls : Value} {d : Option Addr} {pn : List (Addr × Obj)}
def rIsEd (K : PySem.W.Frag) (mg : Str → Option Value) (a : Addr) (cls : Value) (d : Option Addr) : List V → Hp → VK → Prop := fun xs H Q => ∃ (C D : Addr) (x : Str) (b : Bool), xs = [.ref a, .ref D] ∧ cls = .ref C ∧ ExcCls K mg x C ∧ DOk d H ∧ PySem.W.kitOne K (.ref C) (.ref D) = some b ∧ Q (.bl b) H
theorem oex_cls {K : PySem.W.Frag} {C : Addr} (T : OexC K C) : (PySem.W.clsIn K C).isSome = true := by
  obtain ⟨nm, q, N, bs, bm, sn, sub, ab, col, dd, k0, k1, k2, k3, k5, hC, hbm⟩ := T.cls
  unfold PySem.W.clsIn
  rw [hC] <;> rfl
theorem inst_exc {pins : List (Addr × Obj)} {σ : L2.St} {H : Hp} {s : Shared} {C : Addr} (I : Inv (X.suite a ((a, oe) :: pn)) pins σ H s) (hz : Zc (.ref C) d oe) (hf : ∃ vs, oe.data = .fields vs) (hd : DOk d H) : ∃ od, PySem.W.InstAt s.heap a oe C od := by
  obtain ⟨hget, _⟩ := I.pin (a, oe) (List.mem_append_left _ List.mem_cons_self)
  obtain ⟨vs, hv⟩ := hf
  rcases hd with rfl | ⟨dd, fs, rfl, ea⟩
  · exact ⟨none, hget, hz.1, by unfold PySem.W.notCls; rw [hv] <;> rfl, by rw [hz.2]; trivial⟩
  · have hx : ObjOk X.prog X.w H s.heap dd (.xd fs) := I.hok dd _ ea
    obtain ⟨mA, hns, hr⟩ := hx
    obtain ⟨od, ho, hl⟩ := lookIn_ns hns
    exact ⟨some od, hget, hz.1, by unfold PySem.W.notCls; rw [hv] <;> rfl, by rw [hz.2]; exact ho⟩
theorem call_isEd (hz : Zc cls d oe) (hf : ∃ vs, oe.data = .fields vs) : CallR (X.suite a ((a, oe) :: pn)) (.builtin "isinstance") (rIsEd X.K X.mg a cls d) := by
  intro pins s σ H xs us Q I r h
  obtain ⟨C, D, x, b, rfl, rfl, T, hd, e, q⟩ := h
  obtain ⟨od, J⟩ := inst_exc I hz hf hd
  cases r with
  | cons rx rr =>
    cases rr with
    | cons rt rr =>
      cases rr
      cases rx
      cases rt
      exact PySem.W.kia_one (PySem.W.kitx_exc (oex_cls T.oex) T.xf.ga T.xf.gg T.xf.exC T.ha T.hn T.ht T.hm) I.kIn J e (fun z => nomatch z) fun tk => ⟨.bl b, H, I.tok tk, rfl, q⟩
end
/-! ### an error with one field, made by its __init__ -/
def spInit1 (K : PySem.W.Frag) (C : Addr) (f : Str) : Sp := fun vs H Q _ => ∃ (a : Addr) (y : V), vs = [.ref a, y] ∧ H a = some (exo a C none) ∧ ∀ dx, H dx = none → dx ≠ a → Q .non (upd (upd H dx (exd dx [(f, y)])) a (exo a C (some dx)))
/-- the __init__ of the class at C stands -/
structure ExcInit1 (P : Program) (w : World) (K : PySem.W.Frag) (mg : Str → Option Value) (base : Heap) (C : Addr) (f : Str) : Prop where
  no : PySem.W.findIn K (.ref C) f = some none
  init : ∃ (fI : Addr) (fd : FuncData) (ps : List Str), PySem.W.findIn K (.ref C) "__init__" = some (some (.ref fI)) ∧ PySem.W.typeIn K (.ref fI) = some (.type "function") ∧ FnOk P w K mg base CX0 1 fI fd ps (spInit1 K C f) ∧ Binds K fd ps []
theorem raise1 {K : PySem.W.Frag} {C : Addr} {f : Str} {H1 : Hp} {y : V} {Q : XK} (q : ∀ d H', H1 d = none → Same H1 H' → H' d = some (.xd [(f, y)]) → Q (.ref C) (some d) H') :
    ∀ a, H1 a = none → spInit1 K C f (.ref a :: ([y] ++ [])) (upd H1 a (exo a C none)) (fun v H2 => v = .non ∧ ∃ (d : Addr) (fs : List (Str × V)), H2 a = some (exo a C (some d)) ∧ H2 d = some (exd d fs) ∧ H1 d = none ∧ Q (.ref C) (some d) (upd (del H2 a) d (.xd fs))) (fun _ _ _ => False) := fun a na => by
  refine ⟨a, y, rfl, upd_same, fun dx nx ne => ⟨rfl, dx, [(f, y)], upd_same, ?_, ?_, ?_⟩⟩
  · rw [upd_ne ne, upd_same]
  · rw [upd_ne ne] at nx
    exact nx
  · have nx1 : H1 dx = none := by
      rw [upd_ne ne] at nx
      exact nx
    refine q dx _ nx1 (fun b o hb => ?_) upd_same
    have h1 : b ≠ dx := ne_of_none hb nx1
    have h2 : b ≠ a := ne_of_none hb na
    rw [upd_ne h1, del_ne h2, upd_ne h2, upd_ne h1, upd_ne h2]
    exact hb
section
variable {X : Cx} {C : Addr} {f x : Str} {W : WX} {ta : TA} {e : Expr} {p pos pos2 : Pos} {k : Nat}
theorem ps_raise1 (hc : X.calm = true) (tk : Takes X W) (T : ExcCls X.K X.mg x C) (F : ExcInit1 X.prog X.w X.K X.mg X.base C f) (hr : Room k X.A) (hk : 2 ≤ k) (ha : PA X [e] ta) (hg : Gl X x := by rfl) (hdb : (x == ("__debug__" : Str)) = false := by decide)
    (he : starEach (e :: []) X.env = (false, eval e X.env) :: starEach [] X.env := by rfl) (hpl : (backTo pos (starEach [] X.env)).any (·.1) = false := by rfl) :
    PS X (.Raise (some (.Call (.Name x p) [e] [] pos)) none pos2) (fun _ σ H => tMkO C (spInit1 X.K C f) [] ta σ H fun cls d H' => W cls d σ H') := by
  obtain ⟨fI, fd, ps, iC, tI, F1, hb⟩ := F.init
  exact ps_raise hc tk (pmk_oex (dvs := []) T.oex iC tI F1 (hr.mono hk) hb .nil pass0 hg T.gC ha hdb he hpl)
end
/-! ### defs that may raise -/
section
variable {P : Program} {w : World} {K : PySem.W.Frag} {mg : Str → Option Value} {base : Heap}
theorem DefAt.calX {x : Str} {st : Stmt} {N ps : List Str} {k : Nat} {sp : Sp} (D : DefAt K mg x st ps) (S : FnScope N ps (defScope st)) (len : ∀ vs H Q E, sp vs H Q E → vs.length = ps.length)
    (hbody : ∀ (f : Addr) (cdv : Value) (A : Around) (outer : List Env) (s : Shared) (H : Hp) (vs : List V) (Q : VK) (E : XK), Room k (A.deeper (envOfC x (defScope st) s.heap.objs.size f cdv)) → sp vs H Q E →
      ∃ t, PSs (cxOf (L2.CX P w) P w K mg base N x (defScope st) f cdv A outer s H E) (defBody st) t ∧ t { nx := fun _ H' => Q .non H', rt := Q } (start N vs) H) : Cal P w K mg base (L2.CX P w) x (k + 1) ps sp := by
  obtain ⟨f, fd, F, m, b⟩ := D.ex
  exact ⟨f, fd, F.okX S len (hbody f), m, F.kp, b⟩
end
section
variable {X : Cx} {k j : Nat} {ps : List Str} {sp : Sp} {x : Str} {p pos : Pos} {e : Expr} {es : List Expr} {t : TA} {W : WX}
/-- a call of a def that may raise: what it lets out is wished for here -/
theorem pe_ownS (C : Cal X.prog X.w X.K X.mg X.base (L2.CX X.prog X.w) x k ps sp) (tk : Takes X W) (hr : Room j X.A) (hk : k ≤ j) (ha : PA X (e :: es) t) (hg : Gl X x := by rfl) (hdb : (x == ("__debug__" : Str)) = false := by decide)
    (he : starEach (e :: es) X.env = (false, eval e X.env) :: starEach es X.env := by rfl) (hpl : (backTo pos (starEach es X.env)).any (·.1) = false := by rfl) : PE X (.Call (.Name x p) (e :: es) [] pos) (tCallS sp (WE W) t) := by
  obtain ⟨f, fd, F, m, kp, b⟩ := C.ex
  exact pe_callS F (hr.mono hk) hg m kp b (fun σ => passAt tk σ) ha hdb he hpl
end
section
variable {X : Cx} {k j : Nat} {ps : List Str} {sp : Sp} {x : Str} {p pos : Pos} {e : Expr} {es : List Expr} {t : TA}
/-- a call of such a def where it raises nothing -/
theorem pe_ownL (C : Cal X.prog X.w X.K X.mg X.base (L2.CX X.prog X.w) x k ps sp) (hr : Room j X.A) (hk : k ≤ j) (ha : PA X (e :: es) t) (hg : Gl X x := by rfl) (hdb : (x == ("__debug__" : Str)) = false := by decide)
    (he : starEach (e :: es) X.env = (false, eval e X.env) :: starEach es X.env := by rfl) (hpl : (backTo pos (starEach es X.env)).any (·.1) = false := by rfl) : PE X (.Call (.Name x p) (e :: es) [] pos) (tCall sp [] E0 t) := by
  obtain ⟨f, fd, F, m, kp, b⟩ := C.ex
  exact pe_call F (hr.mono hk) hg m kp b .nil passL ha hdb he hpl
end
/-! ### one step at a time -/
theorem asg_lst {t : TA} {g : TG} {D : Ends} {σ : L2.St} {H : Hp} (h : t σ H (fun xs H1 => xs.length ≤ sizeLine ∧ ∀ p, H1 p = none → g (.ref p) σ (upd H1 p (.lst xs)) D.nx)) : tAsg (tLst t) g D σ H := h
theorem asg_op {r : R2} {i : Nat} {v : V} {t : TA} {g : TG} {D : Ends} {σ : L2.St} {H : Hp} (e : σ[i]? = some (some v)) (h : t σ H (fun xs H1 => xs.length ≤ sizeLine ∧ ∀ p, H1 p = none → r v (.ref p) (upd H1 p (.lst xs)) fun z H3 => g z σ H3 D.nx)) : tAsg (tOp r (tVar i) (tLst t)) g D σ H := ⟨v, e, h⟩
theorem seq_of {t u : TS} {D : Ends} {σ : L2.St} {H : Hp} (h : t { D with nx := u D } σ H) : tSeq t u D σ H := h
theorem next_of {D : Ends} {σ : L2.St} {H : Hp} (h : D.nx σ H) : tNext D σ H := h
theorem if_not {A B : Prop} (h : B) : if (!true) = true then A else B := h
/-! ### lists of pairs, a text and a number -/
/-- an expression that gives the text s, laying things at most -/
def Evs (ta : TE) (s : Str) : Prop := ∀ σ H (Q : VK), (∀ H', Same H H' → Q (.str s) H') → ta σ H Q
theorem evs_c {s : Str} : Evs (tC (.str s)) s := fun σ H Q q => q H (Same.refl H)
def tPairs : List (TE × V) → TA
  | [] => tNil
  | p :: r => tCons (tTup (tCons p.1 (tCons (tC p.2) tNil))) (tPairs r)
abbrev PairsAt (H : Hp) : List Addr → List (Str × V) → Prop := Paired fun a q => H a = some (.tup [.str q.1, q.2])
theorem PairsAt.same {H H' : Hp} (s : Same H H') : ∀ {as : List Addr} {qs : List (Str × V)}, PairsAt H as qs → PairsAt H' as qs
  | _, _, .nil => .nil
  | _, _, .cons h r => .cons (s _ _ h) (PairsAt.same s r)
theorem PairsAt.app {H : Hp} : ∀ {as bs : List Addr} {qs rs : List (Str × V)}, PairsAt H as qs → PairsAt H bs rs → PairsAt H (as ++ bs) (qs ++ rs)
  | _, _, _, _, .nil, h => h
  | _, _, _, _, .cons h r, h' => .cons h (PairsAt.app r h')
theorem PairsAt.get {H : Hp} : ∀ {as : List Addr} {qs : List (Str × V)} {i : Nat} {a : Addr}, PairsAt H as qs → as[i]? = some a → ∃ q, qs[i]? = some q ∧ H a = some (.tup [.str q.1, q.2])
  | _, _, _, _, .nil, e => by simp at e
  | _, _, 0, _, .cons h r, e => by
    have e := Option.some.inj e
    subst e
    exact ⟨_, rfl, h⟩
  | _, _, i + 1, _, .cons h r, e => PairsAt.get (i := i) r e
theorem pairs_run : ∀ {ps : List (TE × V)} {qs : List (Str × V)}, Paired (fun p q => Evs p.1 q.1 ∧ p.2 = q.2) ps qs → ∀ (σ : L2.St) (H : Hp) (Q : List V → Hp → Prop), (∀ as H', Same H H' → PairsAt H' as qs → Q (as.map V.ref) H') → tPairs ps σ H Q
  | _, _, .nil, σ, H, Q, q => q [] H (Same.refl H) .nil
  | _, _, @Paired.cons _ _ _ p w ps qs h r, σ, H, Q, q => by
    obtain ⟨h1, h2⟩ := h
    refine h1 σ H _ fun H1 s1 => ?_
    refine ⟨Nat.le_of_ble_eq_true rfl, fun a na => ?_⟩
    refine pairs_run r σ _ _ fun as H2 s2 hp => ?_
    refine q (a :: as) H2 (Same.trans (Same.trans s1 (Same.new na)) s2) (.cons ?_ hp)
    rw [← h2]
    exact s2 _ _ upd_same
theorem rows_first {ps : List (TE × V)} {qs : List (Str × V)} {i : Nat} {D : Ends} {σ : L2.St} {H : Hp} (hp : Paired (fun p q => Evs p.1 q.1 ∧ p.2 = q.2) ps qs) (hl : qs.length ≤ 1000)
    (k : ∀ (as : List Addr) (R : Addr) (H' : Hp), Same H H' → PairsAt H' as qs → H' R = some (.lst (as.map V.ref)) → as.length = qs.length → D.nx (σ.set i (some (.ref R))) H') : tAsg (tLst (tPairs ps)) (gName i) D σ H := by
  refine pairs_run hp σ H _ fun as H1 s1 pa => ?_
  have la : as.length = qs.length := Paired.length pa
  refine ⟨small_le (by rw [List.length_map]; omega), fun R nR => ?_⟩
  exact k as R _ (Same.trans s1 (Same.new nR)) (PairsAt.same (Same.new nR) pa) upd_same la
theorem rows_step {ps : List (TE × V)} {qs qs' : List (Str × V)} {i : Nat} {D : Ends} {σ : L2.St} {H : Hp} {R : Addr} {as : List Addr} (hp : Paired (fun p q => Evs p.1 q.1 ∧ p.2 = q.2) ps qs') (hR : H R = some (.lst (as.map V.ref))) (pa : PairsAt H as qs)
    (hs : σ[i]? = some (some (.ref R))) (hl : as.length + qs'.length ≤ 1000)
    (k : ∀ (as' : List Addr) (R' : Addr) (H' : Hp), Same H H' → PairsAt H' as' (qs ++ qs') → H' R' = some (.lst (as'.map V.ref)) → as'.length = as.length + qs'.length → D.nx (σ.set i (some (.ref R'))) H') : tAsg (tOp rCat (tVar i) (tLst (tPairs ps))) (gName i) D σ H := by
  refine ⟨_, hs, pairs_run hp σ H _ fun bs H1 s1 pb => ?_⟩
  have lb : bs.length = qs'.length := Paired.length pb
  refine ⟨small_le (by rw [List.length_map]; omega), fun B nB => ?_⟩
  refine ⟨R, B, as.map V.ref, bs.map V.ref, rfl, rfl, Same.new nB _ _ (s1 _ _ hR), upd_same, small_le (by rw [List.length_map, List.length_map]; omega), fun R' nR' => ?_⟩
  have s2 : Same H1 (upd (upd H1 B (.lst (bs.map V.ref))) R' (.lst (as.map V.ref ++ bs.map V.ref))) := Same.trans (Same.new nB) (Same.new nR')
  refine k (as ++ bs) R' _ (Same.trans s1 s2) (PairsAt.app (PairsAt.same (Same.trans s1 s2) pa) (PairsAt.same s2 pb)) (by rw [upd_same, List.map_append]) (by rw [List.length_append, lb])
/-! ### __init__: self.f = f -/
/-- the class's __init__, as it stands -/
structure MetAt (K : PySem.W.Frag) (C : Addr) (m qual : Str) (st : Stmt) (ps : List Str) : Prop where
  ex : ∃ (f : Addr) (fd : FuncData), PySem.W.findIn K (.ref C) m = some (some (.ref f)) ∧ PySem.W.typeIn K (.ref f) = some (.type "function") ∧ Fun K m qual st f fd ∧ Binds K fd ps []
/-! ### enumerate over a tuple -/
theorem enNewB {v : Value} {ob : Obj} {Hh : Heap → Prop} (B : Begins v ob Hh) :
    Meets (Builtin.«enumerate.__new__» ⟨[.type "enumerate", v], []⟩) (fun _ R z => Hh z.heap ∧
      R (.ok (.ret (.ref (z.heap.push ob).objs.size))) { z with heap := (z.heap.push ob).push { cls := .type "enumerate", data := .fields #[.none, .bool false, .ref z.heap.objs.size, rawInt 0, .none, .none] } }) :=
  .of_wp fun prog w A R z hz => by
    obtain ⟨hp, gs, dr, tk, os⟩ := z
    obtain ⟨hB, fin⟩ := hz
    have hsub := sub_enumerate
    have begin1 : ∀ {A' : Around} {E : Value → Shared → Prop} {Q : Value → Shared → Prop}, Q (.ref hp.objs.size) ⟨hp.push ob, gs, dr, tk, os⟩ → wpAny (model prog w) A' (pyIter v) Q E ⟨hp, gs, dr, tk, os⟩ :=
      fun q => B.iter prog w _ _ ⟨hp, gs, dr, tk, os⟩ _ hB q
    wp_walk using begin1
    refine wpAny_stack_any fun _ => wpAny_pure ?_
    split
    · rename_i c _ _ _ _ _
      cases (c == Value.type "enumerate") <;> (wp_walk using begin1; exact ⟨_, rfl, fin⟩)
    · wp_walk using begin1
      exact ⟨_, rfl, fin⟩
theorem enCallB {prog : Program} {w : World} {A : Around} {E : Value → Shared → Prop} {z : Shared} {v : Value} {ob : Obj} {Hh : Heap → Prop} {Q : Value → Shared → Prop} (B : Begins v ob Hh) (hB : Hh z.heap)
    (fin : ∀ h', IsEnum h' (z.heap.objs.size + 1) z.heap.objs.size 0 .none → h'.get? z.heap.objs.size = some ob →
      (∀ b o, z.heap.get? b = some o → h'.get? b = some o) → Q (.ref (z.heap.objs.size + 1)) { z with heap := h' }) :
    wpAny (model prog w) A (call (.type "enumerate") [v]) Q E z := by
  refine callType_new F.called_enumerate (by decide) (F.typeCall_enumerate_1 _) (F.newCall_enumerate_1 _) (fun obj => F.args_object_init_2 obj _) F.entry_enumerate_new (enNewB B) ⟨hB, ?_⟩
  have sz : (z.heap.push ob).objs.size = z.heap.objs.size + 1 := Heap.size_push ..
  have top := Heap.get?_push_size (z.heap.push ob) (o := { cls := .type "enumerate", data := .fields #[.none, .bool false, .ref z.heap.objs.size, rawInt 0, .none, .none] }) rfl
  rw [sz] at top
  show _ ∧ _
  rw [sz]
  exact ⟨⟨_, top, rfl⟩, fin _ top (Heap.get?_push_of_some _ (Heap.get?_push_size _ B.free)) fun b o x => Heap.get?_push_of_some _ (Heap.get?_push_of_some _ x)⟩

/-- the tuple at a, each item with its count in a pair of its own -/
def ItEn (K : PySem.W.Frag) (a : Addr) : It where
  go i H := ∃ (xs : List V) (x : V), SqT K H a xs ∧ xs[i]? = some x
  yld i H v H' := ∃ T x, v = .ref T ∧ H T = none ∧ H' = upd H T (.tup [.int (i : Nat), x]) ∧ ∀ xs, SqT K H a xs → xs[i]? = some x
  stop i H := ∃ xs : List V, SqT K H a xs ∧ xs.length ≤ i
theorem turnEn {P : Program} {w : World} {K : PySem.W.Frag} {elts : List Expr} {kk : Nat} {tpos : Pos} (a e it : Addr) :
    Turn P w K (.Tuple elts kk tpos) (ItEn K a) [e, it] e (fun i h => (∃ old, IsEnum h e it ((i : Nat) : Int) old) ∧ h.IsTupleIter it a i ∧ e ≠ it) where
  mem := List.mem_cons_self
  obj i h st b hb := by
    obtain ⟨⟨old, he⟩, ⟨o, ho, hc, hd⟩, _⟩ := st
    rcases List.mem_cons.mp hb with rfl | hb
    · exact ⟨_, he, fun v q => nomatch q⟩
    · cases List.mem_singleton.mp hb
      exact ⟨o, ho, fun v q => by rw [hd] at q; cases q⟩
  keep i h h' st k := by
    obtain ⟨⟨old, he⟩, hi, hne⟩ := st
    exact ⟨⟨old, k e List.mem_cons_self _ he⟩, hi.at fun o q => k it (List.mem_cons_of_mem _ List.mem_cons_self) o q, hne⟩
  item := by
    intro X hP hw hK hc i pins s σ H E I hf st hg
    subst hP hw hK
    obtain ⟨⟨old, he⟩, hit, hne⟩ := st
    obtain ⟨xs, x, hq, hx⟩ := hg
    obtain ⟨its, rv, p, hz⟩ := I.tuple hq
    obtain ⟨u, hu, ru⟩ := rv.get hx
    have ht : s.heap.IsTuple a its.toArray := p
    have tof : it ∈ [e, it] := List.mem_cons_of_mem _ List.mem_cons_self
    have le : e < s.heap.objs.size := Heap.lt_size he
    have li : it < s.heap.objs.size := by obtain ⟨_, q, _⟩ := hit; exact Heap.lt_size q
    have ane : a ≠ it := fun z => by
      obtain ⟨o1, g1, c1, _⟩ := hit
      obtain ⟨o2, g2, c2, _⟩ := ht
      rw [z, g1] at g2
      cases g2
      rw [c1] at c2
      exact absurd c2 (by decide)
    have ane2 : a ≠ e := fun z => by
      obtain ⟨o2, g2, c2, _⟩ := ht
      rw [z, he] at g2
      cases g2
      exact absurd (show Value.type "enumerate" = Value.type "tuple" from c2) (by decide)
    have D := Draws.tuple (prog := X.prog) (w := X.w) (A := X.A.in1) (I.ok.hd hc) it a ane its.toArray
    have hlt : i < its.toArray.size := by
      rw [List.size_toArray]
      exact (List.getElem?_eq_some_iff.mp hu).1
    refine wpAny_pyNext_enum_itemD D he ⟨hit, ht⟩ hlt hne (fun z => ?_) fun u2 h' tk hP ho st' hT hsz hk => ?_
    · rcases List.mem_cons.mp z with z | z
      · exact hne z
      · exact ane2 (List.mem_singleton.mp z).symm
    have eu : u2 = u := by
      have q : its.toArray[i]? = some u2 := hP
      rw [List.getElem?_toArray, hu] at q
      exact (Option.some.inj q).symm
    subst eu
    refine ⟨_, rfl, wpAny_letOwnedTupleGo_enum (s := { s with heap := h', toks := tk + 1 }) ho fun h2 he2 sb => ?_⟩
    have gT : h2.get? s.heap.objs.size = some { cls := .type "tuple", data := .seq #[.int i tk, u2] } := (sb.2 _ (Nat.ne_of_gt le)).trans hT
    have okT : ObjOk X.prog X.w (upd H s.heap.objs.size (.tup [.int (i : Nat), x])) h2 s.heap.objs.size (.tup [.int (i : Nat), x]) :=
      ⟨by show 2 ≤ sizeLine; decide, [.int i tk, u2], .cons ⟨_, rfl⟩ (.cons ru .nil), ⟨_, gT, rfl, _, rfl⟩⟩
    have J : Inv X pins σ (upd H s.heap.objs.size (.tup [.int (i : Nat), x])) { s with heap := h2, toks := tk + 1 } := by
      refine I.turnedNew (ch := [e, it]) (fun b ob hb q => ?_) hf (Nat.le_refl _) okT
      have b1 : b ≠ e := fun z => hb (z ▸ List.mem_cons_self)
      have b2 : b ≠ it := fun z => hb (z ▸ tof)
      exact (sb.2 b b1).trans (hk b ob b1 b2 q)
    refine ⟨.ref s.heap.objs.size, _, J, rfl, ⟨_, x, rfl, I.hok.fresh (Nat.le_refl _), rfl, fun ys hy => ?_⟩, ⟨⟨u2, ?_⟩, st'.1.at fun o q => (sb.2 it (Ne.symm hne)).trans q, hne⟩, fun b hb => ?_⟩
    · rw [I.tuple_inj hy hq]
      exact hx
    · have e1 : ((i + 1 : Nat) : Int) = (i : Int) + 1 := Int.natCast_succ i
      rw [e1]
      exact he2
    · have lb : b < s.heap.objs.size := by
        rcases List.mem_cons.mp hb with z | z
        · exact z ▸ le
        · exact List.mem_singleton.mp z ▸ li
      rw [upd_ne (Nat.ne_of_lt lb)]
      exact (hf b hb).1
  done := by
    intro X hP hw hK hc i pins s σ H E I hf st hg
    subst hP hw hK
    obtain ⟨⟨old, he⟩, hit, hne⟩ := st
    obtain ⟨xs, hq, hx⟩ := hg
    obtain ⟨its, rv, p, hz⟩ := I.tuple hq
    have ht : s.heap.IsTuple a its.toArray := p
    have fit := hf it (List.mem_cons_of_mem _ List.mem_cons_self)
    have hT : s.TypeIs (.ref e) "enumerate" := ⟨_, he, rfl⟩
    have none1 : its.toArray[i]? = none := by
      have := rv.length
      rw [List.getElem?_toArray]
      exact List.getElem?_eq_none (by omega)
    unfold pyNext
    refine wpAny_bind (wpAny_attempt (wpAny_callSpecial?_slot (name := Str.ofString "__next__") hT F.slot_enumerate_next (wpAny_call_entry F.slot_enumerate_next hT F.entry_enumerate_next ?_ (F.args_enumerate_next_1 _))))
    show wpAny _ _ (field (.ref e) 2 >>= _) _ _ _
    refine wpAny_bind (wpAny_field he rfl (x := .ref it) rfl ?_)
    refine wpAny_bind (wpAny_nextOf_tuple_end (I.ok.hd hc) hit ht none1 fun h2 x2 eb ⟨ox, hox, hcx⟩ => ?_)
    refine wpAny_bind (wpAny_isInstance (T := "StopIteration") (b := true) ⟨ox, hox, hcx⟩ isSubtype_stop ?_)
    exact wpAny_pure ⟨rfl, I.turned (t' := s.toks) (fun b o hb q => eb b o hb q) fit.1 fit.2.1 fit.2.2.2.1 fit.2.2.2.2.1 fit.2.2.2.2.2⟩
  self A i s Q E st h := let ⟨⟨_, he⟩, _⟩ := st; wpAny_pyIter_enum he h
def iEnT (K : PySem.W.Frag) (ta : TA) : TI := fun σ H R => ta σ H fun vs H1 => ∃ a xs, vs = [.ref a] ∧ SqT K H1 a xs ∧ R (ItEn K a) H1
theorem pi_enT {X : Cx} {e : Expr} {ta : TA} {p pos tpos : Pos} {elts : List Expr} {kk : Nat} (hg : Gl X "enumerate") (hm : X.mg "enumerate" = none) (ha : PA X [e] ta) (hs : starEach [e] X.env = [(false, eval e X.env)] := by rfl) :
    PI X (.Tuple elts kk tpos) (.Call (.Name "enumerate" p) [e] [] pos) (iEnT X.K ta) := by
  refine ⟨fun pins s σ H R I h => ?_⟩
  refine Call_ (ld_blt I hg hm boot_enumerate (PyProof.Rows.callWith_type1 (thn (ha.run pos pins s σ H _ I h) fun us s1 ⟨vs, H1, I1, r1, q1⟩ => ?_) hs rfl))
  obtain ⟨a, xs, rfl, hq, q⟩ := q1
  obtain ⟨u, rfl, ru⟩ := vals1 r1
  obtain rfl : u = Value.ref a := ru
  obtain ⟨its, rv, p', hz⟩ := I1.tuple hq
  refine enCallB (begins_tuple a its.toArray) p' fun h' he hit hk => wpAny_pyIter_enum he ?_
  have I2 : Inv X pins σ H1 { s1 with heap := h' } := I1.kept (t' := s1.toks) hk
  refine ⟨s1.heap.objs.size + 1, [s1.heap.objs.size + 1, s1.heap.objs.size], _, _, H1, rfl, I2, turnEn a (s1.heap.objs.size + 1) s1.heap.objs.size, ⟨⟨.none, he⟩, ⟨_, hit, rfl, rfl⟩, Nat.succ_ne_self _⟩, fun b hb => ?_, q⟩
  have up : s1.heap.objs.size ≤ b := by
    rcases List.mem_cons.mp hb with z | z
    · rw [z]
      exact Nat.le_succ _
    · rw [List.mem_singleton.mp z]
      exact Nat.le_refl _
  exact I1.fpOk up (I1.hok.fresh up)
theorem walkEn {K : PySem.W.Frag} {a : Addr} {xs : List V} : Walk (ItEn K a) xs.length (fun H => SqT K H a xs) (YPair (fun i => some (.int (i : Nat))) (fun i => xs[i]?)) where
  goes i _ hi q := ⟨xs, xs[i], q, List.getElem?_eq_getElem hi⟩
  stops _ q := ⟨xs, q, Nat.le_refl _⟩
  yields i H v H' _ q y := by
    obtain ⟨T, x, h1, h2, h3, h4⟩ := y
    exact ⟨T, .int (i : Nat), x, h1, h2, h3, rfl, h4 xs q⟩
/-! ### a dict whose keys are tuples, made by a comprehension -/
theorem dsetT {X : Cx} {pins : List (Addr × Obj)} {σ : L2.St} {H : Hp} {z : Shared} {E : Value → Shared → Prop} {D b : Addr} {kvs : List (List Key × V)} {k : List Key} {v : V} {r : Value} {Q : Unit → Shared → Prop}
    (room : X.A.units < cLine) (I : Inv X pins σ H z) (hD : H D = some (.dT kvs)) (hb : H b = some (.tup (k.map kV))) (lt : kvs.length < sizeLine) (rv : RelV v r)
    (fin : ∀ z', Inv X pins σ (upd H D (.dT (putK kvs k v))) z' → Q () z') : wpAny (model X.prog X.w) X.A (dictSet D (.ref b) r) Q E z := by
  obtain ⟨_, hs, xs, kt, dd⟩ := dt_of I.hok hD
  have small : xs.length ≤ sizeLine := by
    rw [← Paired.length kt]
    omega
  have grown : (putK kvs k v).length ≤ sizeLine := by
    have := length_putK kvs k v
    omega
  refine wpAny_dictSet_heap (hsz := small) room (key_of I.hok hb) dd fun h2 d2 sb => fin _ ?_
  obtain ⟨o2, es, ep, g2, c2, t2, e2, _, n2⟩ := d2
  refine d_write I (by rw [hD]; trivial) sb ⟨o2, g2⟩ ⟨grown, hs, _, (kt.put k hb rv).keeps fun c ys ec => ?_, o2, es, ep, g2, c2, t2, e2, n2⟩
  exact (upd_ne (ne_of ec hD (fun z => nomatch z))).trans ec
def tDcT (wi : TI) (g : TG) (tk tv : TE) (own : List Nat) : TE := fun σ H Q => wi σ H fun J H1 => ∀ D, H1 D = none → ∃ W : Nat → Nat → Hp → Prop, (∃ m, W 0 m (upd H1 D (.dT []))) ∧ ∀ i m H, W i m H →
  (J.stop i H ∧ Q (.ref D) H) ∨ (J.go i H ∧ ∃ Nx : Hp → Prop, (∀ H', Nx H' → ∃ m', m' < m ∧ W (i + 1) m' H') ∧ ∀ x H', J.yld i H x H' → g x (wipe σ own) H' fun σ2 H2 => wipe σ2 own = wipe σ own ∧
    tk σ2 H2 fun y H3 => tv σ2 H3 fun c H4 => ∃ kvs k b, y = .ref b ∧ H4 b = some (.tup (k.map kV)) ∧ H4 D = some (.dT kvs) ∧ kvs.length < sizeLine ∧ Nx (upd H4 D (.dT (putK kvs k c))))
theorem pe_dcT {X : Cx} {kx vx tg iter : Expr} {scope : Scope} {own : List (Str × Nat)} {pos : Pos} {wi : TI} {g : TG} {tk tv : TE} (calm : X.calm = true) (room : X.A.units < cLine) (nd : X.N.Nodup) (src : PI X tg iter wi) (blk : BlkOk X.N X.env.scope scope own)
    (aim : ∀ (z : Shared) (Hz : Hp) (cl : List (Str × Addr)) (C : Addr) (fp : List Addr), PG (X.blk z Hz scope (compEnvC scope cl C X.env) fp) tg g)
    (key : ∀ (z : Shared) (Hz : Hp) (cl : List (Str × Addr)) (C : Addr) (fp : List Addr), PE (X.blk z Hz scope (compEnvC scope cl C X.env) fp) kx tk)
    (val : ∀ (z : Shared) (Hz : Hp) (cl : List (Str × Addr)) (C : Addr) (fp : List Addr), PE (X.blk z Hz scope (compEnvC scope cl C X.env) fp) vx tv) (plain : ∀ x, foldedSetIterable iter X.env x = pure x := by intro _; rfl) :
    PE X (.DictComp kx vx [⟨tg, iter, [], 0⟩] scope pos) (tDcT wi g tk tv (own.map (·.2))) := by
  refine ⟨fun pins s σ H Q I want => ?_⟩
  rw [arm_eval_DictComp]
  have outer : ∀ y ∈ scope.names, y.2 = .free → ∃ c, X.env.cells.lookup y.1 = some c := fun y hy e => (blk.free y hy e).elim (fun k => I.ok.has _ (.inl k)) fun k => I.ok.has _ (.inr k)
  refine wpAny_comprehension_free (use := none) rfl plain (closure_ok outer) blk.kind (fun y hy e => by rw [blk.uniq y hy, e]) (thn (src.run pins s σ H _ I want) fun _ _ begun => thn begun fun itv s2 ready => ?_)
  obtain ⟨it, fp, tn, J, H2, rfl, I2, T, at0, out2, rest⟩ := ready
  refine wpAny_newObj_type (newEnv_comp ?_)
  have fresh : H2 s2.heap.objs.size = none := I2.hok.fresh (Nat.le_refl _)
  obtain ⟨W, ⟨m0, w0⟩, turn⟩ := rest _ fresh
  have laid := I2.laid (a := s2.heap.objs.size) (o := .dT []) (t' := s2.toks) (fun b o e => Heap.get?_push_of_some _ e) (Nat.le_refl _) (dt_empty s2.heap I2.big)
  have below : ∀ b ∈ fp, b < s2.heap.objs.size := fun b hb => let ⟨_, e, _⟩ := T.obj _ _ at0 b hb; Heap.lt_size e
  have fp3 : ∀ b ∈ fp, FpOk X pins (upd H2 s2.heap.objs.size (.dT [])) b ∧ b < (s2.heap.push { cls := .type "dict", data := .dict #[] }).objs.size := fun b hb => by
    refine ⟨⟨(upd_ne (Nat.ne_of_lt (below b hb))).trans (out2 b hb).1, (out2 b hb).2⟩, ?_⟩
    rw [Heap.size_push]
    exact Nat.lt_succ_of_lt (below b hb)
  have at3 : tn 0 (s2.heap.push { cls := .type "dict", data := .dict #[] }) := T.keep _ _ _ at0 fun b _ o e => Heap.get?_push_of_some _ e
  generalize hz : ({ s2 with heap := s2.heap.push { cls := .type "dict", data := .dict #[] } } : Shared) = z at laid
  have hzh : z.heap = s2.heap.push { cls := .type "dict", data := .dict #[] } := by rw [← hz]
  rw [← hzh] at fp3 at3
  have inner := block_start laid blk nd fp3
  have aim' := aim z (upd H2 s2.heap.objs.size (.dT [])) (cellsFrom (z.heap.objs.size + 1) scope.names (cloFrom X.env.cells scope.names [])) z.heap.objs.size fp
  have key' := key z (upd H2 s2.heap.objs.size (.dT [])) (cellsFrom (z.heap.objs.size + 1) scope.names (cloFrom X.env.cells scope.names [])) z.heap.objs.size fp
  have val' := val z (upd H2 s2.heap.objs.size (.dT [])) (cellsFrom (z.heap.objs.size + 1) scope.names (cloFrom X.env.cells scope.names [])) z.heap.objs.size fp
  have noFp : ∀ b ∈ fp, upd H2 s2.heap.objs.size (.dT []) b = none := fun b hb => (fp3 b hb).1.1
  have goal2 : codeAny (model X.prog X.w) X.A (.compStart (.DictComp kx vx [⟨tg, iter, [], 0⟩] scope pos) 0 (.ref it) (.ref s2.heap.objs.size) (compEnvC scope (cellsFrom (z.heap.objs.size + 1) scope.names (cloFrom X.env.cells scope.names [])) z.heap.objs.size X.env))
      (compPost (model X.prog X.w) X.A X.xe none (EP X pins σ Q) (.ref s2.heap.objs.size) z.heap.objs.size) { z with heap := pushCells (z.heap.push { cls := .type "dict", data := .dict #[] }) scope.names } := ?_
  · exact goal2
  generalize hce : compEnvC scope (cellsFrom (z.heap.objs.size + 1) scope.names (cloFrom X.env.cells scope.names [])) z.heap.objs.size X.env = ce at inner aim' key' val' ⊢
  have loc : ce.locals = z.heap.objs.size := by rw [← hce]; rfl
  generalize hB : upd H2 s2.heap.objs.size (.dT []) = Hb at laid inner aim' key' val' w0 noFp fp3
  generalize hs4 : ({ z with heap := pushCells (z.heap.push { cls := .type "dict", data := .dict #[] }) scope.names } : Shared) = s4 at inner ⊢
  have at4 : tn 0 s4.heap := T.keep _ _ _ at3 fun b _ o e => by
    rw [← hs4]
    exact pushCells_keeps _ _ _ _ (Heap.get?_push_of_some _ e)
  have apart : ∀ {σ1 : L2.St} {H1 : Hp} {z1 : Shared}, Inv (X.blk z Hb scope ce fp) [] σ1 H1 z1 → (∀ b ∈ fp, H1 b = none) → ∀ b ∈ fp, FpOk (X.blk z Hb scope ce fp) [] H1 b := fun I1 n1 b hb =>
    ⟨n1 b hb, (I1.ok.exf b hb).1, I1.ok.exfs b hb, .inl hb, fun x c e => (I1.ok.exf b hb).2 x c e, fun p hp => nomatch hp⟩
  have loop : codeAny (model X.prog X.w) X.A (.compLoop (.DictComp kx vx [⟨tg, iter, [], 0⟩] scope pos) 0 (.ref it) (.ref s2.heap.objs.size) ce) (compPost (model X.prog X.w) X.A X.xe none (EP X pins σ Q) (.ref s2.heap.objs.size) z.heap.objs.size) s4 := by
    refine compLoop_anyD (fun n z1 => ∃ i H1, Inv (X.blk z Hb scope ce fp) [] (wipe σ (own.map (·.2))) H1 z1 ∧ tn i z1.heap ∧ (∀ b ∈ fp, H1 b = none) ∧ W i n H1) ?_ m0 ⟨0, Hb, inner, at4, noFp, w0⟩
    rintro n z5 ⟨i, H5, I5, at5, n5, w5⟩
    cases turn i n H5 w5 with
    | inl over =>
      obtain ⟨stop, told⟩ := over
      refine thnF (T.done (X.blk z Hb scope ce fp) rfl rfl rfl calm i [] z5 _ H5 (fun _ _ => False) I5 (apart I5 n5) at5 stop) fun r z6 ⟨hr, I6⟩ => ?_
      subst hr
      have back : Inv X pins σ H5 z6 := laid.call' (ch := fp) I6.os I6.base I6.hok I6.bare fun b hb => let f := (fp3 b hb).1; ⟨f.2.2.2.1, f.2.1, f.2.2.2.2.1, f.2.2.2.2.2⟩
      have nL : H5 z.heap.objs.size = none := by rw [← loc]; exact I6.free
      obtain ⟨m, ns, _⟩ := I6.loc
      have ns' : z6.heap.Ns ce.locals m := ns
      rw [loc] at ns'
      refine ⟨m, ns', fun h7 sb => ?_⟩
      have f := laid.fpOk (Nat.le_refl z.heap.objs.size) nL
      exact ⟨.ref s2.heap.objs.size, H5, back.turned (t' := z6.toks) (fun b o hb e => (sb.2 b hb).trans e) f.1 f.2.1 f.2.2.2.1 f.2.2.2.2.1 f.2.2.2.2.2, rfl, told⟩
    | inr more =>
      obtain ⟨go, Nx, after, step⟩ := more
      refine thnF (T.item (X.blk z Hb scope ce fp) rfl rfl rfl calm i [] z5 _ H5 (fun _ _ => False) I5 (apart I5 n5) at5 go) fun r z6 ⟨u, hr, h6⟩ => ?_
      subst hr
      refine thnF h6 fun _ z7 ⟨x, H7, I7, r7, y7, at7, n7⟩ => ?_
      refine thnF (aim'.run _ z7 _ H7 x u _ (I7.pinned (apart I7 n7) (T.obj _ _ at7)) r7 (step x H7 y7)) fun _ z8 ⟨σ8, H8, I8, same8, q8⟩ => ?_
      refine wpAny_pure ?_
      show if true = true then _ else _
      rw [if_pos rfl]
      refine thnF (key'.run _ z8 σ8 H8 _ I8 q8) fun ky z9 ⟨yk, H9, I9, r9, q9⟩ => ?_
      refine thnF (val'.run _ z9 σ8 H9 _ I9 q9) fun vy z10 ⟨yv, H10, I10, r10, kvs, k, b, eb, hb10, hD10, lt10, nx⟩ => ?_
      subst eb
      obtain rfl : ky = Value.ref b := r9
      refine dsetT (X := X.blk z Hb scope ce fp) room I10 hD10 hb10 lt10 r10 fun z11 I11 => ?_
      obtain ⟨m', less, w'⟩ := after _ nx
      have pin : ∀ c ∈ fp, ∀ o, z7.heap.get? c = some o → z11.heap.get? c = some o ∧ upd H10 s2.heap.objs.size (.dT (putK kvs k yv)) c = none := fun c hc o e => by
        have p := I11.pin (c, o) (List.mem_append_right _ (List.mem_append_right _ (mem_pinsAt hc e)))
        exact ⟨p.1, p.2.1⟩
      refine ⟨m', less, i + 1, _, (I11.unpinned (pins := [])).weak ?_ (fun j v e => ?_), T.keep _ _ _ at7 fun c hc o e => (pin c hc o e).1, fun c hc => ?_, w'⟩
      · rw [← same8, wipe_length]
      · rw [← same8] at e
        exact (wipe_some e).1
      · obtain ⟨o, e, _⟩ := T.obj _ _ at7 c hc
        exact (pin c hc o e).2
  exact codeAny_compStart_dict loop (T.self X.A 0 _ _ _ at4 loop)
/-! ### sorting tuples of ints -/
/-- the order of tuples of ints -/
def ltZ : List Int → List Int → Bool
  | [], [] => false
  | [], _ :: _ => true
  | _ :: _, [] => false
  | x :: r, y :: t => decide (x < y) || (!decide (y < x) && ltZ r t)
theorem ltZ_lex : ∀ a b : List Int, lexLt itemOrd (a.map Sum.inl) (b.map Sum.inl) = ltZ a b
  | [], [] => rfl
  | [], _ :: _ => rfl
  | _ :: _, [] => rfl
  | x :: r, y :: t => by
    show lexLt itemOrd (Sum.inl x :: r.map Sum.inl) (Sum.inl y :: t.map Sum.inl) = _
    rw [lex_cons, ltZ_lex r t]
    rfl
def TupI (h : Heap) (u : Value) (ks : List Int) : Prop := ∃ a o its n, u = Value.ref a ∧ h.get? a = some o ∧ o.cls = .type "tuple" ∧ o.data = .seq its n ∧ Vals (ks.map V.int) its.toList
theorem TupI.keep {h h' : Heap} {u : Value} {ks : List Int} (t : TupI h u ks) (k : ∀ b o, h.get? b = some o → h'.get? b = some o) : TupI h' u ks := by
  obtain ⟨a, o, its, n, e, g, r⟩ := t
  exact ⟨a, o, its, n, e, k _ _ g, r⟩
theorem tupItems_ints : ∀ (ks : List Int) (us : List Value) (i : Nat), Vals (ks.map V.int) us → tupItems (fun _ => false) i us = some (ks.map Sum.inl)
  | [], us, i, r => by
    cases r
    rfl
  | k :: ks, us, i, r => by
    cases r with
    | cons r1 r2 =>
      obtain ⟨t, rfl⟩ := r1
      show (if (fun _ : Nat => false) i = true then none else (tupItems (fun _ => false) (i + 1) _).map (Sum.inl k :: ·)) = _
      rw [if_neg (fun z => nomatch z), tupItems_ints ks _ (i + 1) r2]
      rfl
theorem TupI.key {h : Heap} {u : Value} {ks : List Int} (t : TupI h u ks) : G.tupKeyC h (fun _ => false) u = some (ks.map Sum.inl) := by
  obtain ⟨a, o, its, n, rfl, g, c, d, r⟩ := t
  exact G.tupKeyC_of g c d (tupItems_ints ks _ 0 r)
theorem tupsOf_ints {h : Heap} {k : Value → List Int} : ∀ {vs : List Value}, (∀ u ∈ vs, TupI h u (k u) ∧ k u ≠ []) → ∃ fs, TupsOf h (fun _ => false) vs fs
  | [], _ => ⟨[], .nil⟩
  | u :: vs, e => by
    obtain ⟨fs, r⟩ := tupsOf_ints (vs := vs) fun y hy => e y (List.mem_cons_of_mem _ hy)
    obtain ⟨t, ne⟩ := e u List.mem_cons_self
    obtain ⟨a, o, its, n, rfl, g, c, d, rv⟩ := t
    revert ne rv
    generalize k (Value.ref a) = ks
    intro ne rv
    cases ks with
    | nil => exact absurd rfl ne
    | cons k0 kr =>
      generalize hl : its.toList = l at rv
      cases rv with
      | cons r1 r2 =>
        obtain ⟨t, rfl⟩ := r1
        have h0 : its[0]? = some (Value.int k0 t) := by rw [← Array.getElem?_toList, hl]; rfl
        exact ⟨_, .cons ⟨a, o, its, n, rfl, g, c, d, h0, fun _ => ⟨_, _, rfl⟩, fun z => nomatch z⟩ r⟩
/-- what a sort of keyed pairs leaves, told of the values -/
theorem sorted_told {h : Heap} {k : Value → List Int} {vs : List Value} {arr : Array Keyed} (each : ∀ u ∈ vs, TupI h u (k u)) (hp : arr.Perm (PyProof.Rows.pairsOf vs)) (hs : SortedToK (G.tupKindC h fun _ => false) arr (PyProof.Rows.pairsOf vs).size) :
    (arr.map (·.2)).toList.Perm vs ∧ (arr.map (·.2)).toList.Pairwise fun x y => ltZ (k y) (k x) = false := by
  have pl := Array.perm_iff_toList_perm.mp hp
  rw [pairsOf_toList] at pl
  have two : ∀ p ∈ arr.toList, p.1 = p.2 ∧ p.1 ∈ vs := fun p m => mem_zip_self (pl.mem_iff.mp m)
  have e : (arr.map (·.2)).toList = arr.toList.map (·.2) := by simp
  rw [e]
  constructor
  · have z := pl.map (·.2)
    rw [List.map_snd_zip (Nat.le_refl _)] at z
    exact z
  · rw [List.pairwise_map, List.pairwise_iff_getElem]
    intro i j hi hj lt
    have sz : arr.size = (PyProof.Rows.pairsOf vs).size := hp.size_eq
    have q := hs i j (Nat.le_of_lt lt) (by rw [← sz]; simpa using hj)
    have at_ : ∀ (n : Nat) (hn : n < arr.toList.length), KK (G.tupKindC h fun _ => false) arr n = (k (arr.toList[n]).2).map Sum.inl := fun n hn => by
      obtain ⟨e1, m1⟩ := two _ (List.getElem_mem hn)
      have g : arr[n]? = some arr.toList[n] := by rw [← Array.getElem?_toList]; exact List.getElem?_eq_getElem hn
      unfold KK
      rw [g]
      show (G.tupKeyC h (fun _ => false) (arr.toList[n]).1).getD [] = _
      rw [(each _ m1).key, ← e1]
      rfl
    have q2 : lexLt itemOrd (KK (G.tupKindC h fun _ => false) arr j) (KK (G.tupKindC h fun _ => false) arr i) = false := q
    rw [at_ i hi, at_ j hj, ltZ_lex] at q2
    exact q2
section
variable {prog : Program} {w : World} {A : Around} {E : Value → Shared → Prop} {z : Shared}
/-- sorted(v), v's items tuples of ints -/
theorem sort_ints_of {v : Value} {vs : List Value} {k : Value → List Int} {Q : Value → Shared → Prop} (each : ∀ u ∈ vs, TupI z.heap u (k u) ∧ k u ≠ []) (small : vs.length ≤ sizeLine)
    (col : ∀ (A' : Around) (R : List Value → Shared → Prop) (E' : Value → Shared → Prop), A'.handled = A.handled → (∀ h' tk, (∀ b o, z.heap.get? b = some o → h'.get? b = some o) → z.heap.objs.size ≤ h'.objs.size → R vs { z with heap := h', toks := tk }) → wpAny (model prog w) A' (collect v) R E' z)
    (fin : ∀ h' tk p (out : Array Value) n, (∀ b o, z.heap.get? b = some o → h'.get? b = some o) → z.heap.objs.size ≤ p → h'.get? p = some (seqObj "list" out n) → out.toList.Perm vs → (out.toList.Pairwise fun x y => ltZ (k y) (k x) = false) → Q (.ref p) { z with heap := h', toks := tk }) :
    wpAny (model prog w) A (call (.builtin "sorted") [v]) Q E z := by
  refine Calls.call_function_entry kind_sorted plain_sorted entry_sorted (args_sorted1 _) ?_
  unfold Builtin.«sorted»
  refine wpAny_bind (m := checkCount "sorted" 1 1 _) (wpAny_pure ?_)
  refine wpAny_bind (col _ _ _ rfl fun h1 tk kp le => ?_)
  refine wpAny_bind (wpAny_newList ?_)
  have gL : (h1.push (seqObj "list" vs.toArray 0)).get? h1.objs.size = some (seqObj "list" vs.toArray 0) := Heap.get?_push_size _ rfl
  have kp2 : ∀ b o, z.heap.get? b = some o → (h1.push (seqObj "list" vs.toArray 0)).get? b = some o := fun b o e => Heap.get?_push_of_some _ (kp b o e)
  have each2 : ∀ u ∈ vs, TupI (h1.push (seqObj "list" vs.toArray 0)) u (k u) ∧ k u ≠ [] := fun u hu => ⟨(each u hu).1.keep kp2, (each u hu).2⟩
  obtain ⟨fs, tf⟩ := tupsOf_ints each2
  refine wpAny_bind (wpAny_holding (wpAny_call_entry slot_list_sort ⟨_, gL, rfl⟩ entry_list_sort
    (G.list_sort_tups (s := { z with heap := h1.push (seqObj "list" vs.toArray 0), toks := tk }) gL tf (fun u hu => ⟨_, (each2 u hu).1.key⟩) small fun st' a1 a2 a3 => ⟨_, rfl, ?_⟩) (args_list_sort _)))
  obtain ⟨t1, t2⟩ := sorted_told (fun u hu => (each2 u hu).1) a1 a2
  obtain ⟨n, gn⟩ := sortedHeap_at (vs := vs) (out := (arrOf st').map (·.2)) gL
  exact wpAny_pure ⟨_, rfl, fin _ _ _ _ n (fun b o e => (sortedHeap_old (Nat.ne_of_lt (Nat.lt_of_lt_of_le (Heap.lt_size e) le)) (Heap.lt_size (kp2 b o e))).trans (kp2 b o e)) le gn t1 t2⟩
theorem ints_inj : ∀ {ks ls : List Int}, ks.map V.int = ls.map V.int → ks = ls
  | [], [], _ => rfl
  | [], _ :: _, e => nomatch e
  | _ :: _, [], e => nomatch e
  | k :: ks, l :: ls, e => by
    obtain ⟨e1, e2⟩ := List.cons.inj e
    rw [V.int.inj e1, ints_inj e2]
theorem TupI.uniq {h : Heap} {u : Value} {ks ls : List Int} (a : TupI h u ks) (b : TupI h u ls) : ks = ls := by
  obtain ⟨p, o, its, n, e, g, _, d, r⟩ := a
  obtain ⟨p2, o2, its2, n2, e2, g2, _, d2, r2⟩ := b
  obtain rfl : p = p2 := Value.ref.inj (e.symm.trans e2)
  rw [g] at g2
  obtain rfl := Option.some.inj g2
  rw [d] at d2
  obtain ⟨rfl, rfl⟩ := Data.seq.inj d2
  exact ints_inj (r.inj r2)
open Classical in
/-- the ints of a tuple in the heap -/
noncomputable def kOf (h : Heap) (u : Value) : List Int := if e : ∃ ks, TupI h u ks then e.choose else []
theorem kOf_at {h : Heap} {u : Value} {ks : List Int} (t : TupI h u ks) : kOf h u = ks := by
  unfold kOf
  rw [dif_pos ⟨ks, t⟩]
  exact (Exists.choose_spec (⟨ks, t⟩ : ∃ ks, TupI h u ks)).uniq t
end
theorem vals_fun : ∀ (as : List Addr) {us : List Value}, Vals (as.map V.ref) us → us = as.map Value.ref
  | [], _, r => by cases r; rfl
  | a :: as, us, r => by
    cases r with
    | cons r1 r2 =>
      cases r1
      rw [vals_fun as r2]
      rfl
section
variable {X : Cx} {pins : List (Addr × Obj)} {σ : L2.St} {H : Hp} {z : Shared}
theorem tupI_of (I : Inv X pins σ H z) {a : Addr} {ks : List Int} (e : SqT X.K H a (ks.map V.int)) : TupI z.heap (.ref a) ks := by
  obtain ⟨its, r, p, _⟩ := I.tuple e
  obtain ⟨o, g, c, n, d⟩ := p
  exact ⟨a, o, _, n, rfl, g, c, d, r⟩
theorem sort_core {A : Around} {E : Value → Shared → Prop} {v : Value} {bs0 : List (Addr × List Int)} {Q : VK} (I : Inv X pins σ H z) (tups : ∀ b ∈ bs0, SqT X.K H b.1 (b.2.map V.int) ∧ b.2 ≠ []) (small : bs0.length ≤ sizeLine)
    (col : ∀ (A' : Around) (R : List Value → Shared → Prop) (E' : Value → Shared → Prop), A'.handled = A.handled → (∀ h' tk, (∀ b o, z.heap.get? b = some o → h'.get? b = some o) → z.heap.objs.size ≤ h'.objs.size → R (bs0.map fun b => .ref b.1) { z with heap := h', toks := tk }) → wpAny (model X.prog X.w) A' (collect v) R E' z)
    (q : ∀ p (bs : List (Addr × List Int)), H p = none → bs.Perm bs0 → (bs.Pairwise fun x y => ltZ y.2 x.2 = false) → Q (.ref p) (upd H p (.lst (bs.map fun b => .ref b.1)))) :
    wpAny (model X.prog X.w) A (call (.builtin "sorted") [v]) (EP X pins σ Q) E z := by
  have at_ : ∀ b ∈ bs0, kOf z.heap (.ref b.1) = b.2 := fun b hb => kOf_at (tupI_of I (tups b hb).1)
  refine sort_ints_of (k := kOf z.heap) (vs := bs0.map fun b => .ref b.1) (fun u hu => ?_) (by rw [List.length_map]; exact small) col fun h' tk p out n kp le gp pm pw => ?_
  · obtain ⟨b, hb, rfl⟩ := List.mem_map.mp hu
    rw [at_ b hb]
    exact ⟨tupI_of I (tups b hb).1, (tups b hb).2⟩
  · obtain ⟨bs, pb, eb⟩ := L2.perm_lift (fun b : Addr × List Int => Value.ref b.1) pm bs0 rfl
    have none1 : H p = none := I.hok.fresh le
    have rv : Vals (bs.map fun b => V.ref b.1) out.toList := by
      rw [← eb]
      exact vals_maps (fun b : Addr × List Int => V.ref b.1) (fun b => Value.ref b.1) bs fun _ _ => rfl
    have pw2 : bs.Pairwise fun x y => ltZ y.2 x.2 = false := by
      rw [← eb, List.pairwise_map] at pw
      refine List.Pairwise.imp_of_mem (fun {x y} hx hy h => ?_) pw
      rw [at_ x (pb.mem_iff.mp hx), at_ y (pb.mem_iff.mp hy)] at h
      exact h
    refine ⟨.ref p, upd H p (.lst (bs.map fun b => .ref b.1)), I.laid (t' := tk) kp le ⟨?_, out.toList, n, rv, ?_⟩, rfl, q p bs none1 pb pw2⟩
    · rw [List.length_map, pb.length_eq]
      exact small
    · rw [Array.toArray_toList]
      exact gp
/-- sorted(xs), xs a list of tuples of ints -/
def rSortT (K : PySem.W.Frag) : List V → Hp → VK → Prop := fun vs H Q => ∃ (a : Addr) (bs0 : List (Addr × List Int)), vs = [.ref a] ∧ SqL K H a (bs0.map fun b => .ref b.1) ∧ (∀ b ∈ bs0, SqT K H b.1 (b.2.map V.int) ∧ b.2 ≠ []) ∧
  ∀ p (bs : List (Addr × List Int)), H p = none → bs.Perm bs0 → (bs.Pairwise fun x y => ltZ y.2 x.2 = false) → Q (.ref p) (upd H p (.lst (bs.map fun b => .ref b.1)))
theorem cr_sortT : CallR X (.builtin "sorted") (rSortT X.K) := by
  intro pins s σ H vs us Q I r h
  obtain ⟨a, bs0, rfl, hs, tups, q⟩ := h
  obtain ⟨its, rv, pl, hz⟩ := I.list hs
  obtain ⟨u, rfl, ru⟩ := vals1 r
  obtain rfl : u = Value.ref a := ru
  have ei : its = bs0.map fun b => .ref b.1 := by
    have e := vals_fun (bs0.map (·.1)) (by rw [List.map_map]; exact rv)
    rw [e, List.map_map]
    rfl
  rw [List.length_map] at hz
  subst ei
  refine sort_core I tups hz (fun A' R E' _ fin => collect_list pl.isList (fin _ s.toks (fun b o e => ?_) ?_) (by rw [List.length_map]; exact hz)) q
  · rw [Heap.get?_update_ne _ _ _ _ (Nat.ne_of_lt (Heap.lt_size e))]
    exact Heap.get?_push_of_some _ e
  · rw [Heap.size_update, Heap.size_push]
    exact Nat.le_succ _
end
/-! ### sorted(d.keys()), the keys tuples of ints -/
theorem keys_paired {H : Hp} : ∀ {kvs : List (List Key × V)} {xs : List (List Key × Addr × Value)} {ks : List (List Int)}, KT H kvs xs → kvs.map (·.1) = ks.map (fun k => k.map Sum.inl) → xs.length = ks.length ∧ ∀ b ∈ (xs.map (fun x => x.2.1)).zip ks, H b.1 = some (.tup (b.2.map V.int))
  | _, _, ks, .nil, e => by
    cases ks with
    | nil => exact ⟨rfl, fun b hb => nomatch hb⟩
    | cons k kr => exact nomatch (show ([] : List (List Key)) = _ :: _ from e)
  | _, _, ks, .cons (a := p) (b := x) h t, e => by
    cases ks with
    | nil => exact nomatch (show _ :: _ = ([] : List (List Key)) from e)
    | cons k kr =>
      obtain ⟨e1, e2⟩ := List.cons.inj (show p.1 :: _ = k.map Sum.inl :: _ from e)
      obtain ⟨l, r⟩ := keys_paired t e2
      refine ⟨congrArg (· + 1) l, fun b hb => ?_⟩
      rcases List.mem_cons.mp (show b ∈ (x.2.1, k) :: _ from hb) with rfl | hb
      · have q := h.2.1
        rw [e1, List.map_map] at q
        exact q
      · exact r b hb
def tSKT (td : TE) : TE := fun σ H Q => td σ H fun v H1 => ∃ (d : Addr) (kvs : List (List Key × V)) (ks : List (List Int)), v = .ref d ∧ H1 d = some (.dT kvs) ∧ kvs.map (·.1) = ks.map (fun k => k.map Sum.inl) ∧ (∀ k ∈ ks, k ≠ []) ∧
  ∀ p (bs : List (Addr × List Int)), H1 p = none → (bs.map (·.2)).Perm ks → (bs.Pairwise fun x y => ltZ y.2 x.2 = false) → (∀ b ∈ bs, H1 b.1 = some (.tup (b.2.map V.int))) → Q (.ref p) (upd H1 p (.lst (bs.map fun b => .ref b.1)))
theorem pe_sKT {X : Cx} {e : Expr} {td : TE} {p pos apos cpos : Pos} (calm : X.calm = true) (hg : Gl X "sorted") (hm : X.mg "sorted" = none) (hv : bootBuiltins "sorted" = some (.builtin "sorted")) (he : PE X e td) (hbase : attributeBase e "keys" X.env (eval e X.env) = eval e X.env := by rfl)
    (hline : (apos.endLine == cpos.line) = true := by rfl)
    (hs : starEach [.Call (.Attribute e "keys" apos) [] [] cpos] X.env = [(false, eval (.Call (.Attribute e "keys" apos) [] [] cpos) X.env)] := by rfl) (hpl : (backTo pos (starEach [.Call (.Attribute e "keys" apos) [] [] cpos] X.env)) = [(false, eval (.Call (.Attribute e "keys" apos) [] [] cpos) X.env)] := by rfl)
    (hn : ("sorted" : Str) ≠ "__name__" := by decide) (hdb : (("sorted" : Str) == ("__debug__" : Str)) = false := by decide) :
    PE X (.Call (.Name "sorted" p) [.Call (.Attribute e "keys" apos) [] [] cpos] [] pos) (tSKT td) := by
  refine ⟨fun pins s σ H Q I want => ?_⟩
  refine wpAny_Call_Name_kw (ld_blt I hg hm hv ?_ hn hdb)
  rw [hpl]
  refine PySem.callWith_builtin1 ?_
  refine wpAny_Call_method (T := "dict") (id := "dict.keys") hbase rfl hline F.plainAttrs_dict F.slot_dict_keys F.type_dict_keys (thn (he.run pins s σ H _ I want) fun u s1 told => ?_)
  obtain ⟨x, H1, I1, rx, d, kvs, ks, rfl, hd, eks, ne, q⟩ := told
  obtain rfl : u = Value.ref d := rx
  obtain ⟨hz, ns, xs, kt, dd⟩ := dt_of I1.hok hd
  obtain ⟨es, ep, raw, esz, enth⟩ := dd.raw
  refine ⟨raw.typeIs, dictOfH_noDict dd, ?_⟩
  show wpAny _ _ (callWith cpos (.builtin "dict.keys") [.ref d] [] []) _ X.xe s1
  refine method_meetsIn F.slot_dict_keys F.entry_dict_keys rfl (PySem.evalArgs_none ⟨rfl, raw.typeIs, F.args_dict_keys_1 _, _, meets_dict_keys_raw d ns, ⟨es, ep, raw⟩, ?_⟩)
  have I2 : Inv X pins σ H1 { s1 with heap := s1.heap.push { cls := .type "dict_keys", data := .fields #[.ref d] } } := I1.kept (t' := s1.toks) fun b o e => Heap.get?_push_of_some _ e
  obtain ⟨lx, tups⟩ := keys_paired kt eks
  have lk : (xs.map fun x => x.2.1).length = ks.length := by rw [List.length_map]; exact lx
  have n2 : ((xs.map fun x => x.2.1).zip ks).length = es.size := by rw [List.length_zip, lk, Nat.min_self, ← lx, esz]
  have top : (s1.heap.push { cls := .type "dict_keys", data := .fields #[.ref d] }).get? s1.heap.objs.size = some { cls := .type "dict_keys", data := .fields #[.ref d] } := Heap.get?_push_size _ rfl
  refine sort_core (bs0 := (xs.map fun x => x.2.1).zip ks) I2 (fun b hb => ⟨SqT.of (tups b hb), ne b.2 (List.of_mem_zip hb).2⟩) ?_ (fun A' R E' hA fin => ?_) fun p bs hp pm pw => ?_
  · rw [n2, esz, ← Paired.length kt]
    exact hz
  · refine PySem.W.kdu_collect (KdlSrc.rawKeys (r := s1.heap.objs.size) (d := d) (es := es) (ep := ep)) (hA.trans (I1.ok.hd calm)) ⟨⟨_, top, rfl, rfl⟩, raw.at fun o e => Heap.get?_push_of_some _ e⟩ ?_ fun h' tk acc kp it => ?_
    · rw [esz, ← Paired.length kt]
      exact hz
    · have eacc : acc.toList = ((xs.map fun x => x.2.1).zip ks).map fun b => .ref b.1 := by
        have la : acc.toList.length = es.size := by rw [Array.length_toList]; exact it.1
        apply List.ext_getElem (by rw [List.length_map, n2, la])
        intro i h1 h2
        have hi : i < es.size := by omega
        obtain ⟨hi', ev⟩ := it.2 i acc.toList[i] (by rw [← Array.getElem?_toList]; exact List.getElem?_eq_getElem h1)
        obtain ⟨y, hy, ek, _⟩ := enth i hi
        obtain ⟨hx, exy⟩ := List.getElem?_eq_some_iff.mp hy
        rw [ev, ek, List.getElem_map, List.getElem_zip, List.getElem_map, exy]
      rw [eacc]
      refine fin h' tk kp ?_
      have lt : s1.heap.objs.size < h'.objs.size := Heap.lt_size (kp _ _ top)
      show (s1.heap.push _).objs.size ≤ _
      rw [Heap.size_push]
      exact lt
  · refine q p bs hp ?_ pw fun b hb => tups b (pm.mem_iff.mp hb)
    have z := pm.map (·.2)
    rw [List.map_snd_zip (Nat.le_of_eq lk.symm)] at z
    exact z
/-! ### dict(xs), xs a list of pairs (tuple, value) -/
/-- a pair's place, its key's place, the key, the value -/
abbrev PKV := Addr × Addr × List Key × V
def putAllK (acc : List (List Key × V)) (ps : List PKV) : List (List Key × V) := ps.foldl (fun acc x => putK acc x.2.2.1 x.2.2.2) acc
theorem putAllK_len : ∀ (ps : List PKV) (acc : List (List Key × V)), (putAllK acc ps).length ≤ acc.length + ps.length
  | [], _ => Nat.le_refl _
  | x :: ps, acc => by
    have h1 := putAllK_len ps (putK acc x.2.2.1 x.2.2.2)
    have h2 := length_putK acc x.2.2.1 x.2.2.2
    show (putAllK (putK acc x.2.2.1 x.2.2.2) ps).length ≤ _
    rw [List.length_cons]
    omega
def PkOk (H : Hp) (x : PKV) : Prop := H x.1 = some (.tup [.ref x.2.1, x.2.2.2]) ∧ H x.2.1 = some (.tup (x.2.2.1.map kV))
/-- the pairs as they lie in the heap -/
def PkAt (H : Hp) (h : Heap) (x : PKV) (r : List Key × Addr × Value) : Prop := x.2.2.1 = r.1 ∧ x.2.1 = r.2.1 ∧ RelV x.2.2.2 r.2.2 ∧ H r.2.1 = some (.tup (r.1.map kV)) ∧ PairAt h x.1 (.ref r.2.1) r.2.2
section
variable {X : Cx} {pins : List (Addr × Obj)} {σ : L2.St} {H : Hp} {z : Shared}
theorem pk_at (I : Inv X pins σ H z) : ∀ ps : List PKV, (∀ x ∈ ps, PkOk H x) → ∃ rs, Paired (PkAt H z.heap) ps rs
  | [], _ => ⟨[], .nil⟩
  | x :: ps, e => by
    obtain ⟨rs, r⟩ := pk_at I ps fun y hy => e y (List.mem_cons_of_mem _ hy)
    obtain ⟨e1, e2⟩ := e x List.mem_cons_self
    obtain ⟨_, its, rv, o, g, c, n, d⟩ := (show ObjOk X.prog X.w H z.heap x.1 (.tup [.ref x.2.1, x.2.2.2]) from I.hok _ _ e1)
    obtain ⟨u1, u2, rfl, r1, r2⟩ := vals2 rv
    obtain rfl : u1 = Value.ref x.2.1 := r1
    exact ⟨(x.2.2.1, x.2.1, u2) :: rs, .cons ⟨rfl, rfl, r2, e2, .inl ⟨o, g, c, n, d⟩⟩ r⟩
end
theorem pk_kt {H H2 : Hp} {h : Heap} (tk : ∀ b ys, H b = some (.tup ys) → H2 b = some (.tup ys)) : ∀ {ps : List PKV} {rs : List (List Key × Addr × Value)} {kvs : List (List Key × V)} {xs : List (List Key × Addr × Value)}, Paired (PkAt H h) ps rs → KT H2 kvs xs → KT H2 (putAllK kvs ps) (storedAllH xs rs)
  | _, _, _, _, .nil, t => t
  | _, _, _, _, .cons (a := x) (b := r) e p, t => by
    obtain ⟨e1, e2, e3, e4, _⟩ := e
    have t2 := t.put x.2.2.1 (b := r.2.1) (y := x.2.2.2) (u := r.2.2) (by rw [e1]; exact tk _ _ e4) e3
    have q := pk_kt tk p t2
    rw [e1] at q
    have show1 : x.2.2.1 = r.1 := e1
    show KT H2 (putAllK (putK _ x.2.2.1 x.2.2.2) _) _
    rw [show1]
    exact q
theorem pk_get {H : Hp} {h : Heap} : ∀ {ps : List PKV} {rs : List (List Key × Addr × Value)}, Paired (PkAt H h) ps rs → ∀ (j : Nat) (r : List Key × Addr × Value), rs[j]? = some r → ∃ x, ps[j]? = some x ∧ PkAt H h x r
  | _, _, .nil, j, r, e => nomatch (show (none : Option (List Key × Addr × Value)) = some r from e)
  | _, _, .cons (a := x) e p, 0, r, hj => by
    cases hj
    exact ⟨x, rfl, e⟩
  | _, _, .cons e p, j + 1, r, hj => pk_get p j r hj
def rDictP (K : PySem.W.Frag) : List V → Hp → VK → Prop := fun vs H Q => ∃ (a : Addr) (ps : List PKV), vs = [.ref a] ∧ SqL K H a (ps.map fun x => .ref x.1) ∧ (∀ x ∈ ps, PkOk H x) ∧ ∀ p, H p = none → Q (.ref p) (upd H p (.dT (putAllK [] ps)))
theorem cr_dictP {X : Cx} (calm : X.calm = true) (room : X.A.units + 2 < cLine) : CallR X (.type "dict") (rDictP X.K) := by
  intro pins s σ H vs us Q I r h
  obtain ⟨a, ps, rfl, hs, oks, q⟩ := h
  obtain ⟨its, rv, pl, hz⟩ := I.list hs
  obtain ⟨u, rfl, ru⟩ := vals1 r
  obtain rfl : u = Value.ref a := ru
  rw [List.length_map] at hz
  have ei : its = ps.map fun x => Value.ref x.1 := by
    have e := vals_fun (ps.map (·.1)) (by rw [List.map_map]; exact rv)
    rw [e, List.map_map]
    rfl
  obtain ⟨rs, pr⟩ := pk_at I ps oks
  have len : ps.length = rs.length := Paired.length pr
  have ok : PlainSeq "list" s.heap a its.toArray ∧ PairItems s.heap its.toArray (fun j => ((ps[j]?).map (·.1)).getD 0) (rs.map fun r => (Value.ref r.2.1, r.2.2)) := by
    refine ⟨pl, ?_, fun j k v hj => ?_⟩
    · rw [ei, List.length_map, List.size_toArray, List.length_map, len]
    · rw [List.getElem?_map] at hj
      obtain ⟨r, hr, er⟩ := Option.map_eq_some_iff.mp hj
      cases er
      obtain ⟨x, hx, at_⟩ := pk_get pr j r hr
      refine ⟨?_, ?_⟩
      · rw [ei, List.getElem?_toArray, List.getElem?_map, hx]
        show some (Value.ref x.1) = some (Value.ref (((ps[j]?).map (·.1)).getD 0))
        rw [hx]
        rfl
      · show PairAt s.heap (((ps[j]?).map (·.1)).getD 0) _ _
        rw [hx]
        exact at_.2.2.2.2
  have P := PairArg.list (prog := X.prog) (w := X.w) a its.toArray (fun j => ((ps[j]?).map (·.1)).getD 0) (rs.map fun r => (Value.ref r.2.1, r.2.2))
  refine call_dict_pairsH (knd := tupleKind (mixKind X.prog X.w)) (ps := rs) P (I.ok.hd calm) (show X.A.in1.in1.units < cLine from room) ok ⟨by rw [List.length_map], fun j key v hj => ?_⟩ (fun h2 kp x hx => ?_) ?_ fun h2 tk dd kp => ?_
  · have hj' : (rs.map fun r => (Value.ref r.2.1, r.2.2))[j]? = some (key, v) := hj
    rw [List.getElem?_map] at hj'
    obtain ⟨r, hr, er⟩ := Option.map_eq_some_iff.mp hj'
    cases er
    exact ⟨r.1, r.2.1, hr, rfl⟩
  · obtain ⟨j, hj⟩ := List.mem_iff_getElem?.mp hx
    obtain ⟨y, _, at_⟩ := pk_get pr j x hj
    obtain ⟨o, it, n, g, c⟩ := key_of I.hok at_.2.2.2.1
    exact ⟨o, it, n, kp _ o (Nat.ne_of_lt (Heap.lt_size g)) (fun z => nomatch z) g, c⟩
  · rw [List.length_map, ← len]
    exact hz
  · have fresh : H s.heap.objs.size = none := I.hok.fresh (Nat.le_refl _)
    have k2 : ∀ b o, s.heap.get? b = some o → h2.get? b = some o := fun b o e => kp b o (fun z => nomatch z) e
    obtain ⟨o, es, ep, g, c, d, e, _, n⟩ := dd
    have kt : KT (upd H s.heap.objs.size (.dT (putAllK [] ps))) (putAllK [] ps) (storedAllH [] rs) := pk_kt (fun b ys e => by rw [upd_ne (ne_of_none e fresh)]; exact e) pr .nil
    have big : (s.heap.objs.size == sysModules) = false := by
      have := I.big
      exact beq_false_of_ne (Nat.ne_of_gt this)
    have small : (putAllK [] ps).length ≤ sizeLine := by
      have := putAllK_len ps []
      rw [List.length_nil] at this
      omega
    exact ⟨.ref s.heap.objs.size, _, I.laid (t' := tk) (o := .dT (putAllK [] ps)) k2 (Nat.le_refl _) ⟨small, big, _, kt, o, es, ep, g, c, d, e, n⟩, rfl, q _ fresh⟩
theorem hu2_of {A : Around} {k : Nat} (hr : Room k A) : A.units + 2 < cLine := by
  have := hr.units
  omega
section
variable {X : Cx} {K : PySem.W.Frag}
theorem k_sortT (hK : X.K = K := by rfl) : CallR X (.builtin "sorted") (rSortT K) := hK ▸ cr_sortT
theorem k_dictP (calm : X.calm = true) (room : X.A.units + 2 < cLine) (hK : X.K = K := by rfl) : CallR X (.type "dict") (rDictP K) := hK ▸ cr_dictP calm room
theorem k_leT (hu : X.A.units < cLine) (hK : X.K = K := by rfl) : OpR X (compareOp .LtE) (rLeT K) := hK ▸ op_leT hu
theorem k_enT {e : Expr} {ta : TA} {p pos tpos : Pos} {elts : List Expr} {kk : Nat} (hg : Gl X "enumerate") (hm : X.mg "enumerate" = none) (ha : PA X [e] ta) (hs : starEach [e] X.env = [(false, eval e X.env)] := by rfl) (hK : X.K = K := by rfl) :
    PI X (.Tuple elts kk tpos) (.Call (.Name "enumerate" p) [e] [] pos) (iEnT K ta) := hK ▸ pi_enT hg hm ha hs
theorem k_list_of (hK : X.K = K := by rfl) : CallR X (.type "list") (fun xs H Q => ∃ p ys, xs = [.ref p] ∧ (SqL K H p ys ∨ SqT K H p ys) ∧ ∀ l, H l = none → Q (.ref l) (upd H l (.lst ys))) := hK ▸ call_list_of
theorem k_fld {e : Expr} {f : Str} {pos : Pos} {ta : TE} (he : PE X e ta) (hb : attributeBase e f X.env (eval e X.env) = eval e X.env) (hK : X.K = K := by rfl) : PE X (.Attribute e f pos) (tFld K ta f) := hK ▸ pe_fld he hb
theorem k_sfld {o value : Expr} {f : Str} {pos pos' : Pos} {ta tv : TE} (ha : PE X o ta) (hv : PE X value tv) (hs : swapsWith value (some (.Attribute o f pos')) pos.line X.env = pure false) (hK : X.K = K := by rfl) : PS X (.Assign [.Attribute o f pos'] value pos) (sFld K ta tv f) := hK ▸ ps_fld ha hv hs
end
theorem k_pgT {X : Cx} {K : PySem.W.Frag} (n : Nat) {es : List Expr} {k : Nat} {pos : Pos} {t : TGs} (hc : X.calm = true) (h : PGs X es t) (hn : (assignEach es X.env).length = n := by rfl) (hst : (assignEach es X.env).findIdx? (·.1) = none := by rfl) (hK : X.K = K := by rfl) : PG X (.Tuple es k pos) (gTup K n t) := hK ▸ pg_tup hc h hn hst
/-! ### a tuple of the written part -/
def KTu (K : PySem.W.Frag) (a : Addr) (xs : List V) : Prop := ∀ H, SqT K H a xs
def AheadAt (K : PySem.W.Frag) (mg : Str → Option Value) : Prop := ∃ A b0 b1 b2 b3 : Addr, mg "AHEAD" = some (.ref A) ∧ KTu K A [.ref b0, .ref b1, .ref b2, .ref b3] ∧ KTu K b0 [.int 0, .int (-1)] ∧ KTu K b1 [.int 1, .int 0] ∧ KTu K b2 [.int 0, .int 1] ∧ KTu K b3 [.int (-1), .int 0]
theorem ktu_of {K : PySem.W.Frag} {a : Addr} {xs : List V} {its : Array Value} {n : Nat} (e : K.lookup a = some { cls := .type "tuple", data := .seq its n }) (z : its.size ≤ 1000) (r : Vals xs its.toList) : KTu K a xs := fun H => .inr ⟨_, its, n, e, rfl, rfl, small_le z, r⟩
/-! ### objects that may change -/
/-- all stays but what stands at these places -/
def KeepE (E : List Addr) (H H' : Hp) : Prop := ∀ b o, b ∉ E → H b = some o → H' b = some o
theorem KeepE.refl (E : List Addr) (H : Hp) : KeepE E H H := fun _ _ _ h => h
theorem KeepE.trans {E : List Addr} {H H1 H2 : Hp} (a : KeepE E H H1) (b : KeepE E H1 H2) : KeepE E H H2 := fun c o n h => b c o n (a c o n h)
theorem KeepE.new {E : List Addr} {H : Hp} {p : Addr} {o : HO} (h : H p = none) : KeepE E H (upd H p o) := fun b u _ e => by
  rw [upd_ne (ne_of_none e h)]
  exact e
theorem KeepE.put {E : List Addr} {H : Hp} {p : Addr} {o : HO} (h : p ∈ E) : KeepE E H (upd H p o) := fun b u n e => by
  rw [upd_ne (fun z => n (by rw [z]; exact h))]
  exact e
theorem KeepE.fresh {E : List Addr} {H H' : Hp} {p : Addr} {o : HO} (k : KeepE E H H') (h : H p = none) : KeepE E H (upd H' p o) := fun b u n e => by
  rw [upd_ne (ne_of_none e h)]
  exact k b u n e
theorem KeepE.putR {E : List Addr} {H H' : Hp} {p : Addr} {o : HO} (k : KeepE E H H') (h : p ∈ E) : KeepE E H (upd H' p o) := k.trans (KeepE.put h)
theorem Same.keepE {E : List Addr} {H H' : Hp} (s : Same H H') : KeepE E H H' := fun b o _ h => s b o h
theorem KeepE.mono {E F : List Addr} {H H' : Hp} (k : KeepE E H H') (h : ∀ a ∈ E, a ∈ F) : KeepE F H H' := fun b o n e => k b o (fun z => n (h b z)) e
/-- what the first heap did not know may change -/
theorem KeepE.same {E : List Addr} {H H' : Hp} (k : KeepE E H H') (h : ∀ a ∈ E, H a = none) : Same H H' := fun b o e => k b o (fun z => by rw [h b z] at e; cases e) e
/-- no tuple, nothing frozen -/
def Soft (H : Hp) (a : Addr) : Prop := (∀ xs, H a ≠ some (.tup xs)) ∧ ∀ o u, H a ≠ some (.frz o u)
theorem KeepE.tk {E : List Addr} {H H' : Hp} (k : KeepE E H H') (s : ∀ a ∈ E, Soft H a) : TK H H' :=
  ⟨fun b xs e => k b _ (fun z => (s b z).1 xs e) e, fun b o u e => k b _ (fun z => (s b z).2 o u e) e⟩
theorem Soft.none {H : Hp} {a : Addr} (h : H a = none) : Soft H a := ⟨fun xs e => (by rw [h] at e; cases e), fun o u e => (by rw [h] at e; cases e)⟩
theorem Soft.dT {H : Hp} {a : Addr} {kvs : List (List Key × V)} (h : H a = some (.dT kvs)) : Soft H a := ⟨fun xs e => (by rw [h] at e; cases e), fun o u e => (by rw [h] at e; cases e)⟩
theorem Soft.ins {H : Hp} {a C dx : Addr} {fs : List (Str × V)} (h : H a = some (.ins C dx fs)) : Soft H a := ⟨fun xs e => (by rw [h] at e; cases e), fun o u e => (by rw [h] at e; cases e)⟩
theorem Soft.lst {H : Hp} {a : Addr} {xs : List V} (h : H a = some (.lst xs)) : Soft H a := ⟨fun xs e => (by rw [h] at e; cases e), fun o u e => (by rw [h] at e; cases e)⟩
theorem KeepE.back {E : List Addr} {H H' : Hp} {p : Addr} (k : KeepE E H H') (h : H' p = none) (n : p ∉ E) : H p = none := by
  cases e : H p with
  | none => rfl
  | some o =>
    rw [k p o n e] at h
    cases h
theorem Same.back {H H' : Hp} {p : Addr} (k : Same H H') (h : H' p = none) : H p = none := by
  cases e : H p with
  | none => rfl
  | some o =>
    rw [k p o e] at h
    cases h
/-! ### slices -/
theorem sl32 {a b c : V} : ¬ (HT.sIx ([a, b, c] : List V).length 0 none = 0 ∧ HT.sIx ([a, b, c] : List V).length ([a, b, c] : List V).length (some 2) = ([a, b, c] : List V).length) := by
  show ¬ (HT.sIx 3 0 none = 0 ∧ HT.sIx 3 3 (some 2) = 3)
  decide
theorem sl42 {a b c d : V} : ¬ (HT.sIx ([a, b, c, d] : List V).length 0 none = 0 ∧ HT.sIx ([a, b, c, d] : List V).length ([a, b, c, d] : List V).length (some 2) = ([a, b, c, d] : List V).length) := by
  show ¬ (HT.sIx 4 0 none = 0 ∧ HT.sIx 4 4 (some 2) = 4)
  decide
/-! ### readings of tuples -/
section
variable {K : PySem.W.Frag} {H : Hp}
theorem Tp.int4 {v : V} {i j k l : Int} (h : Tp K H v (.tuple [.int i, .int j, .int k, .int l])) : ∃ a, v = .ref a ∧ SqT K H a [.int i, .int j, .int k, .int l] := by
  obtain ⟨a, xs, rfl, hs, h⟩ := h.tupI
  obtain ⟨x, _, rfl, h1, h⟩ := h.consI
  obtain ⟨y, _, rfl, h2, h⟩ := h.consI
  obtain ⟨z, _, rfl, h3, h⟩ := h.consI
  obtain ⟨u, _, rfl, h4, h⟩ := h.consI
  rw [h1.intI, h2.intI, h3.intI, h4.intI, h.nilI] at hs
  exact ⟨a, rfl, hs⟩
theorem Tp.int2 {v : V} {i j : Int} (h : Tp K H v (.tuple [.int i, .int j])) : ∃ a, v = .ref a ∧ SqT K H a [.int i, .int j] := by
  obtain ⟨a, xs, rfl, hs, h⟩ := h.tupI
  obtain ⟨x, _, rfl, h1, h⟩ := h.consI
  obtain ⟨y, _, rfl, h2, h⟩ := h.consI
  rw [h1.intI, h2.intI, h.nilI] at hs
  exact ⟨a, rfl, hs⟩
theorem Tp.of_ints {a : Addr} : ∀ {ks : List Int}, SqT K H a (ks.map V.int) → Tp K H (.ref a) (.tuple (ks.map PyData.int)) := fun {ks} h => by
  refine .tup h ?_
  clear h
  induction ks with
  | nil => exact .nil
  | cons k ks ih => exact .cons (.int k) ih
end
/-! ### cells: places and their colours, as a dict keeps them -/
abbrev Pt := Int × Int
abbrev CM := List (Pt × Int)
def ptK (p : Pt) : List Key := [Sum.inl p.1, Sum.inl p.2]
theorem ptK_inj {p q : Pt} (h : ptK p = ptK q) : p = q := by
  obtain ⟨a, b⟩ := p
  obtain ⟨c, d⟩ := q
  have e1 := List.cons.inj h
  have e2 := List.cons.inj e1.2
  have q1 : a = c := Sum.inl.inj e1.1
  have q2 : b = d := Sum.inl.inj e2.1
  rw [q1, q2]
theorem ptK_v (p : Pt) : (ptK p).map kV = [V.int p.1, V.int p.2] := rfl
def look : CM → Pt → Option Int
  | [], _ => none
  | e :: r, p => if e.1 = p then some e.2 else look r p
def putM : CM → Pt → Int → CM
  | [], p, c => [(p, c)]
  | e :: r, p, c => if e.1 = p then (e.1, c) :: r else e :: putM r p c
def dropM : CM → Pt → CM
  | [], _ => []
  | e :: r, p => if e.1 = p then r else e :: dropM r p
def cellK (m : CM) : List (List Key × V) := m.map fun e => (ptK e.1, V.int e.2)
def col (m : CM) (p : Pt) : Int := (look m p).getD 0
theorem look_none : ∀ {m : CM} {p : Pt}, look m p = none ↔ p ∉ m.map (·.1)
  | [], p => by simp [look]
  | e :: r, p => by
    rw [List.map_cons, List.mem_cons]
    unfold look
    by_cases h : e.1 = p
    · rw [if_pos h]
      simp [h]
    · rw [if_neg h, look_none]
      exact ⟨fun x y => y.elim (fun z => h z.symm) x, fun x y => x (.inr y)⟩
theorem look_mem : ∀ {m : CM} {p : Pt} {c : Int}, look m p = some c → (p, c) ∈ m
  | [], p, c, h => nomatch h
  | e :: r, p, c, h => by
    unfold look at h
    by_cases q : e.1 = p
    · rw [if_pos q] at h
      rw [← q, ← Option.some.inj h]
      exact List.mem_cons_self
    · rw [if_neg q] at h
      exact List.mem_cons_of_mem _ (look_mem h)
theorem mem_look : ∀ {m : CM} {p : Pt} {c : Int}, (m.map (·.1)).Nodup → (p, c) ∈ m → look m p = some c
  | [], p, c, _, h => nomatch h
  | e :: r, p, c, nd, h => by
    rw [List.map_cons, List.nodup_cons] at nd
    unfold look
    rcases List.mem_cons.mp h with rfl | h
    · exact if_pos rfl
    · have q : e.1 ≠ p := fun z => nd.1 (z ▸ List.mem_map.mpr ⟨_, h, rfl⟩)
      rw [if_neg q]
      exact mem_look nd.2 h
theorem look_put : ∀ (m : CM) (p q : Pt) (c : Int), look (putM m p c) q = if q = p then some c else look m q
  | [], p, q, c => by
    show (if p = q then some c else none) = _
    by_cases h : q = p
    · rw [if_pos h, if_pos h.symm]
    · rw [if_neg h, if_neg (fun z => h z.symm)]
      rfl
  | e :: r, p, q, c => by
    unfold putM
    by_cases h : e.1 = p
    · rw [if_pos h]
      unfold look
      by_cases hq : q = p
      · rw [if_pos hq, if_pos (h.trans hq.symm)]
      · rw [if_neg hq, if_neg (fun z => hq (z.symm.trans h)), if_neg (fun z => hq (z.symm.trans h))]
    · rw [if_neg h]
      unfold look
      by_cases he : e.1 = q
      · rw [if_pos he, if_pos he, if_neg (fun z => h (he.trans z))]
      · rw [if_neg he, if_neg he, look_put r p q c]
theorem keys_put : ∀ {m : CM} {p q : Pt} {c : Int}, q ∈ (putM m p c).map (·.1) → q = p ∨ q ∈ m.map (·.1)
  | m, p, q, c, h => by
    by_cases e : q = p
    · exact .inl e
    · refine .inr (Classical.byContradiction fun n => ?_)
      have z := look_put m p q c
      rw [if_neg e, look_none.mpr n] at z
      exact look_none.mp z h
theorem nd_put : ∀ {m : CM} (p : Pt) (c : Int), (m.map (·.1)).Nodup → ((putM m p c).map (·.1)).Nodup
  | [], p, c, _ => List.nodup_cons.mpr ⟨List.not_mem_nil, List.nodup_nil⟩
  | e :: r, p, c, nd => by
    rw [List.map_cons, List.nodup_cons] at nd
    unfold putM
    by_cases h : e.1 = p
    · rw [if_pos h, List.map_cons, List.nodup_cons]
      exact nd
    · rw [if_neg h, List.map_cons, List.nodup_cons]
      exact ⟨fun z => (keys_put z).elim h nd.1, nd_put p c nd.2⟩
theorem len_put : ∀ (m : CM) (p : Pt) (c : Int), (putM m p c).length ≤ m.length + 1
  | [], _, _ => Nat.le_refl _
  | e :: r, p, c => by
    unfold putM
    have := len_put r p c
    split <;> simp only [List.length_cons] <;> omega
theorem look_drop : ∀ {m : CM} (p q : Pt), (m.map (·.1)).Nodup → look (dropM m p) q = if q = p then none else look m q
  | [], p, q, _ => by
    show (none : Option Int) = if q = p then none else none
    split <;> rfl
  | e :: r, p, q, nd => by
    rw [List.map_cons, List.nodup_cons] at nd
    unfold dropM
    by_cases h : e.1 = p
    · rw [if_pos h]
      by_cases hq : q = p
      · rw [if_pos hq, hq]
        exact look_none.mpr (h ▸ nd.1)
      · rw [if_neg hq]
        conv => rhs; unfold look
        rw [if_neg (fun z => hq (z.symm.trans h))]
    · rw [if_neg h]
      unfold look
      by_cases he : e.1 = q
      · rw [if_pos he, if_pos he, if_neg (fun z => h (he.trans z))]
      · rw [if_neg he, if_neg he, look_drop p q nd.2]
theorem keys_drop : ∀ {m : CM} {p q : Pt}, q ∈ (dropM m p).map (·.1) → q ∈ m.map (·.1)
  | e :: r, p, q, h => by
    unfold dropM at h
    by_cases z : e.1 = p
    · rw [if_pos z] at h
      exact List.mem_cons_of_mem _ h
    · rw [if_neg z] at h
      rcases List.mem_cons.mp h with e2 | h
      · exact List.mem_cons.mpr (.inl e2)
      · exact List.mem_cons_of_mem _ (keys_drop h)
theorem nd_drop : ∀ {m : CM} (p : Pt), (m.map (·.1)).Nodup → ((dropM m p).map (·.1)).Nodup
  | [], p, _ => List.nodup_nil
  | e :: r, p, nd => by
    rw [List.map_cons, List.nodup_cons] at nd
    unfold dropM
    by_cases h : e.1 = p
    · rw [if_pos h]
      exact nd.2
    · rw [if_neg h, List.map_cons, List.nodup_cons]
      exact ⟨fun z => nd.1 (keys_drop z), nd_drop p nd.2⟩
theorem len_drop : ∀ (m : CM) (p : Pt), (dropM m p).length ≤ m.length
  | [], _ => Nat.le_refl _
  | e :: r, p => by
    unfold dropM
    have := len_drop r p
    split <;> simp only [List.length_cons] <;> omega
theorem cell_len (m : CM) : (cellK m).length = m.length := List.length_map _
theorem cell_val : ∀ (m : CM) (p : Pt), valV (cellK m) (ptK p) = (look m p).map V.int
  | [], _ => rfl
  | e :: r, p => by
    unfold look
    by_cases h : e.1 = p
    · rw [if_pos h]
      exact valV_pos (p := (ptK e.1, V.int e.2)) (congrArg ptK h)
    · rw [if_neg h]
      exact (valV_neg (p := (ptK e.1, V.int e.2)) (fun z => h (ptK_inj z))).trans (cell_val r p)
theorem cell_map (p : Pt) (c : Int) : ∀ (m : CM), (m.map (·.1)).Nodup → p ∈ m.map (·.1) → (cellK m).map (fun kv => if kv.1 = ptK p then (kv.1, V.int c) else kv) = cellK (putM m p c)
  | [], _, h => nomatch h
  | e :: r, nd, h => by
    rw [List.map_cons, List.nodup_cons] at nd
    show (if ptK e.1 = ptK p then (ptK e.1, V.int c) else (ptK e.1, V.int e.2)) :: (cellK r).map _ = _
    unfold putM
    by_cases q : e.1 = p
    · rw [if_pos q, if_pos (congrArg ptK q)]
      have nin : p ∉ r.map (·.1) := q ▸ nd.1
      have same : (cellK r).map (fun kv => if kv.1 = ptK p then (kv.1, V.int c) else kv) = cellK r := by
        unfold cellK
        rw [List.map_map]
        refine List.map_congr_left fun y hy => ?_
        show (if ptK y.1 = ptK p then _ else _) = _
        rw [if_neg (fun z => nin (by rw [← ptK_inj z]; exact List.mem_map.mpr ⟨y, hy, rfl⟩))]
      rw [same]
      rfl
    · rw [if_neg q, if_neg (fun z => q (ptK_inj z))]
      rcases List.mem_cons.mp (show p ∈ e.1 :: r.map (·.1) from h) with z | z
      · exact absurd z.symm q
      · rw [cell_map p c r nd.2 z]
        rfl
theorem cell_new (p : Pt) (c : Int) : ∀ (m : CM), p ∉ m.map (·.1) → cellK m ++ [(ptK p, V.int c)] = cellK (putM m p c)
  | [], _ => rfl
  | e :: r, h => by
    unfold putM
    rw [if_neg (fun z => h (List.mem_cons.mpr (.inl z.symm)))]
    show (ptK e.1, V.int e.2) :: (cellK r ++ _) = (ptK e.1, V.int e.2) :: cellK (putM r p c)
    rw [cell_new p c r fun z => h (List.mem_cons_of_mem _ z)]
theorem cell_put {m : CM} (p : Pt) (c : Int) (nd : (m.map (·.1)).Nodup) : putK (cellK m) (ptK p) (.int c) = cellK (putM m p c) := by
  unfold putK
  rw [valV_any, cell_val]
  cases e : look m p with
  | none => exact cell_new p c m (look_none.mp e)
  | some x =>
    refine cell_map p c m nd (Classical.byContradiction fun n => ?_)
    rw [look_none.mpr n] at e
    cases e
theorem cell_drop (p : Pt) : ∀ (m : CM), (m.map (·.1)).Nodup → dropK (cellK m) (ptK p) = cellK (dropM m p)
  | [], _ => rfl
  | e :: r, nd => by
    rw [List.map_cons, List.nodup_cons] at nd
    unfold dropM
    show dropK ((ptK e.1, V.int e.2) :: cellK r) (ptK p) = _
    by_cases h : e.1 = p
    · rw [if_pos h, dropK_pos (congrArg ptK h)]
      refine dropK_no fun z => ?_
      obtain ⟨y, hy, ey⟩ := List.mem_map.mp z
      obtain ⟨w, hw, rfl⟩ := List.mem_map.mp hy
      have nin : p ∉ r.map (·.1) := h ▸ nd.1
      have ew : w.1 = p := ptK_inj ey
      exact nin (by rw [← ew]; exact List.mem_map.mpr ⟨w, hw, rfl⟩)
    · rw [if_neg h, dropK_neg (fun z => h (ptK_inj z)), cell_drop p r nd.2]
      rfl
/-! ### floors -/
abbrev Sq := Int × Int × Int
def Sq.pt (s : Sq) : Pt := (s.1, s.2.1)
def sqD (s : Sq) : PyData := .tuple [.int s.1, .int s.2.1, .int s.2.2]
def floorD (F : List Sq) : PyData := .tuple (F.map sqD)
def ltP (p q : Pt) : Prop := p.1 < q.1 ∨ (p.1 = q.1 ∧ p.2 < q.2)
theorem ltP_irr (p : Pt) : ¬ ltP p p := fun h => by
  rcases h with h | h <;> omega
theorem ltP_tr {p q r : Pt} (a : ltP p q) (b : ltP q r) : ltP p r := by
  unfold ltP at *
  omega
theorem ltP_tot {p q : Pt} (h : p ≠ q) : ltP p q ∨ ltP q p := by
  by_cases e1 : p.1 = q.1
  · have e2 : p.2 ≠ q.2 := fun e2 => h (Prod.ext e1 e2)
    unfold ltP
    omega
  · unfold ltP
    omega
/-- the floor that is painted so, its squares in their order -/
structure FloorOf (f : Pt → Int) (F : List Sq) : Prop where
  asc : F.Pairwise fun a b => ltP a.pt b.pt
  mem : ∀ s : Sq, s ∈ F ↔ s.2.2 = f s.pt ∧ s.2.2 ≠ 0
theorem asc_eq : ∀ {F G : List Sq}, (F.Pairwise fun a b => ltP a.pt b.pt) → (G.Pairwise fun a b => ltP a.pt b.pt) → (∀ s, s ∈ F ↔ s ∈ G) → F = G
  | [], [], _, _, _ => rfl
  | [], b :: G, _, _, h => nomatch (h b).mpr List.mem_cons_self
  | a :: F, [], _, _, h => nomatch (h a).mp List.mem_cons_self
  | a :: F, b :: G, hF, hG, h => by
    obtain ⟨a1, a2⟩ := List.pairwise_cons.mp hF
    obtain ⟨b1, b2⟩ := List.pairwise_cons.mp hG
    have e : a = b := by
      rcases List.mem_cons.mp ((h a).mp List.mem_cons_self) with e | ha
      · exact e
      · rcases List.mem_cons.mp ((h b).mpr List.mem_cons_self) with e | hb
        · exact e.symm
        · exact absurd (ltP_tr (b1 a ha) (a1 b hb)) (ltP_irr _)
    subst e
    refine congrArg (a :: ·) (asc_eq a2 b2 fun s => ⟨fun hs => ?_, fun hs => ?_⟩)
    · rcases List.mem_cons.mp ((h s).mp (List.mem_cons_of_mem _ hs)) with e | k
      · exact absurd (e ▸ a1 s hs) (ltP_irr _)
      · exact k
    · rcases List.mem_cons.mp ((h s).mpr (List.mem_cons_of_mem _ hs)) with e | k
      · exact absurd (e ▸ b1 s hs) (ltP_irr _)
      · exact k
theorem FloorOf.uniq {f : Pt → Int} {F G : List Sq} (a : FloorOf f F) (b : FloorOf f G) : F = G := asc_eq a.asc b.asc fun s => (a.mem s).trans (b.mem s).symm
/-- the cells of a floor -/
def cellsOf (F : List Sq) : CM := F.map fun s => (s.pt, s.2.2)
theorem asc_nd {F : List Sq} (h : F.Pairwise fun a b => ltP a.pt b.pt) : ((cellsOf F).map (·.1)).Nodup := by
  unfold cellsOf
  rw [List.map_map, List.Nodup, List.pairwise_map]
  refine h.imp fun {a b} l => ?_
  intro (e : a.pt = b.pt)
  rw [← e] at l
  exact ltP_irr _ l
def colF (F : List Sq) (p : Pt) : Int := col (cellsOf F) p
theorem colF_of {F : List Sq} (asc : F.Pairwise fun a b => ltP a.pt b.pt) (nz : ∀ s ∈ F, s.2.2 ≠ 0) : FloorOf (colF F) F := by
  refine ⟨asc, fun s => ⟨fun h => ⟨?_, nz s h⟩, fun h => ?_⟩⟩
  · have e := mem_look (asc_nd asc) (show (s.pt, s.2.2) ∈ cellsOf F from List.mem_map.mpr ⟨s, h, rfl⟩)
    unfold colF col
    rw [e]
    rfl
  · obtain ⟨h1, h2⟩ := h
    unfold colF col at h1
    cases e : look (cellsOf F) s.pt with
    | none =>
      rw [e] at h1
      exact absurd h1 h2
    | some c =>
      rw [e] at h1
      obtain ⟨t, ht, et⟩ := List.mem_map.mp (look_mem e)
      have e1 : t.pt = s.pt := congrArg Prod.fst et
      have e2 : t.2.2 = c := congrArg Prod.snd et
      have e3 : t = s := by
        obtain ⟨x, y, z⟩ := t
        obtain ⟨x', y', z'⟩ := s
        have q1 : x = x' := congrArg Prod.fst e1
        have q2 : y = y' := congrArg Prod.snd e1
        have q3 : z = c := e2
        have q4 : z' = c := h1
        rw [q1, q2, q3, q4]
      exact e3 ▸ ht
theorem FloorOf.col {f : Pt → Int} {F : List Sq} (h : FloorOf f F) : colF F = f := by
  funext p
  have g := colF_of h.asc fun s hs => ((h.mem s).mp hs).2
  by_cases z : f p = 0
  · by_cases y : colF F p = 0
    · rw [y, z]
    · have m := (g.mem (p.1, p.2, colF F p)).mpr ⟨rfl, y⟩
      have q := ((h.mem _).mp m).1
      exact q
  · have m := (h.mem (p.1, p.2, f p)).mpr ⟨rfl, z⟩
    exact (((g.mem _).mp m).1).symm
local macro_rules | `(tactic| walk_at "cl") => `(tactic| first | assumption | omega | exact rfl | exact SqL.of (by assumption) | exact SqT.of (by assumption) | exact SqL.of upd_same | exact SqT.of upd_same | exact upd_same | exact tyx_tup (by assumption) | exact TyX.base (.int _) | exact TyX.base (.str _) | exact TyX.base .non | exact TyX.base (.bl _) | exact tyx_lst (by first | assumption | exact SqL.of (by assumption)) | exact at0 | exact at1 | exact at2 | exact at3 | exact ⟨_, by assumption⟩ | exact ⟨_, rfl⟩ | exact ⟨_, SqL.of (by assumption)⟩ | exact ⟨_, SqL.of upd_same⟩ | exact ⟨_, SqT.of (by assumption)⟩ | exact Nat.le_of_ble_eq_true rfl | exact Or.inl ⟨rfl, _, SqL.of (by assumption)⟩ | exact Or.inl ⟨rfl, _, SqL.of upd_same⟩ | exact Dp.non | exact Dp.int _ | exact Dp.bl _ | exact Dp.str _ | exact True.intro | solve_by_elim | decide)
local macro_rules | `(tactic| walk_at "lp") => `(tactic| (fail_if_success refine Exists.intro (w := (fun (_ : Nat) (_ : Nat) (_ : L2.St) (_ : Hp) => True)) ?_); (fail_if_success refine Exists.intro (w := (fun (_ : Nat) (_ : L2.St) (_ : Hp) => True)) ?_); (fail_if_success refine Exists.intro (w := (fun (_ : Nat) (_ : Nat) (_ : Hp) => True)) ?_))
local macro_rules | `(tactic| walk_at "st") => `(tactic| repeat (first | (apply And.intro; (· walk_at "cl")) | (walk_at "lp"; apply Exists.intro)))
local macro_rules | `(tactic| walk_at "cl") => `(tactic| first | exact sl32 | exact sl42)
def topS (i : Nat) : Stmt := PySem.Challenge.pw_streetpapers_k08_whole_never_within_boun.main.body.getD i (.Pass ⟨0, 0, 0, 0⟩)
abbrev s_u_wall : Stmt := topS 1
theorem sc_u_wall : FnScope ["k"] ["k"] (defScope s_u_wall) := ⟨rfl, rfl, rfl, by decide +kernel, rfl, by decide +kernel, by decide +kernel⟩
abbrev s_is_whole : Stmt := topS 11
theorem sc_is_whole : FnScope ["value", "least", "greatest"] ["value", "least", "greatest"] (defScope s_is_whole) := ⟨rfl, rfl, rfl, by decide +kernel, rfl, by decide +kernel, by decide +kernel⟩
abbrev s_is_place : Stmt := topS 12
theorem sc_is_place : FnScope ["value"] ["value"] (defScope s_is_place) := ⟨rfl, rfl, rfl, by decide +kernel, rfl, by decide +kernel, by decide +kernel⟩
abbrev s_check_table : Stmt := topS 17
theorem sc_check_table : FnScope ["value"] ["value"] (defScope s_check_table) := ⟨rfl, rfl, rfl, by decide +kernel, rfl, by decide +kernel, by decide +kernel⟩
abbrev s_is_table : Stmt := topS 18
theorem sc_is_table : FnScope ["value", "state", "entry"] ["value"] (defScope s_is_table) := ⟨rfl, rfl, rfl, by decide +kernel, rfl, by decide +kernel, by decide +kernel⟩
abbrev s_u_is_entry : Stmt := topS 19
theorem sc_u_is_entry : FnScope ["value", "colours", "states", "paint", "turn", "state"] ["value", "colours", "states"] (defScope s_u_is_entry) := ⟨rfl, rfl, rfl, by decide +kernel, rfl, by decide +kernel, by decide +kernel⟩
abbrev s_colour_rounds : Stmt := topS 23
theorem sc_colour_rounds : FnScope ["table"] ["table"] (defScope s_colour_rounds) := ⟨rfl, rfl, rfl, by decide +kernel, rfl, by decide +kernel, by decide +kernel⟩
abbrev s_never_bounded : Stmt := topS 24
theorem sc_never_bounded : FnScope ["table", "colours"] ["table"] (defScope s_never_bounded) := ⟨rfl, rfl, rfl, by decide +kernel, rfl, by decide +kernel, by decide +kernel⟩
abbrev s_bound_stand : Stmt := topS 25
theorem sc_bound_stand : FnScope ["table", "colours"] ["table"] (defScope s_bound_stand) := ⟨rfl, rfl, rfl, by decide +kernel, rfl, by decide +kernel, by decide +kernel⟩
abbrev s_u_check_turning : Stmt := topS 26
theorem sc_u_check_turning : FnScope ["table", "_", "turn", "paint"] ["table"] (defScope s_u_check_turning) := ⟨rfl, rfl, rfl, by decide +kernel, rfl, by decide +kernel, by decide +kernel⟩
abbrev s_u_rounds : Stmt := topS 27
theorem sc_u_rounds : FnScope ["table", "rounds", "known", "least", "colours", "colour"] ["table"] (defScope s_u_rounds) := ⟨rfl, rfl, rfl, by decide +kernel, rfl, by decide +kernel, by decide +kernel⟩
abbrev s_u_turns_both_ways : Stmt := topS 28
theorem sc_u_turns_both_ways : FnScope ["table", "colours", "turns", "colour"] ["table", "colours"] (defScope s_u_turns_both_ways) := ⟨rfl, rfl, rfl, by decide +kernel, rfl, by decide +kernel, by decide +kernel⟩
abbrev s_u_square_stand : Stmt := topS 29
theorem sc_u_square_stand : FnScope ["colour", "turn", "heading"] ["colour", "turn"] (defScope s_u_square_stand) := ⟨rfl, rfl, rfl, by decide +kernel, rfl, by decide +kernel, by decide +kernel⟩
abbrev s_check_floor : Stmt := topS 33
theorem sc_check_floor : FnScope ["value", "colours", "index", "square"] ["value", "colours"] (defScope s_check_floor) := ⟨rfl, rfl, rfl, by decide +kernel, rfl, by decide +kernel, by decide +kernel⟩
abbrev s_painted_places : Stmt := topS 34
theorem sc_painted_places : FnScope ["floor", "x", "y", "colour"] ["floor"] (defScope s_painted_places) := ⟨rfl, rfl, rfl, by decide +kernel, rfl, by decide +kernel, by decide +kernel⟩
abbrev s_ground_colour : Stmt := topS 35
theorem sc_ground_colour : FnScope ["ground", "place", "x", "y", "row"] ["ground", "place"] (defScope s_ground_colour) := ⟨rfl, rfl, rfl, by decide +kernel, rfl, by decide +kernel, by decide +kernel⟩
abbrev s_paint_square : Stmt := topS 36
theorem sc_paint_square : FnScope ["painted", "place", "colour"] ["painted", "place", "colour"] (defScope s_paint_square) := ⟨rfl, rfl, rfl, by decide +kernel, rfl, by decide +kernel, by decide +kernel⟩
abbrev s_u_is_square : Stmt := topS 37
theorem sc_u_is_square : FnScope ["value", "colours"] ["value", "colours"] (defScope s_u_is_square) := ⟨rfl, rfl, rfl, by decide +kernel, rfl, by decide +kernel, by decide +kernel⟩
abbrev s_check_stand : Stmt := topS 41
theorem sc_check_stand : FnScope ["table", "floor", "walker"] ["table", "floor", "walker"] (defScope s_check_stand) := ⟨rfl, rfl, rfl, by decide +kernel, rfl, by decide +kernel, by decide +kernel⟩
abbrev s_check_walker : Stmt := topS 42
theorem sc_check_walker : FnScope ["value", "states"] ["value", "states"] (defScope s_check_walker) := ⟨rfl, rfl, rfl, by decide +kernel, rfl, by decide +kernel, by decide +kernel⟩
abbrev s_is_walker : Stmt := topS 43
theorem sc_is_walker : FnScope ["value", "states"] ["value", "states"] (defScope s_is_walker) := ⟨rfl, rfl, rfl, by decide +kernel, rfl, by decide +kernel, by decide +kernel⟩
abbrev s_u_walker_behind : Stmt := topS 45
theorem sc_u_walker_behind : FnScope ["walker", "entry", "x", "y", "heading", "_", "turn", "state", "dx", "dy"] ["walker", "entry"] (defScope s_u_walker_behind) := ⟨rfl, rfl, rfl, by decide +kernel, rfl, by decide +kernel, by decide +kernel⟩
abbrev s_shows_paper : Stmt := topS 48
theorem sc_shows_paper : FnScope ["table", "floor", "walker", "value"] ["table", "floor", "walker", "value"] (defScope s_shows_paper) := ⟨rfl, rfl, rfl, by decide +kernel, rfl, by decide +kernel, by decide +kernel⟩
abbrev s_is_paper : Stmt := topS 49
theorem sc_is_paper : FnScope ["value"] ["value"] (defScope s_is_paper) := ⟨rfl, rfl, rfl, by decide +kernel, rfl, by decide +kernel, by decide +kernel⟩
abbrev s_lane_of : Stmt := topS 51
theorem sc_lane_of : FnScope ["place", "move", "along"] ["place", "move"] (defScope s_lane_of) := ⟨rfl, rfl, rfl, by decide +kernel, rfl, by decide +kernel, by decide +kernel⟩
abbrev s_u_copied : Stmt := topS 52
theorem sc_u_copied : FnScope ["painted", "place"] ["painted"] (defScope s_u_copied) := ⟨rfl, rfl, rfl, by decide +kernel, rfl, by decide +kernel, by decide +kernel⟩
abbrev s_u_repeats_for_ever : Stmt := topS 53
theorem sc_u_repeats_for_ever : FnScope ["painted", "loop", "move", "ground", "lanes", "colours", "place", "lane", "along"] ["painted", "loop", "move", "ground"] (defScope s_u_repeats_for_ever) := ⟨rfl, rfl, rfl, by decide +kernel, rfl, by decide +kernel, by decide +kernel⟩
abbrev s_u_lane_visits : Stmt := topS 54
theorem sc_u_lane_visits : FnScope ["loop", "move", "lanes", "walker", "colour", "paint", "lane", "along", "visits", "read"] ["loop", "move"] (defScope s_u_lane_visits) := ⟨rfl, rfl, rfl, by decide +kernel, rfl, by decide +kernel, by decide +kernel⟩
abbrev s_u_lane_ground : Stmt := topS 55
theorem sc_u_lane_ground : FnScope ["lane", "move", "ground", "many", "along"] ["lane", "move", "ground"] (defScope s_u_lane_ground) := ⟨rfl, rfl, rfl, by decide +kernel, rfl, by decide +kernel, by decide +kernel⟩
abbrev s_u_lane_repeats : Stmt := topS 56
theorem sc_u_lane_repeats : FnScope ["visits", "colours", "own", "places", "here", "there", "read", "ahead", "last", "beyond", "between", "colour", "along"] ["visits", "colours", "own"] (defScope s_u_lane_repeats) := ⟨rfl, rfl, rfl, by decide +kernel, rfl, by decide +kernel, by decide +kernel⟩
abbrev s_law_taken : Stmt := topS 58
theorem sc_law_taken : FnScope ["row", "many", "found", "cell"] ["row", "many"] (defScope s_law_taken) := ⟨rfl, rfl, rfl, by decide +kernel, rfl, by decide +kernel, by decide +kernel⟩
abbrev s_law_pick : Stmt := topS 59
theorem sc_law_pick : FnScope ["row", "things"] ["row", "things"] (defScope s_law_pick) := ⟨rfl, rfl, rfl, by decide +kernel, rfl, by decide +kernel, by decide +kernel⟩
abbrev s_law_ahead : Stmt := topS 60
theorem sc_law_ahead : FnScope ["place", "heading"] ["place", "heading"] (defScope s_law_ahead) := ⟨rfl, rfl, rfl, by decide +kernel, rfl, by decide +kernel, by decide +kernel⟩
abbrev s_law_step : Stmt := topS 61
theorem sc_law_step : FnScope ["table", "cells", "walker", "place", "entry", "heading"] ["table", "cells", "walker"] (defScope s_law_step) := ⟨rfl, rfl, rfl, by decide +kernel, rfl, by decide +kernel, by decide +kernel⟩
abbrev s_law_alike : Stmt := topS 62
theorem sc_law_alike : FnScope ["found", "due", "k"] ["found", "due"] (defScope s_law_alike) := ⟨rfl, rfl, rfl, by decide +kernel, rfl, by decide +kernel, by decide +kernel⟩
abbrev s_law_turning_table : Stmt := topS 63
theorem sc_law_turning_table : FnScope ["row", "colours", "found", "left", "colour"] ["row"] (defScope s_law_turning_table) := ⟨rfl, rfl, rfl, by decide +kernel, rfl, by decide +kernel, by decide +kernel⟩
abbrev s_law_power : Stmt := topS 64
theorem sc_law_power : FnScope ["number", "many", "found", "turn"] ["number", "many"] (defScope s_law_power) := ⟨rfl, rfl, rfl, by decide +kernel, rfl, by decide +kernel, by decide +kernel⟩
abbrev s_law_leaves : Stmt := topS 65
theorem sc_law_leaves : FnScope ["table", "cells", "walker", "wide", "high", "turn"] ["table", "cells", "walker", "wide", "high"] (defScope s_law_leaves) := ⟨rfl, rfl, rfl, by decide +kernel, rfl, by decide +kernel, by decide +kernel⟩
abbrev s_law : Stmt := topS 66
theorem sc_law : FnScope ["script", "row", "table", "rounds", "seen", "colour", "line", "here", "turns", "good", "told", "turn", "floor", "wide", "high", "cells", "x", "y", "walker", "k"] ["script"] (defScope s_law) := ⟨rfl, rfl, rfl, by decide +kernel, rfl, by decide +kernel, by decide +kernel⟩
abbrev s_BadFloor_init : Stmt := inClass (topS 5) 0
theorem sc_BadFloor_init : FnScope ["self", "index"] ["self", "index"] (defScope s_BadFloor_init) := ⟨rfl, rfl, rfl, by decide +kernel, rfl, by decide +kernel, by decide +kernel⟩
abbrev s_TooMany_init : Stmt := inClass (topS 8) 0
theorem sc_TooMany_init : FnScope ["self", "most"] ["self", "most"] (defScope s_TooMany_init) := ⟨rfl, rfl, rfl, by decide +kernel, rfl, by decide +kernel, by decide +kernel⟩
abbrev s_Stroll_init : Stmt := inClass (topS 44) 0
theorem sc_Stroll_init : FnScope ["self", "table", "floor", "walker", "ground"] ["self", "table", "floor", "walker", "ground"] (defScope s_Stroll_init) := ⟨rfl, rfl, rfl, by decide +kernel, rfl, by decide +kernel, by decide +kernel⟩
abbrev s_Stroll_colour_of : Stmt := inClass (topS 44) 1
theorem sc_Stroll_colour_of : FnScope ["self", "place"] ["self", "place"] (defScope s_Stroll_colour_of) := ⟨rfl, rfl, rfl, by decide +kernel, rfl, by decide +kernel, by decide +kernel⟩
abbrev s_Stroll_paint : Stmt := inClass (topS 44) 2
theorem sc_Stroll_paint : FnScope ["self", "place", "colour"] ["self", "place", "colour"] (defScope s_Stroll_paint) := ⟨rfl, rfl, rfl, by decide +kernel, rfl, by decide +kernel, by decide +kernel⟩
abbrev s_Stroll_reading : Stmt := inClass (topS 44) 3
theorem sc_Stroll_reading : FnScope ["self"] ["self"] (defScope s_Stroll_reading) := ⟨rfl, rfl, rfl, by decide +kernel, rfl, by decide +kernel, by decide +kernel⟩
abbrev s_Stroll_has_stopped : Stmt := inClass (topS 44) 4
theorem sc_Stroll_has_stopped : FnScope ["self", "state", "colour"] ["self"] (defScope s_Stroll_has_stopped) := ⟨rfl, rfl, rfl, by decide +kernel, rfl, by decide +kernel, by decide +kernel⟩
abbrev s_Stroll_go : Stmt := inClass (topS 44) 5
theorem sc_Stroll_go : FnScope ["self", "many", "told", "_", "place", "colour", "entry"] ["self", "many"] (defScope s_Stroll_go) := ⟨rfl, rfl, rfl, by decide +kernel, rfl, by decide +kernel, by decide +kernel⟩
abbrev s_Course_init : Stmt := inClass (topS 50) 0
theorem sc_Course_init : FnScope ["self", "stroll", "paper", "lead"] ["self", "stroll", "paper"] (defScope s_Course_init) := ⟨rfl, rfl, rfl, by decide +kernel, rfl, by decide +kernel, by decide +kernel⟩
abbrev s_Course_holds : Stmt := inClass (topS 50) 1
theorem sc_Course_holds : FnScope ["self"] ["self"] (defScope s_Course_holds) := ⟨rfl, rfl, rfl, by decide +kernel, rfl, by decide +kernel, by decide +kernel⟩
abbrev s_Course_lasts : Stmt := inClass (topS 50) 2
theorem sc_Course_lasts : FnScope ["self", "step"] ["self", "step"] (defScope s_Course_lasts) := ⟨rfl, rfl, rfl, by decide +kernel, rfl, by decide +kernel, by decide +kernel⟩
abbrev s_Course_near : Stmt := inClass (topS 50) 3
theorem sc_Course_near : FnScope ["self", "step"] ["self", "step"] (defScope s_Course_near) := ⟨rfl, rfl, rfl, by decide +kernel, rfl, by decide +kernel, by decide +kernel⟩
abbrev s_Course_walker_behind : Stmt := inClass (topS 50) 4
theorem sc_Course_walker_behind : FnScope ["self", "step"] ["self", "step"] (defScope s_Course_walker_behind) := ⟨rfl, rfl, rfl, by decide +kernel, rfl, by decide +kernel, by decide +kernel⟩
abbrev s_Course_painted_behind : Stmt := inClass (topS 50) 5
theorem sc_Course_painted_behind : FnScope ["self", "step"] ["self", "step"] (defScope s_Course_painted_behind) := ⟨rfl, rfl, rfl, by decide +kernel, rfl, by decide +kernel, by decide +kernel⟩
abbrev s_Course_colour_behind : Stmt := inClass (topS 50) 6
theorem sc_Course_colour_behind : FnScope ["self", "step", "place"] ["self", "step", "place"] (defScope s_Course_colour_behind) := ⟨rfl, rfl, rfl, by decide +kernel, rfl, by decide +kernel, by decide +kernel⟩
abbrev s_Course_painted_near : Stmt := inClass (topS 50) 7
theorem sc_Course_painted_near : FnScope ["self", "near"] ["self", "near"] (defScope s_Course_painted_near) := ⟨rfl, rfl, rfl, by decide +kernel, rfl, by decide +kernel, by decide +kernel⟩
abbrev s_Course_street_colour : Stmt := inClass (topS 50) 8
theorem sc_Course_street_colour : FnScope ["self", "step", "place"] ["self", "step", "place"] (defScope s_Course_street_colour) := ⟨rfl, rfl, rfl, by decide +kernel, rfl, by decide +kernel, by decide +kernel⟩
/-- what the top has left of built-in names and constants -/
structure Txt (K : PySem.W.Frag) (mg : Str → Option Value) : Prop where
  m_ValueError : mg "ValueError" = none
  m_all : mg "all" = none
  m_any : mg "any" = none
  m_bool : mg "bool" = none
  m_enumerate : mg "enumerate" = none
  m_int : mg "int" = none
  m_isinstance : mg "isinstance" = none
  m_len : mg "len" = none
  m_list : mg "list" = none
  m_range : mg "range" = none
  m_set : mg "set" = none
  m_sorted : mg "sorted" = none
  m_str : mg "str" = none
  m_tuple : mg "tuple" = none
  m_zip : mg "zip" = none
  far : ∃ t, mg "FAR" = some (.int 1000000000000000000000000000000000000000000000000000000000000 t)
  most_states : ∃ t, mg "MOST_STATES" = some (.int 10 t)
  fewest_colours : ∃ t, mg "FEWEST_COLOURS" = some (.int 2 t)
  most_colours : ∃ t, mg "MOST_COLOURS" = some (.int 6 t)
  right : ∃ t, mg "RIGHT" = some (.int 1 t)
  left : ∃ t, mg "LEFT" = some (.int 3 t)
  most_squares : ∃ t, mg "MOST_SQUARES" = some (.int 4000 t)
  most_steps : ∃ t, mg "MOST_STEPS" = some (.int 100000 t)
  ahead : AheadAt K mg
  longest_period : ∃ t, mg "LONGEST_PERIOD" = some (.int 2000 t)
section
variable {P : Program} {w : World} {K : PySem.W.Frag} {mg : Str → Option Value} {base : Heap}
theorem ok_law_taken (T : Txt K mg) (D : DefAt K mg "_law_taken" s_law_taken ["row", "many"]) : Cal P w K mg base CX0 "_law_taken" 1 ["row", "many"] (spTaken K) := by
  refine D.cal sc_law_taken (fun vs H Q E h => ?_) (fun f cdv A outer s H vs Q E hr h => ?_)
  · obtain ⟨r, many, rfl, _⟩ := h
    rfl
  · obtain ⟨r, many, rfl, ⟨t, ns, i, m, c, hrow, hS, hi, hm0, hm1, hc⟩, hp, hb, q⟩ := h
    refine ⟨_, (pss_cons (ps_if (pt_cmpR op_gt (pe_ix (k_ix_list (K := K)) (pv 0) pe_int (fun _ _ => rfl)) pe_int (nomark _)) (pss_cons (ps_set (i := 2) sc_law_taken.nd rfl (Or.inl rfl) (pe_op op_mod (pe_callTy call_int_i (by rfl) T.m_int (by decide +kernel) (pa_cons (pe_ix (k_ix_list (K := K)) (pv 0) pe_int (fun _ _ => rfl)) pa_nil)) (pv 1)))
      (pss_cons (ps_asg (pe_op op_fdivW (pe_ix (k_ix_list (K := K)) (pv 0) pe_int (fun _ _ => rfl)) (pv 1)) (pg_sub (pv 0) pe_int set_list))
      (pss_one (ps_ret (pv 2))))) pss_nil)
      (pss_cons (ps_asg (pe_op op_add (pe_ix (k_ix_list (K := K)) (pv 0) pe_int (fun _ _ => rfl)) pe_int) (pg_sub (pv 0) pe_int set_list))
      (pss_cons (ps_if (pt_cmpR op_gt (pe_ix (k_ix_list (K := K)) (pv 0) pe_int (fun _ _ => rfl)) (pe_callB (k_len_l (K := K)) (by rfl) T.m_len (by decide +kernel) (pa_cons (pe_ix (k_ix_list (K := K)) (pv 0) pe_int (fun _ _ => rfl)) pa_nil)) (nomark _)) (pss_cons (ps_asg (pe_op op_mod (pe_callTy call_int_i (by rfl) T.m_int (by decide +kernel) (pa_cons (pe_op op_add (pe_op op_mul (pe_ix (k_ix_list (K := K)) (pv 0) pe_int (fun _ _ => rfl)) pe_int) pe_int) pa_nil)) pe_int) (pg_sub (pv 0) pe_int set_list))
      (pss_one (ps_ret (pe_op op_mod (pe_callTy call_int_i (by rfl) T.m_int (by decide +kernel) (pa_cons (pe_op op_fdivW (pe_ix (k_ix_list (K := K)) (pv 0) pe_int (fun _ _ => rfl)) pe_int) pa_nil)) (pv 1))))) pss_nil)
      (pss_cons (ps_set (i := 3) sc_law_taken.nd rfl (Or.inl rfl) (pe_ix (k_ix_list (K := K)) (pe_ix (k_ix_list (K := K)) (pv 0) pe_int (fun _ _ => rfl)) (pe_op op_sub (pe_ix (k_ix_list (K := K)) (pv 0) pe_int (fun _ _ => rfl)) pe_int) (fun _ _ => rfl)))
      (pss_cons (ps_asg (pe_op op_mod (pe_callTy call_int_i (by rfl) T.m_int (by decide +kernel) (pa_cons (pe_op op_add (pe_op op_add (pe_op op_mul (pe_ix (k_ix_list (K := K)) (pv 0) pe_int (fun _ _ => rfl)) pe_int) (pv 3)) pe_int) pa_nil)) pe_int) (pg_sub (pv 0) pe_int set_list))
      (pss_cons (ps_if (pt_cmpR op_ge (pv 3) (pe_op op_pow pe_int pe_int) (nomark _)) (pss_one (ps_asg (pe_op op_fdivW (pv 3) (pv 1)) (pg_sub (pv 0) pe_int set_list))) pss_nil)
      (pss_one (ps_ret (pe_op op_mod (pe_callTy call_int_i (by rfl) T.m_int (by decide +kernel) (pa_cons (pv 3) pa_nil)) (pv 1)))))))))), ?_⟩
    have hdiv : ∀ c, CDivW c many := fun c => wide_div hp (show many.natAbs < 2 ^ 250 by omega) (by decide) (by decide)
    have hdiv7 : ∀ c, CDivW c 7 := fun c => ⟨by decide, by decide⟩
    have hmul : ∀ c, CMul c 48271 := fun c => .inr ⟨by decide, by decide⟩
    have hpow : CPow 10 18 := ⟨by decide, by decide, by decide⟩
    have hk : ∀ o, KeepB r H (upd H r o) := fun o => KeepB.put
    have hs := hS.sq
    have hS1 : ∀ o, Scr K (upd H r o) t ns := fun o => hS.mono (TK.lst hrow)
    have hs1 : ∀ o, SqL K (upd H r o) t (ns.map V.int) := fun o => (hS1 o).sq
    have hs2 : ∀ o o', SqL K (upd (upd H r o) r o') t (ns.map V.int) := fun o o' => by rw [upd_upd]; exact hs1 _
    have hmod : ∀ x : Int, 0 ≤ x % 2147483647 ∧ x % 2147483647 < 2147483647 := fun x => ⟨Int.emod_nonneg _ (by decide), Int.emod_lt_of_pos _ (by decide)⟩
    have fin : ∀ (x i' m' c' : Int), 0 ≤ i' → 0 ≤ m' → m' < 2147483647 → 0 ≤ c' → Q (.int (x % many)) (upd H r (.lst [.ref t, .int i', .int m', .int c'])) := fun x i' m' c' h1 h2 h3 h4 =>
      q _ _ (Int.emod_nonneg _ (by omega)) (Int.emod_lt_of_pos _ hp) ⟨t, ns, i', m', c', upd_same, hS1 _, h1, h2, h3, h4⟩ (hk _)
    walk_at "st"
    refine ite2 (fun e => ?_) (fun e => ?_)
    · have e := of_decide_eq_true e
      walk_at "st"
      exact fin c i m (c / many) hi hm0 hm1 (Int.ediv_nonneg hc (by omega))
    · walk_at "st"
      refine ite2 (fun e => ?_) (fun e => ?_)
      · walk_at "st"
        simp only [upd_upd]
        exact fin _ (i + 1) _ c (by omega) (hmod _).1 (hmod _).2 hc
      · have e2 : ¬ ((i + 1 : Int) > ((ns.map V.int).length : Int)) := fun z => e (decide_eq_true z)
        rw [List.length_map] at e2
        have hat : ∃ z, atI (ns.map V.int) (i + 1 - 1) = some (.int z) := by
          obtain ⟨j, rfl⟩ : ∃ j : Nat, i = (j : Int) := ⟨i.toNat, by omega⟩
          have hj : j < ns.length := by omega
          refine ⟨ns[j], ?_⟩
          rw [show ((j : Int) + 1 - 1) = (j : Int) by omega]
          exact atI_nat (by rw [List.getElem?_map, List.getElem?_eq_getElem hj]; rfl)
        obtain ⟨z, hat⟩ := hat
        walk_at "st"
        refine ite2 (fun e => ?_) (fun e => ?_)
        · have e := of_decide_eq_true e
          walk_at "st"
          simp only [upd_upd]
          have hz : (0 : Int) ≤ z := Int.le_trans (by decide) e
          exact fin _ (i + 1) _ _ (by omega) (hmod _).1 (hmod _).2 (Int.ediv_nonneg hz (by omega))
        · walk_at "st"
          simp only [upd_upd]
          exact fin _ (i + 1) _ c (by omega) (hmod _).1 (hmod _).2 hc
end

/-! ### tables -/
abbrev Ent := Option (Int × Int × Int)
def entD : Ent → PyData
  | none => .none
  | some e => .tuple [.int e.1, .int e.2.1, .int e.2.2]
def rowD (r : List Ent) : PyData := .tuple (r.map entD)
def tabD (T : List (List Ent)) : PyData := .tuple (T.map rowD)
def EntOk (c n : Int) : Ent → Prop
  | none => True
  | some e => (0 ≤ e.1 ∧ e.1 < c) ∧ (0 ≤ e.2.1 ∧ e.2.1 < 4) ∧ (0 ≤ e.2.2 ∧ e.2.2 < n)
def TabOk (c n : Nat) (T : List (List Ent)) : Prop := T.length = n ∧ ∀ r ∈ T, r.length = c ∧ ∀ e ∈ r, EntOk c n e
def spTable (K : PySem.W.Frag) : Sp := fun vs H Q _ => ∃ r : Addr, vs = [.ref r] ∧ Row K H r ∧
  ∀ (v : V) (H' : Hp) (c n : Nat) (T : List (List Ent)), 1 ≤ n → n ≤ 2 → 2 ≤ c → c ≤ 3 → TabOk c n T → Tp K H' v (tabD T) → Row K H' r → KeepB r H H' → Q v H'

/-! ### walks -/
/-- x, y, heading, state -/
abbrev Wk := Int × Int × Int × Int
def wkD (w : Wk) : PyData := .tuple [.int w.1, .int w.2.1, .int w.2.2.1, .int w.2.2.2]
def wPt (w : Wk) : Pt := (w.1, w.2.1)
def dxI (h : Int) : Int := if h = 1 then 1 else if h = 3 then -1 else 0
def dyI (h : Int) : Int := if h = 0 then -1 else if h = 2 then 1 else 0
def entAt (T : List (List Ent)) (s c : Int) : Ent := ((T[s.toNat]?).bind fun r => r[c.toNat]?).getD none
def dab (f : Pt → Int) (p : Pt) (c : Int) : Pt → Int := fun q => if q = p then c else f q
abbrev WSt := (Pt → Int) × Wk
def turnI (w : Wk) (t : Int) : Int := (w.2.2.1 + t) % 4
def behind (w : Wk) (e : Int × Int × Int) : Wk := (w.1 + dxI (turnI w e.2.1), w.2.1 + dyI (turnI w e.2.1), turnI w e.2.1, e.2.2)
def stepW (T : List (List Ent)) (z : WSt) : Option WSt := (entAt T z.2.2.2.2 (z.1 (wPt z.2))).map fun e => (dab z.1 (wPt z.2) e.1, behind z.2 e)
def runW (T : List (List Ent)) : Nat → WSt → Option WSt
  | 0, z => some z
  | n + 1, z => (runW T n z).bind (stepW T)
structure Ends (T : List (List Ent)) (z : WSt) (many i : Nat) (z' : WSt) : Prop where
  run : runW T i z = some z'
  le : i ≤ many
  stop : i = many ∨ stepW T z' = none
section
variable {T : List (List Ent)}
theorem runW_none {z : WSt} {i : Nat} (h : runW T i z = none) : ∀ k, runW T (i + k) z = none
  | 0 => h
  | k + 1 => by
    show (runW T (i + k) z).bind (stepW T) = none
    rw [runW_none h k]
    rfl
theorem runW_add (z : WSt) (i : Nat) : ∀ j, runW T (i + j) z = (runW T i z).bind (runW T j)
  | 0 => by
    show runW T i z = (runW T i z).bind some
    cases runW T i z <;> rfl
  | j + 1 => by
    show (runW T (i + j) z).bind (stepW T) = _
    rw [runW_add z i j]
    cases runW T i z <;> rfl
theorem Ends.stuck {z z' : WSt} {many i j : Nat} (h : Ends T z many i z') (l : i < j) (m : j ≤ many) : runW T j z = none := by
  have st : stepW T z' = none := h.stop.resolve_left (by omega)
  have n : runW T (i + 1) z = none := by
    show (runW T i z).bind (stepW T) = none
    rw [h.run]
    exact st
  have q := runW_none n (j - (i + 1))
  rw [show i + 1 + (j - (i + 1)) = j by omega] at q
  exact q
theorem Ends.uniq {z z1 z2 : WSt} {many i j : Nat} (a : Ends T z many i z1) (b : Ends T z many j z2) : i = j ∧ z1 = z2 := by
  have e : i = j := by
    rcases Nat.lt_trichotomy i j with l | l | l
    · have q := a.stuck l b.le
      rw [b.run] at q
      cases q
    · exact l
    · have q := b.stuck l a.le
      rw [a.run] at q
      cases q
  subst e
  have q := a.run
  rw [b.run] at q
  exact ⟨rfl, (Option.some.inj q).symm⟩
theorem Ends.two {z z1 z2 : WSt} {many more i j : Nat} (a : Ends T z many i z1) (b : Ends T z1 more j z2) : Ends T z (many + more) (i + j) z2 := by
  refine ⟨?_, Nat.add_le_add a.le b.le, ?_⟩
  · rw [runW_add, a.run]
    exact b.run
  · rcases a.stop with e | st
    · exact b.stop.imp (fun e2 => by rw [e, e2]) id
    · have ej : j = 0 := by
        rcases Nat.eq_zero_or_pos j with q | q
        · exact q
        · have n : runW T (0 + 1) z1 = none := st
          have r := runW_none n (j - 1)
          rw [show 0 + 1 + (j - 1) = j by omega, b.run] at r
          cases r
      subst ej
      have e2 : z1 = z2 := Option.some.inj b.run
      exact .inr (e2 ▸ st)
/-- what goes with every step goes with the walk -/
theorem runW_map {φ : WSt → WSt} (h : ∀ z, stepW T (φ z) = (stepW T z).map φ) (z : WSt) : ∀ i, runW T i (φ z) = (runW T i z).map φ
  | 0 => rfl
  | i + 1 => by
    show (runW T i (φ z)).bind (stepW T) = ((runW T i z).bind (stepW T)).map φ
    rw [runW_map h z i]
    cases runW T i z with
    | none => rfl
    | some y => exact h y
theorem Ends.map {φ : WSt → WSt} (h : ∀ z, stepW T (φ z) = (stepW T z).map φ) {z z' : WSt} {many i : Nat} (a : Ends T z many i z') : Ends T (φ z) many i (φ z') := by
  refine ⟨?_, a.le, a.stop.imp id fun st => ?_⟩
  · rw [runW_map h, a.run]
    rfl
  · rw [h, st]
    rfl
/-! ### a quarter turn, a move -/
def rotP (p : Pt) : Pt := (-p.2, p.1)
def unrotP (p : Pt) : Pt := (p.2, -p.1)
theorem rot_iff {p q : Pt} : q = rotP p ↔ unrotP q = p := by
  obtain ⟨a, b⟩ := p
  obtain ⟨c, d⟩ := q
  unfold rotP unrotP
  constructor
  · intro h
    have h1 : c = -b := congrArg Prod.fst h
    have h2 : d = a := congrArg Prod.snd h
    rw [h1, h2, Int.neg_neg]
  · intro h
    have h1 : d = a := congrArg Prod.fst h
    have h2 : -c = b := congrArg Prod.snd h
    rw [← h1, ← h2, Int.neg_neg]
def rotZ (z : WSt) : WSt := (fun q => z.1 (unrotP q), (-z.2.2.1, z.2.1, (z.2.2.2.1 + 1) % 4, z.2.2.2.2))
theorem dab_rot (f : Pt → Int) (p : Pt) (c : Int) : dab (fun q => f (unrotP q)) (rotP p) c = fun q => dab f p c (unrotP q) := by
  funext q
  unfold dab
  by_cases h : q = rotP p
  · rw [if_pos h, if_pos (rot_iff.mp h)]
  · rw [if_neg h, if_neg (fun z => h (rot_iff.mpr z))]
theorem turn_ax {g : Int} (h0 : 0 ≤ g) (h1 : g < 4) : dxI ((g + 1) % 4) = -dyI g ∧ dyI ((g + 1) % 4) = dxI g := by
  obtain ⟨n, rfl⟩ := Int.eq_ofNat_of_zero_le h0
  have h : n = 0 ∨ n = 1 ∨ n = 2 ∨ n = 3 := by omega
  rcases h with rfl | rfl | rfl | rfl <;> decide
theorem behind_rot (f : Pt → Int) (w : Wk) (e : Int × Int × Int) : behind (rotZ (f, w)).2 e = (rotZ (f, behind w e)).2 := by
  have g0 : 0 ≤ turnI w e.2.1 := Int.emod_nonneg _ (by decide)
  have g1 : turnI w e.2.1 < 4 := Int.emod_lt_of_pos _ (by decide)
  have e1 : turnI (rotZ (f, w)).2 e.2.1 = (turnI w e.2.1 + 1) % 4 := by
    show ((w.2.2.1 + 1) % 4 + e.2.1) % 4 = ((w.2.2.1 + e.2.1) % 4 + 1) % 4
    omega
  obtain ⟨a1, a2⟩ := turn_ax g0 g1
  unfold behind
  rw [e1, a1, a2]
  show (-w.2.1 + -dyI (turnI w e.2.1), w.1 + dxI (turnI w e.2.1), _, _) = (-(w.2.1 + dyI (turnI w e.2.1)), w.1 + dxI (turnI w e.2.1), _, _)
  rw [Int.neg_add]
theorem step_rot (z : WSt) : stepW T (rotZ z) = (stepW T z).map rotZ := by
  obtain ⟨f, w⟩ := z
  have e : (rotZ (f, w)).1 (wPt (rotZ (f, w)).2) = f (wPt w) := by
    show f (unrotP (rotP (wPt w))) = f (wPt w)
    rw [rot_iff.mp rfl]
  show ((entAt T w.2.2.2 ((rotZ (f, w)).1 (wPt (rotZ (f, w)).2))).map _) = ((entAt T w.2.2.2 (f (wPt w))).map _).map rotZ
  rw [e]
  cases entAt T w.2.2.2 (f (wPt w)) with
  | none => rfl
  | some en =>
    show some (dab (fun q => f (unrotP q)) (rotP (wPt w)) en.1, behind (rotZ (f, w)).2 en) = some (rotZ (dab f (wPt w) en.1, behind w en))
    rw [dab_rot, behind_rot f w en]
    rfl
def shiftZ (m : Int) (z : WSt) : WSt := (fun q => z.1 (q.1 - m, q.2), (z.2.1 + m, z.2.2.1, z.2.2.2.1, z.2.2.2.2))
theorem step_shift (m : Int) (z : WSt) : stepW T (shiftZ m z) = (stepW T z).map (shiftZ m) := by
  obtain ⟨f, w⟩ := z
  have e : (shiftZ m (f, w)).1 (wPt (shiftZ m (f, w)).2) = f (wPt w) := by
    show f (w.1 + m - m, w.2.1) = f (wPt w)
    rw [show w.1 + m - m = w.1 by omega]
    rfl
  show ((entAt T w.2.2.2 ((shiftZ m (f, w)).1 (wPt (shiftZ m (f, w)).2))).map _) = ((entAt T w.2.2.2 (f (wPt w))).map _).map (shiftZ m)
  rw [e]
  cases entAt T w.2.2.2 (f (wPt w)) with
  | none => rfl
  | some en =>
    have e1 : dab (fun q : Pt => f (q.1 - m, q.2)) (w.1 + m, w.2.1) en.1 = fun q => dab f (wPt w) en.1 (q.1 - m, q.2) := by
      funext q
      obtain ⟨a, b⟩ := q
      unfold dab wPt
      by_cases h : (a, b) = (w.1 + m, w.2.1)
      · have h1 : a = w.1 + m := congrArg Prod.fst h
        have h2 : b = w.2.1 := congrArg Prod.snd h
        rw [if_pos h, if_pos (by rw [h1, h2, show w.1 + m - m = w.1 by omega])]
      · rw [if_neg h, if_neg (fun z => h ?_)]
        have h1 : a - m = w.1 := congrArg Prod.fst z
        have h2 : b = w.2.1 := congrArg Prod.snd z
        rw [← h1, ← h2, show a - m + m = a by omega]
    have e2 : behind (w.1 + m, w.2.1, w.2.2.1, w.2.2.2) en = ((behind w en).1 + m, (behind w en).2.1, (behind w en).2.2.1, (behind w en).2.2.2) := by
      show (w.1 + m + dxI (turnI w en.2.1), _, _, _) = (w.1 + dxI (turnI w en.2.1) + m, _, _, _)
      rw [Int.add_right_comm]
      rfl
    show some (dab (fun q : Pt => f (q.1 - m, q.2)) (w.1 + m, w.2.1) en.1, behind (w.1 + m, w.2.1, w.2.2.1, w.2.2.2) en) = some (shiftZ m (dab f (wPt w) en.1, behind w en))
    rw [e1, e2]
    rfl
/-! ### how far a walk comes -/
def InB (B : Int) (p : Pt) : Prop := (-B ≤ p.1 ∧ p.1 ≤ B) ∧ (-B ≤ p.2 ∧ p.2 ≤ B)
structure Fit (c n : Nat) (B : Int) (z : WSt) : Prop where
  cols : ∀ p, 0 ≤ z.1 p ∧ z.1 p < c
  near : ∀ p, z.1 p ≠ 0 → InB B p
  wk : InB B (wPt z.2)
  hd : 0 ≤ z.2.2.2.1 ∧ z.2.2.2.1 < 4
  st : 0 ≤ z.2.2.2.2 ∧ z.2.2.2.2 < n
theorem entAt_ok {c n : Nat} (ok : TabOk c n T) {s k : Int} (hs : 0 ≤ s ∧ s < n) (hk : 0 ≤ k ∧ k < c) : ∃ r, T[s.toNat]? = some r ∧ r.length = c ∧ r[k.toNat]? = some (entAt T s k) ∧ EntOk c n (entAt T s k) := by
  have l1 : s.toNat < T.length := by rw [ok.1]; omega
  have m1 : T[s.toNat] ∈ T := List.getElem_mem l1
  obtain ⟨r1, r2⟩ := ok.2 _ m1
  have l2 : k.toNat < (T[s.toNat]).length := by rw [r1]; omega
  have e : entAt T s k = (T[s.toNat])[k.toNat] := by
    unfold entAt
    rw [List.getElem?_eq_getElem l1]
    show (((T[s.toNat])[k.toNat]?).getD none) = _
    rw [List.getElem?_eq_getElem l2]
    rfl
  refine ⟨_, List.getElem?_eq_getElem l1, r1, ?_, ?_⟩
  · rw [e]
    exact List.getElem?_eq_getElem l2
  · rw [e]
    exact r2 _ (List.getElem_mem l2)
theorem InB.mono {B C : Int} {p : Pt} (h : InB B p) (l : B ≤ C) : InB C p := by
  unfold InB at *
  omega
theorem ahead1 (h : Int) : (-1 ≤ dxI h ∧ dxI h ≤ 1) ∧ (-1 ≤ dyI h ∧ dyI h ≤ 1) := by
  unfold dxI dyI
  constructor
  · split
    · omega
    · split <;> omega
  · split
    · omega
    · split <;> omega
theorem Fit.step {c n : Nat} {B : Int} {z z' : WSt} (ok : TabOk c n T) (g : Fit c n B z) (h : stepW T z = some z') : Fit c n (B + 1) z' := by
  obtain ⟨r, _, _, _, eo⟩ := entAt_ok ok g.st (g.cols (wPt z.2))
  unfold stepW at h
  generalize he : entAt T z.2.2.2.2 (z.1 (wPt z.2)) = en at h eo
  cases en with
  | none => cases h
  | some e =>
    obtain rfl := (Option.some.inj h).symm
    obtain ⟨o1, o2, o3⟩ := eo
    have w1 := g.wk
    obtain ⟨a1, a2⟩ := ahead1 (turnI z.2 e.2.1)
    refine ⟨fun p => ?_, fun p hp => ?_, ?_, ⟨Int.emod_nonneg _ (by decide), Int.emod_lt_of_pos _ (by decide)⟩, o3⟩
    · show 0 ≤ (if p = wPt z.2 then e.1 else z.1 p) ∧ (if p = wPt z.2 then e.1 else z.1 p) < c
      split
      · exact o1
      · exact g.cols p
    · have hp : (if p = wPt z.2 then e.1 else z.1 p) ≠ 0 := hp
      split at hp
      · rename_i q
        rw [q]
        exact w1.mono (by omega)
      · exact (g.near p hp).mono (by omega)
    · show InB (B + 1) (z.2.1 + dxI (turnI z.2 e.2.1), z.2.2.1 + dyI (turnI z.2 e.2.1))
      unfold InB wPt at *
      omega
theorem Fit.run {c n : Nat} {B : Int} {z : WSt} (ok : TabOk c n T) (g : Fit c n B z) : ∀ {i : Nat} {z' : WSt}, runW T i z = some z' → Fit c n (B + i) z'
  | 0, z', h => by
    obtain rfl := Option.some.inj h
    rw [show B + ((0 : Nat) : Int) = B by omega]
    exact g
  | i + 1, z', h => by
    have h : (runW T i z).bind (stepW T) = some z' := h
    cases e : runW T i z with
    | none =>
      rw [e] at h
      cases h
    | some y =>
      rw [e] at h
      have q := (g.run ok e).step ok h
      rw [show B + ((i + 1 : Nat) : Int) = B + (i : Int) + 1 by omega]
      exact q
end
/-! ### floors that may be handed in -/
structure FlOk (c : Nat) (B : Int) (F : List Sq) : Prop where
  asc : F.Pairwise fun a b => ltP a.pt b.pt
  sq : ∀ s ∈ F, InB B s.pt ∧ 1 ≤ s.2.2 ∧ s.2.2 < c
theorem FlOk.of {c n : Nat} {B : Int} {z : WSt} {F : List Sq} (g : Fit c n B z) (h : FloorOf z.1 F) : FlOk c B F := by
  refine ⟨h.asc, fun s hs => ?_⟩
  obtain ⟨e, nz⟩ := (h.mem s).mp hs
  have c1 := g.cols s.pt
  rw [e] at nz
  refine ⟨g.near _ nz, ?_, ?_⟩ <;> rw [e] <;> omega
theorem FlOk.fl {c : Nat} {B : Int} {F : List Sq} (h : FlOk c B F) : FloorOf (colF F) F := colF_of h.asc fun s hs => by
  have := (h.sq s hs).2
  omega
theorem FlOk.fit {c n : Nat} {B : Int} {F : List Sq} {w : Wk} (h : FlOk c B F) (hc : 1 ≤ c) (hw : InB B (wPt w)) (hh : 0 ≤ w.2.2.1 ∧ w.2.2.1 < 4) (hs : 0 ≤ w.2.2.2 ∧ w.2.2.2 < n) : Fit c n B (colF F, w) := by
  have f := h.fl
  have at_ : ∀ p, colF F p = 0 ∨ (p.1, p.2, colF F p) ∈ F := fun p => by
    by_cases z : colF F p = 0
    · exact .inl z
    · exact .inr ((f.mem (p.1, p.2, colF F p)).mpr ⟨rfl, z⟩)
  refine ⟨fun p => ?_, fun p hp => ?_, hw, hh, hs⟩
  · show 0 ≤ colF F p ∧ colF F p < c
    rcases at_ p with z | z
    · rw [z]
      omega
    · have q := (h.sq _ z).2
      have q1 : 1 ≤ colF F p ∧ colF F p < c := q
      omega
  · rcases at_ p with z | z
    · exact absurd z hp
    · exact (h.sq _ z).1

/-! ### lists -/
theorem nodup_at {α : Type} {l : List α} (nd : l.Nodup) {i j : Nat} {a : α} (h1 : l[i]? = some a) (h2 : l[j]? = some a) : i = j := by
  obtain ⟨l1, q1⟩ := List.getElem?_eq_some_iff.mp h1
  obtain ⟨l2, q2⟩ := List.getElem?_eq_some_iff.mp h2
  have p := List.pairwise_iff_getElem.mp nd
  rcases Nat.lt_trichotomy i j with z | z | z
  · exact absurd (q1.trans q2.symm) (p i j l1 l2 z)
  · exact z
  · exact absurd (q2.trans q1.symm) (p j i l2 l1 z)
theorem TpAll.set {K : PySem.W.Frag} {H : Hp} : ∀ {vs : List V} {ds : List PyData} {k : Nat} {v : V} {d : PyData}, TpAll K H vs ds → Tp K H v d → TpAll K H (vs.set k v) (ds.set k d)
  | [], [], _, _, _, h, _ => .nil
  | [], _ :: _, _, _, _, h, _ => nomatch h
  | _ :: _, [], _, _, _, h, _ => nomatch h
  | u :: us, e :: es, 0, v, d, h, g => by
    cases h with
    | cons h1 h2 => exact .cons g h2
  | u :: us, e :: es, k + 1, v, d, h, g => by
    cases h with
    | cons h1 h2 => exact .cons h1 (TpAll.set h2 g)
theorem ixN_of {n k : Nat} (h : k < n) : ixN n (0 + ((k : Nat) : Int)) = some k := by
  unfold ixN
  rw [if_pos (by omega), if_pos (by omega)]
  congr 1
  omega
theorem le_only {a b : Int} (h : a ≤ b) : a ≤ b := h
theorem lt_only {a b : Int} (h : a < b) : a < b := h
theorem getD_at {T : List (List Ent)} {s : Nat} {r : List Ent} (h : T[s]? = some r) : T.getD s [] = r := by
  rw [List.getD_eq_getElem?_getD, h]
  rfl
theorem entAt_at {T : List (List Ent)} {s k : Nat} {r : List Ent} {e : Ent} (h : T[s]? = some r) (h2 : r[k]? = some e) : entAt T s k = e := by
  unfold entAt
  rw [Int.toNat_natCast, Int.toNat_natCast, h]
  show (r[k]?).getD none = e
  rw [h2]
  rfl

theorem nodup_sub {α : Type} [DecidableEq α] : ∀ {A B : List α}, A.Nodup → (∀ x ∈ A, x ∈ B) → A.length ≤ B.length
  | [], B, _, _ => Nat.zero_le _
  | a :: r, B, nd, h => by
    have nd := List.nodup_cons.mp nd
    have hb : a ∈ B := h a List.mem_cons_self
    have q := nodup_sub (A := r) (B := B.erase a) nd.2 fun x hx => (List.mem_erase_of_ne fun z => nd.1 (by rw [← z]; exact hx)).mpr (h x (List.mem_cons_of_mem _ hx))
    have l := List.length_erase_of_mem hb
    have p : 0 < B.length := List.length_pos_of_mem hb
    show r.length + 1 ≤ _
    omega

/-! ### two dictionaries by tuples, of ints, are equal -/
section
open PySem.SeqAt
variable {prog : Program} {w : World} {K : Type} [DecidableEq K] {knd : HeapKind prog w K} {A : Around} {E : Value → Shared → Prop} {s : Shared}
inductive HitsH (prog : Program) (w : World) (A : Around) (s : Shared) (kb : List (K × Addr × Value)) : List (K × Addr × Value) → Bool → Prop
  | nil : HitsH prog w A s kb [] true
  | miss {k : K} {a : Addr} {v : Value} {r : List (K × Addr × Value)} : (∀ (j : Nat) (p : Addr × Value), kb[j]? ≠ some (k, p)) → HitsH prog w A s kb ((k, a, v) :: r) false
  | hit {k : K} {a : Addr} {v : Value} {r : List (K × Addr × Value)} {e b : Bool} : (∀ (j : Nat) (p : Addr × Value), kb[j]? = some (k, p) → SeqAt.EqP prog w A s v p.2 e) → (∃ (j : Nat) (p : Addr × Value), kb[j]? = some (k, p)) → HitsH prog w A s kb r b → HitsH prog w A s kb ((k, a, v) :: r) (e && b)
theorem HitsH.inv {kb : List (K × Addr × Value)} {k : K} {a : Addr} {v : Value} {r : List (K × Addr × Value)} {b : Bool} (h : HitsH prog w A s kb ((k, a, v) :: r) b) :
    ((∀ (j : Nat) (p : Addr × Value), kb[j]? ≠ some (k, p)) ∧ b = false) ∨ ∃ e b', (∀ (j : Nat) (p : Addr × Value), kb[j]? = some (k, p) → SeqAt.EqP prog w A s v p.2 e) ∧ (∃ (j : Nat) (p : Addr × Value), kb[j]? = some (k, p)) ∧ HitsH prog w A s kb r b' ∧ b = (e && b') := by
  cases h with
  | miss hn => exact .inl ⟨hn, rfl⟩
  | hit hy he hr => exact .inr ⟨_, _, hy, he, hr, rfl⟩
theorem samePairsH {nm : String} {a b : Addr} {ka kb : List (K × Addr × Value)} {r : Bool} {Q : Bool → Shared → Prop} (ha : (a == sysModules) = false) (hb : (b == sysModules) = false)
    (da : s.heap.DictOfH knd a ka) (db : s.heap.DictOfH knd b kb) (hu : knd.room A) (hits : ka.length = kb.length → HitsH prog w A s kb ka r) (h : Q (ka.length == kb.length && r) s) :
    wpAny (model prog w) A (Builtin.Dict.samePairs nm a b) Q E s := by
  obtain ⟨oa, es, ep, hoa, _, hda, hea, hka, hna⟩ := da
  obtain ⟨ob, es', ep', hob, _, hdb, heb, hkb, hnb⟩ := db
  have hla : ka.length = es.size := (size_of_entries hea).symm
  have hlb : kb.length = es'.size := (size_of_entries heb).symm
  rw [hla, hlb] at h
  unfold Builtin.Dict.samePairs Builtin.Dict.showsAll
  rw [if_neg (show ¬ (a == sysModules) = true by rw [ha]; exact Bool.false_ne_true), if_neg (show ¬ (b == sysModules) = true by rw [hb]; exact Bool.false_ne_true)]
  refine wpAny_bind (wpAny_pure (wpAny_bind (wpAny_pure ?_)))
  refine wpAny_bind (wpAny_dictEntries hoa hda ?_)
  dsimp only
  refine wpAny_bind (wpAny_dictEntries hob hdb ?_)
  by_cases hsz : es.size = es'.size
  case neg =>
    rw [if_pos (by simpa using hsz)]
    have hbf : (es.size == es'.size) = false := by simpa using hsz
    rw [hbf, Bool.false_and] at h
    exact wpAny_bind (wpAny_rule (wpAny_pure h))
  case pos =>
    have h' : Q r s := by simpa [hsz] using h
    have hits' := hits (by rw [hla, hlb]; exact hsz)
    rw [if_neg (by rw [hsz]; simp)]
    refine wpAny_bind (wpAny_dictEpoch hoa hda ?_)
    refine wpAny_bind ?_
    rw [Std.Legacy.Range.forIn_eq_forIn_range']
    simp only [Std.Legacy.Range.size, Nat.sub_zero, Nat.add_sub_cancel, Nat.div_one]
    refine wpAny_forIn_list _
      (fun rest q s' => s' = s ∧ q = (none, ()) ∧ ∃ i, rest = List.range' i (es.size - i) ∧ i ≤ es.size ∧ HitsH prog w A s kb (ka.drop i) r)
      _ ?_ ?_ _ _ ⟨rfl, rfl, 0, by simp, Nat.zero_le _, hits'⟩
    · rintro x rest q s' ⟨rfl, rfl, i, hr, hi, hpre⟩
      have hlt : i < es.size := by
        rcases Nat.lt_or_ge i es.size with h | h
        · exact h
        · rw [Nat.sub_eq_zero_of_le h] at hr; simp at hr
      obtain ⟨rfl, hrest⟩ : x = i ∧ rest = List.range' (i + 1) (es.size - (i + 1)) := by
        have e : es.size - i = (es.size - (i + 1)) + 1 := by omega
        rw [e, List.range'_succ] at hr
        injection hr with h1 h2
        exact ⟨h1, h2⟩
      refine wpAny_bind (wpAny_dictEntries hoa hda ?_)
      have hlt' : x < ka.length := by rw [hla]; exact hlt
      obtain ⟨⟨k, ad, v⟩, hkv⟩ : ∃ y, ka[x] = y := ⟨_, rfl⟩
      have hkv' : ka[x]? = some (k, ad, v) := by rw [List.getElem?_eq_getElem hlt', hkv]
      have hdrop : ka.drop x = (k, ad, v) :: ka.drop (x + 1) := by rw [← hkv]; exact List.drop_eq_getElem_cons hlt'
      have hex : es[x]? = some ⟨knd.hash k, .ref ad, v⟩ := by rw [entry_at hea x, hkv']; rfl
      rw [hex]
      have hkey : knd.is s'.heap k ad := hka _ (List.mem_of_getElem? hkv')
      rw [hdrop] at hpre
      refine wpAny_bind (wpAny_holding (wpAny_bind (wpAny_dictFind_heap hu hkey hob hdb heb hkb hnb (fun hno => ?_) (fun j p hj => ?_))))
      · rcases hpre.inv with ⟨_, er⟩ | ⟨_, _, _, ⟨j, p, hj⟩, _⟩
        · rw [er] at h'
          refine wpAny_pure ?_
          show wpAny _ _ (if (!false) = true then _ else _) _ _ _
          rw [if_pos (by decide)]
          exact wpAny_pure (wpAny_pure h')
        · exact absurd hj (hno j p)
      · have hex2 : es'[j]? = some ⟨knd.hash k, .ref p.1, p.2⟩ := by rw [entry_at heb j, hj]; rfl
        refine wpAny_bind (wpAny_dictEntries hob hdb ?_)
        rw [hex2]
        rcases hpre.inv with ⟨hn, _⟩ | ⟨e, b', he, _, hrr, er⟩
        · exact absurd hj (hn j p)
        · refine wpAny_holding (he j p hj _ _ ?_)
          cases e with
          | false =>
            rw [er, Bool.false_and] at h'
            show wpAny _ _ (if (!false) = true then _ else _) _ _ _
            rw [if_pos (by decide)]
            exact wpAny_pure (wpAny_pure h')
          | true =>
            rw [Bool.true_and] at er
            rw [← er] at hrr
            show wpAny _ _ (if (!true) = true then _ else _) _ _ _
            rw [if_neg (by decide)]
            refine wpAny_bind (wpAny_dictEpoch hoa hda ?_)
            rw [if_neg (by simp)]
            exact wpAny_pure ⟨rfl, rfl, x + 1, hrest, hlt, hrr⟩
    · rintro q s' ⟨rfl, rfl, i, hr, hi, hpre⟩
      have hin : i = es.size := by
        rcases Nat.lt_or_ge i es.size with h | h
        · have e : es.size - i = (es.size - (i + 1)) + 1 := by omega
          rw [e, List.range'_succ] at hr; exact nomatch hr
        · exact Nat.le_antisymm hi h
      refine wpAny_pure ?_
      rw [hin, ← hla, List.drop_length] at hpre
      cases hpre
      exact h'
theorem rcP_dictsH {a b : Addr} {ka kb : List (K × Addr × Value)} {r : Bool} (ha : (a == sysModules) = false) (hb : (b == sysModules) = false)
    (da : s.heap.DictOfH knd a ka) (db : s.heap.DictOfH knd b kb) (hu : A.units < cLine) (hu1 : knd.room A.in1) (hits : ka.length = kb.length → HitsH prog w A.in1 s kb ka r) (E Q : Value → Shared → Prop) (h : Q (.bool (ka.length == kb.length && r)) s) : wpAny (model prog w) A (richCompare .Eq (.ref a) (.ref b)) Q E s := by
  refine wpAny_richCompare_same_room (op := .Eq) da.typeIs db.typeIs PySem.F.slot_dict_eq (wpAny_call_entry PySem.F.slot_dict_eq da.typeIs PySem.F.entry_dict_eq ?_ (PySem.F.args_dict_eq_2 _ _)) hu
  show wpAny _ _ (Builtin.Dict.dictSlotArgs "__eq__" ⟨[.ref a, .ref b], []⟩ >>= _) _ _ s
  refine wpAny_bind ?_
  unfold Builtin.Dict.dictSlotArgs
  refine wpAny_bind (wpAny_notOrdered_dict da.typeIs ?_)
  show wpAny _ _ (pure (Value.ref a, Value.ref b)) _ _ s
  refine wpAny_pure ?_
  refine wpAny_bind (wpAny_isInstance (T := "dict") db.typeIs PySem.F.sub_dict_dict ?_)
  simp only [Bool.not_true, Bool.false_eq_true, if_false]
  refine wpAny_bind (wpAny_pure (wpAny_bind (wpAny_pure ?_)))
  refine wpAny_bind (samePairsH ha hb da db hu1 hits ?_)
  refine wpAny_pure ⟨_, rfl, ?_, ?_⟩
  · exact fun x => nomatch x
  · simpa using h
end
theorem atKey_at {xs : List (List Key × Addr × Value)} {k : List Key} : (∀ (j : Nat) (p : Addr × Value), xs[j]? ≠ some (k, p)) ∨ ∃ p, atKey xs k = some p ∧ ∃ j : Nat, xs[j]? = some (k, p) := by
  cases e : xs.find? (fun x => decide (x.1 = k)) with
  | none =>
    refine .inl fun j p h => ?_
    have z := List.find?_eq_none.mp e _ (List.mem_of_getElem? h)
    exact z (decide_eq_true rfl)
  | some x =>
    have h1 : x.1 = k := by
      have z := List.find?_some e
      exact of_decide_eq_true z
    have h2 := List.mem_of_find?_eq_some e
    obtain ⟨j, hj⟩ := List.getElem?_of_mem h2
    refine .inr ⟨x.2, ?_, j, ?_⟩
    · unfold atKey
      rw [e]
      rfl
    · rw [hj, ← h1]
/-- the rows of the first, looked for in the second -/
theorem hitsH_run {P : Program} {w : World} {A : Around} {s : Shared} {H : Hp} {ls : List (List Key × V)} {vb : List (List Key × Addr × Value)} (rb : KT H ls vb) (nb : (vb.map (·.1)).Nodup) (ib : ∀ p ∈ ls, ∃ i, p.2 = V.int i) :
    ∀ {ks : List (List Key × V)} {va : List (List Key × Addr × Value)}, KT H ks va → (∀ p ∈ ks, ∃ i, p.2 = V.int i) → ∃ r, HitsH P w A s vb va r ∧ (r = true ↔ ∀ p ∈ ks, valV ls p.1 = some p.2) := by
  intro ks va ra
  unfold KT at ra
  induction ra with
  | nil => exact fun _ => ⟨true, .nil, ⟨fun _ p hp => (nomatch hp), fun _ => rfl⟩⟩
  | @cons p q ps qs h t ih =>
    intro hi
    obtain ⟨h1, h0, h2⟩ := h
    obtain ⟨k, v⟩ := p
    obtain ⟨k', ad, u⟩ := q
    obtain rfl : k = k' := h1
    obtain ⟨i, rfl⟩ : ∃ i, v = V.int i := hi _ List.mem_cons_self
    obtain ⟨tk, rfl⟩ : ∃ t, u = .int i t := h2
    obtain ⟨r, hr, er⟩ := ih fun p hp => hi p (List.mem_cons_of_mem _ hp)
    rcases atKey_at (xs := vb) (k := k) with no | ⟨p, ep, j, hj⟩
    · refine ⟨false, .miss no, (⟨(fun z => absurd z Bool.false_ne_true), (fun z => ?_)⟩ : _ ↔ _)⟩
      have z := z _ List.mem_cons_self
      have c := rb.val k
      rw [show valV ls k = some (V.int i) from z] at c
      obtain ⟨y, hy, _⟩ := c.some_of
      cases e : atKey vb k with
      | none =>
        rw [e] at hy
        cases hy
      | some p =>
        rcases atKey_at (xs := vb) (k := k) with no2 | ⟨p2, _, j2, hj2⟩
        · unfold atKey at e
          cases e2 : vb.find? (fun x => decide (x.1 = k)) with
          | none =>
            rw [e2] at e
            cases e
          | some x =>
            obtain ⟨j3, hj3⟩ := List.getElem?_of_mem (List.mem_of_find?_eq_some e2)
            have h5 : x.1 = k := by
              have z := List.find?_some e2
              exact of_decide_eq_true z
            exact absurd (by rw [hj3, ← h5]) (no j3 x.2)
        · exact absurd hj2 (no j2 p2)
    · have c := rb.val k
      rw [ep] at c
      cases ev : valV ls k with
      | none =>
        rw [ev] at c
        exact False.elim c
      | some y =>
        rw [ev] at c
        obtain ⟨m, rfl⟩ : ∃ m, y = V.int m := by
          obtain ⟨j4, h4⟩ : ∃ q ∈ ls, q.2 = y := by
            have z := ev
            unfold valV at z
            cases e2 : ls.find? (fun kv => decide (kv.1 = k)) with
            | none =>
              rw [e2] at z
              cases z
            | some q =>
              rw [e2] at z
              exact ⟨q, List.mem_of_find?_eq_some e2, Option.some.inj z⟩
          obtain ⟨m, hm⟩ := ib j4 h4.1
          exact ⟨m, by rw [← h4.2, hm]⟩
        obtain ⟨tm, em⟩ : ∃ t, p.2 = .int m t := c
        have eqp : SeqAt.EqP P w A s (.int i tk) p.2 (PyData.eqv (.int i) (.int m)) := by
          rw [em]
          exact (PySem.W.keq_flat (fun _ => .int _ _) (fun _ => .int _ _)).eqP
        have uniq : ∀ (j' : Nat) (p' : Addr × Value), vb[j']? = some (k, p') → p' = p := fun j' p' hj' => by
          have q1 : (vb.map (·.1))[j]? = some k := by rw [List.getElem?_map, hj]; rfl
          have q2 : (vb.map (·.1))[j']? = some k := by rw [List.getElem?_map, hj']; rfl
          have ee := nodup_at nb q1 q2
          rw [← ee, hj] at hj'
          exact (Prod.mk.inj (Option.some.inj hj')).2.symm
        refine ⟨_, .hit (e := PyData.eqv (.int i) (.int m)) (fun j' p' hj' => by rw [uniq j' p' hj']; exact eqp) ⟨j, p, hj⟩ hr, ?_⟩
        have e1 : PyData.eqv (.int i) (.int m) = decide (i = m) := by
          rw [show PyData.eqv (.int i) (.int m) = (i == m) from by simp [PyData.eqv]]
          exact Bool.eq_iff_iff.mpr (by simp)
        rw [Bool.and_eq_true, er, e1, decide_eq_true_eq]
        constructor
        · rintro ⟨rfl, z⟩ p hp
          rcases List.mem_cons.mp hp with rfl | hp
          · exact ev
          · exact z p hp
        · intro z
          have z0 := z _ List.mem_cons_self
          rw [show valV ls k = some (V.int m) from ev] at z0
          cases z0
          exact ⟨rfl, fun p hp => z p (List.mem_cons_of_mem _ hp)⟩
/-- d == e, two dictionaries by tuples -/
def rEqT : R2 := fun x y H Q => ∃ a b ka kb, x = .ref a ∧ y = .ref b ∧ H a = some (.dT ka) ∧ H b = some (.dT kb) ∧ (∀ p ∈ ka, ∃ i, p.2 = V.int i) ∧ (∀ p ∈ kb, ∃ i, p.2 = V.int i) ∧ ∀ r : Bool, (r = true ↔ ka.length = kb.length ∧ ∀ p ∈ ka, valV kb p.1 = some p.2) → Q (.bl r) H
theorem op_eqT {X : Cx} (hu : X.A.units + 64 < cLine) : OpR X (compareOp .Eq) rEqT := by
  intro pins s σ H x y v u Q I rx ry h
  obtain ⟨a, b, ka, kb, rfl, rfl, ha, hb, ia, ib, q⟩ := h
  cases (show v = Value.ref a from rx)
  cases (show u = Value.ref b from ry)
  obtain ⟨_, ya, va, ra, da⟩ := dt_of I.hok ha
  obtain ⟨_, yb, vb, rb, db⟩ := dt_of I.hok hb
  have nb : (vb.map (·.1)).Nodup := by
    obtain ⟨_, _, _, _, _, _, _, _, n⟩ := db
    exact n
  obtain ⟨r, hr, er⟩ := hitsH_run (P := X.prog) (w := X.w) (A := X.A.in1) (s := s) rb nb ib ra ia
  refine rcP_dictsH (r := r) ya yb da db (by omega) (by show X.A.units + 1 < cLine; omega) (fun _ => hr) _ _ ⟨.bl _, H, I, rfl, q _ ?_⟩
  rw [Bool.and_eq_true, er, beq_iff_eq, ← ra.length, ← rb.length]

-- imports KE.DataEq
/-! ### data of tuples and ints is equal to itself -/
def flatT : Nat → PyData → Prop
  | n + 1, .tuple ds => ∀ d ∈ ds, flatT n d
  | _ + 1, .int _ => True
  | _, _ => False
theorem layAll : ∀ {ds : List PyData}, (∀ d ∈ ds, d.canLay0 = true) → PyData.canLayAll0 ds = true
  | [], _ => by simp only [PyData.canLayAll0]
  | d :: ds, h => by
    simp only [PyData.canLayAll0, h d List.mem_cons_self, layAll fun y hy => h y (List.mem_cons_of_mem _ hy), Bool.and_self]
theorem depAll {n : Nat} : ∀ {ds : List PyData}, (∀ d ∈ ds, d.depth ≤ n) → PyData.depthAll ds ≤ n
  | [], _ => by simp [PyData.depthAll]
  | d :: ds, h => by
    have h1 := h d List.mem_cons_self
    have h2 := depAll fun y hy => h y (List.mem_cons_of_mem _ hy)
    simp only [PyData.depthAll]
    omega
theorem flatT.lay : ∀ {n : Nat} {d : PyData}, flatT n d → d.canLay0 = true ∧ d.depth ≤ n
  | 0, _, h => absurd h (by unfold flatT; simp)
  | n + 1, .tuple ds, h => by
    have h : ∀ d ∈ ds, flatT n d := h
    refine ⟨?_, ?_⟩
    · simp only [PyData.canLay0]
      exact layAll fun d hd => (flatT.lay (h d hd)).1
    · have := depAll fun d hd => (flatT.lay (h d hd)).2
      simp only [PyData.depth]
      omega
  | n + 1, .int _, _ => by simp [PyData.canLay0, PyData.depth]
  | _ + 1, .none, h => nomatch h
  | _ + 1, .bool _, h => nomatch h
  | _ + 1, .str _, h => nomatch h
  | _ + 1, .list _, h => nomatch h
  | _ + 1, .dict _, h => nomatch h
theorem flatT.shp {n : Nat} {d : PyData} (h : flatT n d) (l : n ≤ 64) : SeqAt.shaped d = true ∧ PyData.eqv d d = true := by
  obtain ⟨h1, h2⟩ := h.lay
  refine ⟨?_, SeqAt.eqv_refl_plain d (PyData.plain_of_canLay0 d h1)⟩
  unfold SeqAt.shaped
  rw [h1, decide_eq_true (Nat.le_trans h2 l)]
  rfl

/-! ### is it a table? -/
def entB (c n : Int) : Ent → Bool
  | none => true
  | some e => (decide (0 ≤ e.1) && decide (e.1 ≤ c - 1)) && ((decide (0 ≤ e.2.1) && decide (e.2.1 ≤ 3)) && (decide (0 ≤ e.2.2) && decide (e.2.2 ≤ n - 1)))
def tabB : List (List Ent) → Bool
  | [] => false
  | r0 :: rs => decide ((r0 :: rs).length ≤ 10) && (((r0 :: rs).all fun r => decide (r.length = r0.length) && r.all (entB r.length (r0 :: rs).length)) && (decide (2 ≤ r0.length) && decide (r0.length ≤ 6)))
def spWhole : Sp := fun vs H Q _ => ∃ v lo hi : Int, vs = [.int v, .int lo, .int hi] ∧ Q (.bl (decide (lo ≤ v) && decide (v ≤ hi))) H
def spEntry (K : PySem.W.Frag) : Sp := fun vs H Q _ => ∃ (v : V) (c n : Int) (e : Ent), vs = [v, .int c, .int n] ∧ Tp K H v (entD e) ∧ Q (.bl (entB c n e)) H
def spIsTable (K : PySem.W.Frag) : Sp := fun vs H Q _ => ∃ (v : V) (T : List (List Ent)), vs = [v] ∧ Tp K H v (tabD T) ∧ T.length ≤ 1000 ∧ (∀ r ∈ T, r.length ≤ 1000) ∧ ∀ H', Same H H' → Q (.bl (tabB T)) H'
section
variable {P : Program} {w : World} {K : PySem.W.Frag} {mg : Str → Option Value} {base : Heap}
theorem ok_is_whole (T : Txt K mg) (D : DefAt K mg "is_whole" s_is_whole ["value", "least", "greatest"]) : Cal P w K mg base CX0 "is_whole" 1 ["value", "least", "greatest"] spWhole := by
  refine D.cal sc_is_whole (fun vs H Q E h => ?_) (fun f cdv A outer s H vs Q E hr h => ?_)
  · obtain ⟨v, lo, hi, rfl, _⟩ := h
    rfl
  · obtain ⟨v, lo, hi, rfl, q⟩ := h
    refine ⟨_, (pss_cons (ps_if (PW.pt (pw_or (pt_not (pt_val (pe_callB (k_isN (K := K)) (by rfl) T.m_isinstance (by decide +kernel) (pa_cons (pv 0) (pa_cons (pe_ty "int" (by rfl) T.m_int (by decide +kernel)) pa_nil))))) (pw_or1 (pt_val (pe_callB (k_isN (K := K)) (by rfl) T.m_isinstance (by decide +kernel) (pa_cons (pv 0) (pa_cons (pe_ty "bool" (by rfl) T.m_bool (by decide +kernel)) pa_nil))))))) (pss_one (ps_ret pe_bl)) pss_nil)
      (pss_one (ps_ret (pe_chain op_le op_le (pv 1) (pv 0) (pv 2))))), ?_⟩
    walk_at "st"
    refine ite2 (fun e => ?_) (fun e => ?_)
    · walk_at "st"
      rw [e, Bool.true_and] at q
      exact q
    · rw [Bool.eq_false_iff.mpr e, Bool.false_and] at q
      exact q
theorem ok_u_is_entry (T : Txt K mg) (D : DefAt K mg "_is_entry" s_u_is_entry ["value", "colours", "states"]) (C_is_whole : Cal P w K mg base CX0 "is_whole" 1 ["value", "least", "greatest"] spWhole) : Cal P w K mg base CX0 "_is_entry" 2 ["value", "colours", "states"] (spEntry K) := by
  refine D.cal sc_u_is_entry (fun vs H Q E h => ?_) (fun f cdv A outer s H vs Q E hr h => ?_)
  · obtain ⟨v, c, n, e, rfl, _⟩ := h
    rfl
  · obtain ⟨v, c, n, e, rfl, hv, q⟩ := h
    refine ⟨_, (pss_cons (ps_if (pt_cmpR op_isN (pv 0) pe_non (nomark _)) (pss_one (ps_ret pe_bl)) pss_nil)
      (pss_cons (ps_if (PW.pt (pw_or (pt_not (pt_val (pe_callB (k_isN (K := K)) (by rfl) T.m_isinstance (by decide +kernel) (pa_cons (pv 0) (pa_cons (pe_ty "tuple" (by rfl) T.m_tuple (by decide +kernel)) pa_nil))))) (pw_or1 (pt_cmpR op_ne (pe_callB (k_len_t (K := K)) (by rfl) T.m_len (by decide +kernel) (pa_cons (pv 0) pa_nil)) pe_int (nomark _))))) (pss_one (ps_ret pe_bl)) pss_nil)
      (pss_cons (ps_asg (pv 0) (pg_tup (by rfl) (pgs_cons (pg_name (i := 3) sc_u_is_entry.nd rfl (Or.inl rfl)) (pgs_cons (pg_name (i := 4) sc_u_is_entry.nd rfl (Or.inl rfl)) (pgs_cons (pg_name (i := 5) sc_u_is_entry.nd rfl (Or.inl rfl)) pgs_nil)))))
      (pss_one (ps_ret (pe_and (pe_own C_is_whole hr (by first | decide | omega) (pa_cons (pv 3) (pa_cons pe_int (pa_cons (pe_op op_sub (pv 1) pe_int) pa_nil)))) (pe_and (pe_own C_is_whole hr (by first | decide | omega) (pa_cons (pv 4) (pa_cons pe_int (pa_cons pe_int pa_nil)))) (pe_one (pe_own C_is_whole hr (by first | decide | omega) (pa_cons (pv 5) (pa_cons pe_int (pa_cons (pe_op op_sub (pv 2) pe_int) pa_nil)))))))))))), ?_⟩
    cases e with
    | none =>
      obtain rfl := hv.nonI
      walk_at "st"
      exact q
    | some e =>
      obtain ⟨a, rfl, hs⟩ := hv.int3
      walk_at "st"
      have q : Q (.bl ((decide (0 ≤ e.1) && decide (e.1 ≤ c - 1)) && ((decide (0 ≤ e.2.1) && decide (e.2.1 ≤ 3)) && (decide (0 ≤ e.2.2) && decide (e.2.2 ≤ n - 1))))) H := q
      refine ite2 (fun e1 => ?_) (fun e1 => ?_)
      · walk_at "st"
        rw [e1, Bool.true_and] at q
        refine ite2 (fun e2 => ?_) (fun e2 => ?_)
        · walk_at "st"
          rw [e2, Bool.true_and] at q
          exact q
        · rw [Bool.eq_false_iff.mpr e2, Bool.false_and] at q
          exact q
      · rw [Bool.eq_false_iff.mpr e1, Bool.false_and] at q
        exact q
theorem ok_is_table (T : Txt K mg) (D : DefAt K mg "is_table" s_is_table ["value"]) (C_is_entry : Cal P w K mg base CX0 "_is_entry" 2 ["value", "colours", "states"] (spEntry K)) : Cal P w K mg base CX0 "is_table" 3 ["value"] (spIsTable K) := by
  refine D.cal sc_is_table (fun vs H Q E h => ?_) (fun f cdv A outer s H vs Q E hr h => ?_)
  · obtain ⟨v, T, rfl, _⟩ := h
    rfl
  · obtain ⟨v, Tb, rfl, hv, hl, hr1, q⟩ := h
    refine ⟨_, (pss_cons (ps_if (PW.pt (pw_or (pt_not (pt_val (pe_callB (k_isN (K := K)) (by rfl) T.m_isinstance (by decide +kernel) (pa_cons (pv 0) (pa_cons (pe_ty "tuple" (by rfl) T.m_tuple (by decide +kernel)) pa_nil))))) (pw_or1 (pt_not (pt_chain op_le op_le pe_int (pe_callB (k_len_t (K := K)) (by rfl) T.m_len (by decide +kernel) (pa_cons (pv 0) pa_nil)) (pe_gint (by rfl) T.most_states)))))) (pss_one (ps_ret pe_bl)) pss_nil)
      (pss_cons (ps_for PassesOwn.never rfl (k_pi_tup (K := K) (pv 0)) (pg_name (i := 1) sc_is_table.nd rfl (Or.inr rfl))
      (pss_cons (ps_if (PW.pt (pw_or (pt_not (pt_val (pe_callB (k_isN (K := K)) (by rfl) T.m_isinstance (by decide +kernel) (pa_cons (pv 1) (pa_cons (pe_ty "tuple" (by rfl) T.m_tuple (by decide +kernel)) pa_nil))))) (pw_or1 (pt_cmpR op_ne (pe_callB (k_len_t (K := K)) (by rfl) T.m_len (by decide +kernel) (pa_cons (pv 1) pa_nil)) (pe_callB (k_len_t (K := K)) (by rfl) T.m_len (by decide +kernel) (pa_cons (pe_ix (k_ix_tup (K := K)) (pv 0) pe_int (fun _ _ => rfl)) pa_nil)) (nomark _))))) (pss_one (ps_ret pe_bl)) pss_nil)
      (pss_one (ps_if (pt_not (pt_val (pe_callB (k_all (K := K) rfl) (by rfl) T.m_all (by decide +kernel) (pa_cons (pe_lc (own := [("entry", 2)]) (g := gName 2) rfl sc_is_table.nd (k_pi_tup (K := K) (pv 1)) (blkOk_by (by rfl)) (fun _ _ _ _ _ => (pg_name (i := 2) sc_is_table.nd rfl (Or.inl rfl))) (fun _ _ _ _ _ => pts_nil) (fun _ _ _ _ _ => (pe_own C_is_entry hr (by first | decide | omega) (pa_cons (pv 2) (pa_cons (pe_callB (k_len_t (K := K)) (by rfl) T.m_len (by decide +kernel) (pa_cons (pv 1) pa_nil)) (pa_cons (pe_callB (k_len_t (K := K)) (by rfl) T.m_len (by decide +kernel) (pa_cons (pv 0) pa_nil)) pa_nil)))))) pa_nil)))) (pss_one (ps_ret pe_bl)) pss_nil))))
      (pss_one (ps_ret (pe_chain op_le op_le (pe_gint (by rfl) T.fewest_colours) (pe_callB (k_len_t (K := K)) (by rfl) T.m_len (by decide +kernel) (pa_cons (pe_ix (k_ix_tup (K := K)) (pv 0) pe_int (fun _ _ => rfl)) pa_nil)) (pe_gint (by rfl) T.most_colours)))))), ?_⟩
    obtain ⟨a, vs, rfl, hs, hvs⟩ := hv.tupI
    have hlen : vs.length = Tb.length := by rw [TpAll.length hvs, List.length_map]
    cases Tb with
    | nil =>
      obtain rfl := hvs.nilI
      walk_at "st"
      exact q H (Same.refl H)
    | cons r0 rs =>
      obtain ⟨v0, vr, rfl, h0, hvr⟩ := hvs.consI
      obtain ⟨a0, w0, rfl, hs0, hw0⟩ := h0.tupI
      have hl0 : w0.length = r0.length := by rw [TpAll.length hw0, List.length_map]
      have q : ∀ H', Same H H' → Q (.bl (decide ((r0 :: rs).length ≤ 10) && (((r0 :: rs).all fun r => decide (r.length = r0.length) && r.all (entB r.length (r0 :: rs).length)) && (decide (2 ≤ r0.length) && decide (r0.length ≤ 6))))) H' := q
      have hT : TpAll K H (V.ref a0 :: vr) ((r0 :: rs).map rowD) := hvs
      generalize hTb : (r0 :: rs) = Tb at *
      generalize hVs : (V.ref a0 :: vr) = vs at *
      have hat : atI vs (0 : Int) = some (.ref a0) := by rw [← hVs]; exact at0
      have hpos : 0 < vs.length := by rw [← hVs]; exact Nat.succ_pos _
      walk_at "st"
      refine ite2 (fun e1 => ?_) (fun e1 => ?_)
      · walk_at "st"
        refine ite2 (fun e2 => ?_) (fun e2 => ?_)
        · have e2 : ¬ ((vs.length : Int) ≤ 10) := nd_tr e2
          walk_at "st"
          rw [decide_eq_false (by omega), Bool.false_and] at q
          exact q H (Same.refl H)
        · have e2 : (vs.length : Int) ≤ 10 := nd_fl e2
          rw [decide_eq_true (by omega), Bool.true_and] at q
          walk_at "st"
          refine for_tup (K := K) (a := a) (xs := vs) (fun i σ H' => Ok (∃ y1 y2, σ = [some (.ref a), y1, y2] ∧ Same H H' ∧ ∀ r ∈ Tb.take i, (decide (r.length = r0.length) && r.all (entB r.length Tb.length)) = true))
            ⟨_, _, rfl, Same.refl H, fun r h => absurd h List.not_mem_nil⟩ (fun i σ H' _ ⟨y1, y2, _, sm, _⟩ => TK.seqT (Same.tk sm) hs) ?_ ?_
          · rintro i x σ H' hx ⟨y1, y2, rfl, sm, hall⟩
            have hi : i < Tb.length := by
              have z : i < vs.length := (List.getElem?_eq_some_iff.mp hx).1
              omega
            have hxr : Tp K H x (rowD Tb[i]) := by
              obtain ⟨z, e, hz⟩ := hT.get (i := i) (d := rowD Tb[i]) (by rw [List.getElem?_map, List.getElem?_eq_getElem hi]; rfl)
              rw [hx] at e
              cases e
              exact hz
            have hmem : Tb[i] ∈ Tb := List.getElem_mem hi
            have htk := take_more (List.getElem?_eq_getElem hi)
            generalize hrw : Tb[i] = rw at *
            obtain ⟨b, ws, rfl, hsb, hws⟩ := hxr.tupI
            have hlw : ws.length = rw.length := by rw [TpAll.length hws, List.length_map]
            have hs' := TK.seqT (Same.tk sm) hs
            have hs0' := TK.seqT (Same.tk sm) hs0
            have hsb' := TK.seqT (Same.tk sm) hsb
            have bad : (decide (rw.length = r0.length) && rw.all (entB rw.length Tb.length)) = false → Q (.bl false) H' := fun z => by
              have z2 : (Tb.all fun r => decide (r.length = r0.length) && r.all (entB r.length Tb.length)) = false := List.all_eq_false.mpr ⟨rw, hmem, by rw [z]; exact Bool.false_ne_true⟩
              have q' := q H' sm
              rw [z2, Bool.false_and] at q'
              exact q'
            have badS : (decide (rw.length = r0.length) && rw.all (entB rw.length Tb.length)) = false → ∀ H2, Same H' H2 → Q (.bl false) H2 := fun z H2 s2 => by
              have z2 : (Tb.all fun r => decide (r.length = r0.length) && r.all (entB r.length Tb.length)) = false := List.all_eq_false.mpr ⟨rw, hmem, by rw [z]; exact Bool.false_ne_true⟩
              have q' := q H2 (Same.trans sm s2)
              rw [z2, Bool.false_and] at q'
              exact q'
            walk_at "st"
            refine ite2 (fun e3 => ?_) (fun e3 => ?_)
            · have e3 := ne_tr e3
              walk_at "st"
              exact bad (by rw [decide_eq_false (by omega), Bool.false_and])
            · have e3 := ne_fl e3
              walk_at "st"
              intro L nL
              refine lc_tup (K := K) (a := b) (xs := ws) (fun j H2 => Ok (Same H' H2 ∧ H2 L = some (.lst (((rw.take j).map (entB rw.length Tb.length)).map V.bl)))) ⟨Same.new nL, upd_same⟩ (fun j H2 _ ⟨s2, _⟩ => TK.seqT (Same.tk s2) hsb') ?_ ?_
              · rintro j y H2 hy ⟨s2, hL⟩
                have hj : j < rw.length := by
                  have z : j < ws.length := (List.getElem?_eq_some_iff.mp hy).1
                  omega
                have hye : Tp K H y (entD rw[j]) := by
                  obtain ⟨z, e, hz⟩ := hws.get (i := j) (d := entD rw[j]) (by rw [List.getElem?_map, List.getElem?_eq_getElem hj]; rfl)
                  rw [hy] at e
                  cases e
                  exact hz
                have hye2 : Tp K H2 y (entD rw[j]) := Tp.mono (Same.tk (Same.trans sm s2)) _ _ hye
                have hs2 := TK.seqT (Same.tk s2) hs'
                have hsb2 := TK.seqT (Same.tk s2) hsb'
                have hsz : (((rw.take j).map (entB rw.length Tb.length)).map V.bl).length < sizeLine := by
                  rw [List.length_map, List.length_map, List.length_take]
                  have := hr1 rw hmem
                  exact small1000 (by omega)
                walk_at "st"
                refine ⟨Same.fresh s2 nL, ?_⟩
                rw [upd_same, take_more (List.getElem?_eq_getElem hj), List.map_append, List.map_append, hlw, hlen]
                rfl
              · rintro H2 ⟨s2, hL⟩
                rw [hlw, List.take_length] at hL
                walk_at "st"
                rw [List.all_map, show (id ∘ entB rw.length Tb.length) = entB rw.length Tb.length from rfl]
                refine ite2 (fun e4 => ?_) (fun e4 => ?_)
                · have e4 := nb_tr e4
                  walk_at "st"
                  exact badS (by rw [e4, Bool.and_false]) H2 s2
                · have e4 := nb_fl e4
                  refine ⟨_, _, rfl, Same.trans sm s2, fun r hr => ?_⟩
                  rw [htk] at hr
                  rcases List.mem_append.mp hr with h | h
                  · exact hall r h
                  · rw [List.mem_singleton.mp h, e4, decide_eq_true (by omega)]
                    rfl
          · rintro σ H' ⟨y1, y2, rfl, sm, hall⟩
            rw [hlen, List.take_length] at hall
            have hs' := TK.seqT (Same.tk sm) hs
            have hs0' := TK.seqT (Same.tk sm) hs0
            have q := q H' sm
            rw [List.all_eq_true.mpr hall, Bool.true_and] at q
            walk_at "st"
            refine ite2 (fun e3 => ?_) (fun e3 => ?_)
            · have e3 : (2 : Int) ≤ w0.length := of_decide_eq_true e3
              rw [decide_eq_true (by omega), Bool.true_and] at q
              walk_at "st"
              rw [show decide (r0.length ≤ 6) = decide ((w0.length : Int) ≤ 6) from decide_eq_decide.mpr (by omega)] at q
              exact q
            · have e3 : ¬ (2 : Int) ≤ w0.length := d_fl e3
              rw [decide_eq_false (by omega), Bool.false_and] at q
              exact q
      · exact absurd (decide_eq_true (show (1 : Int) ≤ vs.length by omega)) e1
end

/-! ### tables that are right -/
structure TabGood (T : List (List Ent)) : Prop where
  len : T.length ≤ 10
  rows : ∀ r ∈ T, r.length ≤ 6
  ents : ∀ r ∈ T, ∀ e ∈ r, EntOk 10 10 e
  ne : T ≠ []
  rne : ∀ r ∈ T, r ≠ []
theorem entB_ok {c n : Int} {e : Ent} (h : entB c n e = true) : EntOk c n e := by
  cases e with
  | none => trivial
  | some e =>
    simp only [entB, Bool.and_eq_true, decide_eq_true_eq] at h
    obtain ⟨⟨a, b⟩, ⟨c, d⟩, e, f⟩ := h
    exact ⟨⟨a, by omega⟩, ⟨c, by omega⟩, ⟨e, by omega⟩⟩
theorem EntOk.mono {c n c' n' : Int} {e : Ent} (h : EntOk c n e) (hc : c ≤ c') (hn : n ≤ n') : EntOk c' n' e := by
  cases e with
  | none => trivial
  | some e =>
    obtain ⟨⟨a, b⟩, ⟨c, d⟩, e, f⟩ := h
    exact ⟨⟨a, by omega⟩, ⟨c, d⟩, ⟨e, by omega⟩⟩
theorem tabB_all {r0 : List Ent} {rs : List (List Ent)} (h : tabB (r0 :: rs) = true) : (r0 :: rs).length ≤ 10 ∧ (∀ r ∈ r0 :: rs, r.length = r0.length ∧ ∀ e ∈ r, EntOk r.length (r0 :: rs).length e) ∧ 2 ≤ r0.length ∧ r0.length ≤ 6 := by
  have h : (decide ((r0 :: rs).length ≤ 10) && (((r0 :: rs).all fun r => decide (r.length = r0.length) && r.all (entB r.length (r0 :: rs).length)) && (decide (2 ≤ r0.length) && decide (r0.length ≤ 6)))) = true := h
  generalize hT : (r0 :: rs) = T at *
  simp only [Bool.and_eq_true, decide_eq_true_eq, List.all_eq_true] at h
  obtain ⟨a, b, c, d⟩ := h
  exact ⟨a, fun r hr => ⟨(b r hr).1, fun e he => entB_ok ((b r hr).2 e he)⟩, c, d⟩
theorem tabB_good {T : List (List Ent)} (h : tabB T = true) : TabGood T := by
  cases T with
  | nil => cases h
  | cons r0 rs =>
    obtain ⟨a, b, c, d⟩ := tabB_all h
    refine ⟨a, fun r hr => ?_, fun r hr e he => ?_, by simp, fun r hr z => ?_⟩
    · rw [(b r hr).1]; exact d
    · have := (b r hr).1
      exact ((b r hr).2 e he).mono (by omega) (by omega)
    · have := (b r hr).1
      rw [z] at this
      simp at this
      omega
theorem TabOk.good {c n : Nat} {T : List (List Ent)} (h : TabOk c n T) (h1 : 1 ≤ n) (h2 : n ≤ 2) (h3 : 2 ≤ c) (h4 : c ≤ 3) : tabB T = true := by
  obtain ⟨hl, hr⟩ := h
  cases T with
  | nil => simp at hl; omega
  | cons r0 rs =>
    have h0 := (hr r0 List.mem_cons_self).1
    show (decide ((r0 :: rs).length ≤ 10) && (((r0 :: rs).all fun r => decide (r.length = r0.length) && r.all (entB r.length (r0 :: rs).length)) && (decide (2 ≤ r0.length) && decide (r0.length ≤ 6)))) = true
    generalize hT : (r0 :: rs) = T at *
    simp only [Bool.and_eq_true, decide_eq_true_eq, List.all_eq_true]
    refine ⟨by omega, fun r hr' => ⟨by rw [(hr r hr').1, h0], fun e he => ?_⟩, by omega, by omega⟩
    have z := (hr r hr').2 e he
    rw [(hr r hr').1, hl]
    cases e with
    | none => rfl
    | some e =>
      obtain ⟨⟨a, b⟩, ⟨c, d⟩, e, f⟩ := z
      simp only [entB, Bool.and_eq_true, decide_eq_true_eq]
      exact ⟨⟨a, by omega⟩, ⟨c, by omega⟩, e, by omega⟩
def spCheckT (K : PySem.W.Frag) : Sp := fun vs H Q _ => ∃ (v : V) (T : List (List Ent)), vs = [v] ∧ Tp K H v (tabD T) ∧ tabB T = true ∧ ∀ H', Same H H' → Q .non H'
section
variable {P : Program} {w : World} {K : PySem.W.Frag} {mg : Str → Option Value} {base : Heap}
theorem ok_check_table (T : Txt K mg) (D : DefAt K mg "check_table" s_check_table ["value"]) (C_is_table : Cal P w K mg base CX0 "is_table" 3 ["value"] (spIsTable K)) : Cal P w K mg base CX0 "check_table" 4 ["value"] (spCheckT K) := by
  refine D.cal sc_check_table (fun vs H Q E h => ?_) (fun f cdv A outer s H vs Q E hr h => ?_)
  · obtain ⟨v, Tb, rfl, _⟩ := h
    rfl
  · obtain ⟨v, Tb, rfl, hv, hg, q⟩ := h
    refine ⟨_, (pss_one (ps_if (pt_not (pt_val (pe_own C_is_table hr (by first | decide | omega) (pa_cons (pv 0) pa_nil)))) (pss_one ps_never) pss_nil)), ?_⟩
    have g := tabB_good hg
    have h1 : Tb.length ≤ 1000 := by have := g.len; omega
    have h2 : ∀ r ∈ Tb, r.length ≤ 1000 := fun r hr => by have := g.rows r hr; omega
    walk_at "st"
    intro H' s'
    rw [hg]
    walk_at "st"
    exact q H' s'
end

/-! ### a thing taken out of a list -/
theorem TpAll.erase {K : PySem.W.Frag} {H : Hp} : ∀ {vs : List V} {ds : List PyData} {k : Nat}, TpAll K H vs ds → TpAll K H (vs.eraseIdx k) (ds.eraseIdx k)
  | [], [], _, _ => .nil
  | [], _ :: _, _, h => nomatch h
  | _ :: _, [], _, h => nomatch h
  | u :: us, e :: es, 0, h => by
    cases h with
    | cons h1 h2 => exact h2
  | u :: us, e :: es, k + 1, h => by
    cases h with
    | cons h1 h2 => exact .cons h1 (TpAll.erase h2)
theorem erase_map {α β : Type} (f : α → β) : ∀ (l : List α) (k : Nat), (l.map f).eraseIdx k = (l.eraseIdx k).map f
  | [], _ => rfl
  | _ :: _, 0 => rfl
  | a :: l, k + 1 => by
    show f a :: (l.map f).eraseIdx k = f a :: (l.eraseIdx k).map f
    rw [erase_map f l k]
theorem erase_mem {α : Type} : ∀ {l : List α} {k : Nat} {x : α}, x ∈ l.eraseIdx k → x ∈ l
  | [], _, _, h => h
  | _ :: _, 0, _, h => List.mem_cons_of_mem _ h
  | a :: l, k + 1, x, h => by
    rcases List.mem_cons.mp h with z | z
    · exact z ▸ List.mem_cons_self
    · exact List.mem_cons_of_mem _ (erase_mem z)
theorem seqIx {n : Nat} {v : Int} (h0 : 0 ≤ v) (h1 : v < n) : seqIndex? v n = some v.toNat := by
  unfold seqIndex?
  simp
  omega
theorem perm_erase {α : Type} : ∀ {l : List α} {k : Nat} {y : α}, l[k]? = some y → l.Perm (y :: l.eraseIdx k)
  | [], _, _, h => by simp at h
  | a :: l, 0, y, h => by
    cases h
    exact List.Perm.refl _
  | a :: l, k + 1, y, h => ((perm_erase (l := l) (k := k) h).cons a).trans (List.Perm.swap y a _)

/-! ### one of some things -/
def spPick (K : PySem.W.Frag) : Sp := fun vs H Q _ => ∃ (r L : Addr) (xs : List V), vs = [.ref r, .ref L] ∧ Row K H r ∧ H L = some (.lst xs) ∧ L ≠ r ∧ 1 ≤ xs.length ∧ xs.length ≤ 100 ∧ ∀ (v : V) (H' : Hp) (k : Nat), xs[k]? = some v → Row K H' r → KeepB r H H' → Q v H'
section
variable {P : Program} {w : World} {K : PySem.W.Frag} {mg : Str → Option Value} {base : Heap}
local macro_rules | `(tactic| walk_at "cl") => `(tactic| first | (refine le_only ?_; omega) | (refine lt_only ?_; omega))
theorem ok_law_pick (T : Txt K mg) (D : DefAt K mg "_law_pick" s_law_pick ["row", "things"]) (C_law_taken : Cal P w K mg base CX0 "_law_taken" 1 ["row", "many"] (spTaken K)) : Cal P w K mg base CX0 "_law_pick" 2 ["row", "things"] (spPick K) := by
  refine D.cal sc_law_pick (fun vs H Q E h => ?_) (fun f cdv A outer s H vs Q E hr h => ?_)
  · obtain ⟨r, L, xs, rfl, _⟩ := h
    rfl
  · obtain ⟨r, L, xs, rfl, R, hL, ne, l1, l100, q⟩ := h
    refine ⟨_, (pss_one (ps_ret (pe_ix (k_ix_list (K := K)) (pv 1) (pe_own C_law_taken hr (by first | decide | omega) (pa_cons (pv 0) (pa_cons (pe_callB (k_len_l (K := K)) (by rfl) T.m_len (by decide +kernel) (pa_cons (pv 1) pa_nil)) pa_nil))) (fun _ _ => rfl)))), ?_⟩
    have hSL := SqL.of (K := K) hL
    have c1 : (0 : Int) < xs.length := by omega
    have c2 : (xs.length : Int) < 2 ^ 250 := by omega
    walk_at "st"
    intro v H1 v0 v1 R1 k1
    have hL1 := k1 _ _ ne hL
    have hSL1 := SqL.of (K := K) hL1
    have lv : v.toNat < xs.length := by omega
    have ev : xs[v.toNat]? = some xs[v.toNat] := List.getElem?_eq_getElem lv
    have hat : atI xs v = some xs[v.toNat] := by
      have z := atI_nat ev
      rw [show ((v.toNat : Nat) : Int) = v by omega] at z
      exact z
    walk_at "st"
    exact q _ _ _ ev R1 k1
end

/-! ### the law's turning tables -/
def tRow (L : List Pt) : List Ent := L.map fun e => some (e.1, e.2, 0)
def rgI (c : Nat) : List Int := (List.range c).map fun i : Nat => (i : Int)
def spTurnT (K : PySem.W.Frag) : Sp := fun vs H Q _ => ∃ r : Addr, vs = [.ref r] ∧ Row K H r ∧
  ∀ (v : V) (H' : Hp) (c : Nat) (L : List Pt), 2 ≤ c → c ≤ 5 → L.length = c → (∀ e ∈ L, e.2 = 1 ∨ e.2 = 3) → (L.map (·.1)).Perm (rgI c) → Tp K H' v (tabD [tRow L]) → Row K H' r → KeepB r H H' → Q v H'
section
variable {P : Program} {w : World} {K : PySem.W.Frag} {mg : Str → Option Value} {base : Heap}
local macro_rules | `(tactic| walk_at "cl") => `(tactic| first | (refine le_only ?_; omega) | (refine lt_only ?_; omega))
theorem ok_law_turning_table (T : Txt K mg) (D : DefAt K mg "_law_turning_table" s_law_turning_table ["row"]) (C_law_taken : Cal P w K mg base CX0 "_law_taken" 1 ["row", "many"] (spTaken K)) (C_law_pick : Cal P w K mg base CX0 "_law_pick" 2 ["row", "things"] (spPick K)) : Cal P w K mg base CX0 "_law_turning_table" 3 ["row"] (spTurnT K) := by
  refine D.cal sc_law_turning_table (fun vs H Q E h => ?_) (fun f cdv A outer s H vs Q E hr h => ?_)
  · obtain ⟨r, rfl, _⟩ := h
    rfl
  · obtain ⟨r, rfl, hrow, q⟩ := h
    refine ⟨_, (pss_cons (ps_par (i := 1) (j := 2) (by rfl) sc_law_turning_table.nd rfl rfl (by decide) rfl rfl (pa_cons (pe_op op_add pe_int (pe_own C_law_taken hr (by first | decide | omega) (pa_cons (pv 0) (pa_cons pe_int pa_nil)))) (pa_cons (pe_lst pa_nil) pa_nil)) (by rfl))
      (pss_cons (ps_set (i := 3) sc_law_turning_table.nd rfl (Or.inl rfl) (pe_listRg rfl (by rfl) T.m_list (prg_1 (by rfl) T.m_range (pv 1))))
      (pss_cons (ps_for PassesOwn.never rfl (pi_range1 (by rfl) T.m_range (pa_cons (pv 1) pa_nil)) (pg_name (i := 4) sc_law_turning_table.nd rfl (Or.inl rfl))
      (pss_one (ps_expr (pe_bm PySem.F.plainAttrs_list PySem.F.slot_list_append PySem.F.type_list_append mt_append (pv 2) (pa_cons (pe_tup (pa_cons (pe_bm PySem.F.plainAttrs_list PySem.F.slot_list_pop PySem.F.type_list_pop mt_popAt (pv 3) (pa_cons (pe_own C_law_taken hr (by first | decide | omega) (pa_cons (pv 0) (pa_cons (pe_callB (k_len_l (K := K)) (by rfl) T.m_len (by decide +kernel) (pa_cons (pv 3) pa_nil)) pa_nil))) pa_nil)) (pa_cons (pe_own C_law_pick hr (by first | decide | omega) (pa_cons (pv 0) (pa_cons (pe_lst (pa_cons pe_int (pa_cons pe_int pa_nil))) pa_nil))) (pa_cons pe_int pa_nil)))) pa_nil)))))
      (pss_one (ps_ret (pe_tup (pa_cons (pe_callTy (k_tuple_l (K := K)) (by rfl) T.m_tuple (by decide +kernel) (pa_cons (pv 2) pa_nil)) pa_nil))))))), ?_⟩
    walk_at "st"
    intro c' H1 hc0 hc4 R1 k1
    walk_at "st"
    intro p np
    have npr : p ≠ r := R1.ne np
    walk_at "st"
    refine ⟨RgOk.of_le (by omega) (by omega) (by omega) (by omega), fun l nl => ?_⟩
    have nlr : l ≠ r := (R1.new np).ne nl
    have nlp : l ≠ p := ne_of_none upd_same nl |>.symm
    walk_at "st"
    have e0 : rgV 0 (2 + c') = (rgI (2 + c').toNat).map V.int := by
      unfold rgV rgI
      rw [List.map_map, show (2 + c' - 0).toNat = (2 + c').toNat by omega]
      refine List.map_congr_left fun i _ => ?_
      show V.int (0 + (i : Int)) = V.int (i : Int)
      rw [Int.zero_add]
    have lrg : (rgI (2 + c').toNat).length = (2 + c').toNat := by
      unfold rgI
      rw [List.length_map, List.length_range]
    rw [e0]
    have kp : KeepB r H (upd H1 p (.lst [])) := k1.trans (KeepB.new np)
    refine for_range (lo := 0) (n := (2 + c').toNat) (fun i σ H' => Ok (∃ (y4 : Option V) (vs : List V) (L : List Pt) (xs : List Int), σ = [some (.ref r), some (.int (2 + c')), some (.ref p), some (.ref l), y4] ∧
      L.length = i ∧ (∀ e ∈ L, e.2 = 1 ∨ e.2 = 3) ∧ (L.map (·.1) ++ xs).Perm (rgI (2 + c').toNat) ∧ H' p = some (.lst vs) ∧ TpAll K H' vs ((tRow L).map entD) ∧ H' l = some (.lst (xs.map V.int)) ∧ Row K H' r ∧ KeepB r H H')) ?_ ?_ ?_
    · exact ⟨_, [], [], rgI (2 + c').toNat, rfl, rfl, fun _ h => absurd h List.not_mem_nil, List.Perm.refl _, by rw [upd_ne nlp.symm]; exact upd_same, .nil, upd_same, (R1.new np).new nl, kp.trans (KeepB.new nl)⟩
    · rintro i σ H4 hi ⟨y4, vs, L, xs, rfl, hL, hok, pm, hp, hvs, hl, R4, k4⟩
      have lx : L.length + xs.length = (2 + c').toNat := by
        have z := pm.length_eq
        rw [List.length_append, List.length_map, lrg] at z
        exact z
      have hSl := SqL.of (K := K) hl
      have lm : (xs.map V.int).length = xs.length := List.length_map _
      have cu0 : (0 : Int) < (xs.map V.int).length := by omega
      have cu1 : ((xs.map V.int).length : Int) < 2 ^ 250 := by omega
      walk_at "st"
      intro v H6 v0 v1 R6 k6
      have hl6 := k6 _ _ nlr hl
      have hp6 := k6 _ _ npr hp
      have lv : v.toNat < xs.length := by omega
      have hsq : seqIndex? v (xs.map V.int).length = some v.toNat := seqIx v0 v1
      have eX := List.getElem?_eq_getElem lv
      have ey : (xs.map V.int)[v.toNat]? = some (.int xs[v.toNat]) := by rw [List.getElem?_map, eX]; rfl
      have pmx : xs.Perm (xs[v.toNat] :: xs.eraseIdx v.toNat) := perm_erase eX
      generalize xs[v.toNat] = y at *
      refine ⟨l, xs.map V.int, v, v.toNat, .int y, rfl, rfl, hl6, by omega, by omega, hsq, ey, ?_⟩
      rw [erase_map]
      have t46 := k6.row R4
      have t7 : TK H6 (upd H6 l (.lst ((xs.eraseIdx v.toNat).map V.int))) := TK.lst hl6
      have R7 := R6.put (o := .lst ((xs.eraseIdx v.toNat).map V.int)) hl6 nlr
      have nl0 : H l = none := kp.back nl nlr
      have np0 : H p = none := k1.back np npr
      have k7 : KeepB r H (upd H6 l (.lst ((xs.eraseIdx v.toNat).map V.int))) := (k4.trans k6).fresh nl0
      have hl7 : (upd H6 l (.lst ((xs.eraseIdx v.toNat).map V.int))) l = some (.lst ((xs.eraseIdx v.toNat).map V.int)) := upd_same
      have hp7 : (upd H6 l (.lst ((xs.eraseIdx v.toNat).map V.int))) p = some (.lst vs) := by rw [upd_ne nlp.symm]; exact hp6
      have hvs7 := TpAll.mono (t46.trans t7) _ _ hvs
      generalize hH7 : upd H6 l (.lst ((xs.eraseIdx v.toNat).map V.int)) = H7 at *
      generalize xs.eraseIdx v.toNat = xs7 at *
      walk_at "st"
      intro m nm
      have nmr : m ≠ r := R7.ne nm
      refine ⟨r, m, _, rfl, R7.new nm, upd_same, nmr, by decide, by decide, fun tv H8 k ek R8 k8 => ?_⟩
      have hl8 := k8 _ _ nlr ((Same.new nm) _ _ hl7)
      have hp8 := k8 _ _ npr ((Same.new nm) _ _ hp7)
      have t8 := (TK.new (o := .lst [.int 1, .int 3]) nm).trans (k8.row (R7.new nm))
      have hvs8 := TpAll.mono t8 _ _ hvs7
      have kk8 : KeepB r H H8 := (k7.trans (KeepB.new nm)).trans k8
      obtain ⟨t, rfl, ht⟩ : ∃ t : Int, tv = .int t ∧ (t = 1 ∨ t = 3) := by
        match k, ek with
        | 0, e => exact ⟨1, (Option.some.inj e).symm, .inl rfl⟩
        | 1, e => exact ⟨3, (Option.some.inj e).symm, .inr rfl⟩
        | k + 2, e => exact absurd e (by simp)
      walk_at "st"
      intro u nu
      have hsz : vs.length < sizeLine := by
        have z := TpAll.length hvs
        rw [List.length_map] at z
        have z2 : (tRow L).length = L.length := List.length_map _
        exact small1000 (by omega)
      have s9 : Same H8 (upd H8 u (.tup [.int y, .int t, .int 0])) := Same.new nu
      have hp9 := s9 _ _ hp8
      have hl9 := s9 _ _ hl8
      have hx9 : Tp K (upd H8 u (.tup [.int y, .int t, .int 0])) (.ref u) (entD (some (y, t, 0))) := Tp.of_ints (ks := [y, t, 0]) (SqT.of upd_same)
      have R9 := R8.same s9
      have k9 : KeepB r H (upd H8 u (.tup [.int y, .int t, .int 0])) := kk8.trans (Same.keepB s9)
      have hvs9 := TpAll.mono (Same.tk s9) _ _ hvs8
      generalize hH9 : upd H8 u (.tup [.int y, .int t, .int 0]) = H9 at *
      refine ⟨p, vs, .ref u, rfl, rfl, hp9, hsz, ?_⟩
      have tu : TK H9 (upd H9 p (.lst (vs ++ [.ref u]))) := TK.lst hp9
      refine ⟨_, vs ++ [.ref u], L ++ [(y, t)], xs7, rfl, ?_, fun e he => ?_, ?_, upd_same, ?_, by rw [upd_ne nlp]; exact hl9, R9.put hp9 npr, k9.fresh np0⟩
      · rw [List.length_append, hL]; rfl
      · rcases List.mem_append.mp he with z | z
        · exact hok e z
        · rw [List.mem_singleton.mp z]
          exact ht
      · rw [List.map_append, List.append_assoc]
        exact (List.Perm.append_left _ pmx.symm).trans pm
      · show TpAll K _ _ (((L ++ [(y, t)]).map _).map entD)
        rw [List.map_append, List.map_append]
        exact TpAll.append (TpAll.mono tu _ _ hvs9) (.cons (Tp.mono tu _ _ hx9) .nil)
    · rintro σ H4 ⟨y4, vs, L, xs, rfl, hL, hok, pm, hp, hvs, hl, R4, k4⟩
      have lx : L.length + xs.length = (2 + c').toNat := by
        have z := pm.length_eq
        rw [List.length_append, List.length_map, lrg] at z
        exact z
      have hSp : SqL K H4 p vs := SqL.of hp
      walk_at "st"
      intro u1 nu1
      have hTu : SqT K (upd H4 u1 (.tup vs)) u1 vs := SqT.of upd_same
      walk_at "st"
      intro u2 nu2
      have s1 : Same H4 (upd (upd H4 u1 (.tup vs)) u2 (.tup [.ref u1])) := Same.trans (Same.new nu1) (Same.new nu2)
      refine q _ _ (2 + c').toNat L (by omega) (by omega) hL hok ?_ (.tup (SqT.of upd_same) (.cons (.tup (TK.seqT (TK.new nu2) hTu) (TpAll.mono (Same.tk s1) _ _ hvs)) .nil)) (R4.same s1) (k4.trans (Same.keepB s1))
      have xn : xs = [] := List.length_eq_zero_iff.mp (by omega)
      rw [xn, List.append_nil] at pm
      exact pm
end

/-! ### a set of the ints of a list -/
section
variable {prog : Program} {w : World} {A : Around} {s : Shared}
/-- the set at a holds just the first i of ns -/
def SetI (w : World) (h : Heap) (a : Addr) (ns : List Int) (i : Nat) : Prop := ∃ (S : Int → Bool) (n : Nat), SetR w h a S n ∧ (∀ k, S k = true ↔ k ∈ ns.take i) ∧ n ≤ i
theorem SetI.on {h h' : Heap} {a : Addr} {ns : List Int} {i : Nat} (q : SetI w h a ns i) (k : ∀ o, h.get? a = some o → h'.get? a = some o) : SetI w h' a ns i := by
  obtain ⟨S, n, R, r⟩ := q
  exact ⟨S, n, R.at k, r⟩
theorem set_fill {it : Addr} {fp wr : List Addr} {G : Array GenState → Array GenState → Prop} {n : Nat} {Pv : Nat → Value → Prop} {St : Nat → Shared → Prop} {R : Result → Shared → Prop} (W : WalksS prog w A.in1 it fp wr G n Pv St) (a : Addr) (nf : a ∉ fp)
    (ns : List Int) (ln : ns.length = n) (vals : ∀ i v, Pv i v → ∃ t, v = .int (ns.getD i 0) t) (few : n + 1 < scanBound) : ∀ (k i : Nat) (s : Shared), n - i = k → i ≤ n → St i s → SetI w s.heap a ns i →
      (∀ s', Moved (a :: wr) G s s' → SetI w s'.heap a ns n → R (.ok (.ret .none)) s') → codeAny (model prog w) A (.builtin "set.update.loop" ⟨[.ref a, .ref it], []⟩) R s := by
  have nw : a ∉ wr := fun h => nf (W.sub _ h)
  have up : ∀ b ∈ wr, b ∈ a :: wr := fun b hb => List.mem_cons_of_mem _ hb
  intro k
  induction k with
  | zero =>
    intro i s hk hi st hS fin
    obtain rfl : i = n := by omega
    refine codeAny_builtin F.entry_set_update_loop ?_
    rw [Around.under_plainId F.plain_set_update_loop _]
    show wpAny _ A.in1 (pyNext (.ref it) >>= _) _ _ s
    refine wpAny_bind (W.done s _ _ st fun s' mv => ?_)
    show wpAny _ A.in1 (ret Value.none) _ _ s'
    exact wpAny_pure (fin s' (mv.mono up) (hS.on fun o e => mv.heap a _ nw e))
  | succ k ih =>
    intro i s hk hi st hS fin
    have lt : i < n := by omega
    refine codeAny_builtin F.entry_set_update_loop ?_
    rw [Around.under_plainId F.plain_set_update_loop _]
    show wpAny _ A.in1 (pyNext (.ref it) >>= _) _ _ s
    refine wpAny_bind (W.item i s _ _ lt st fun v s' hP st' mv => ?_)
    obtain ⟨t, rfl⟩ := vals i v hP
    obtain ⟨S, m, r, hm, lm⟩ := hS.on (h' := s'.heap) fun o e => mv.heap a _ nw e
    show wpAny _ A.in1 (holding [Value.int (ns.getD i 0) t] (setAdd a (.int (ns.getD i 0) t)) >>= _) _ _ s'
    refine wpAny_bind (wpAny_holding ?_)
    unfold setAdd
    refine wpAny_holding (wpAny_bind ((intKind prog w).pyHash (k := ns.getD i 0) (intKind_is _ _ _ _) ?_))
    refine setR_add_hashed (s := { s' with toks := s'.toks + 1 }) r (by omega) fun h' sb r2 => ?_
    have e1 : ns.take (i + 1) = ns.take i ++ [ns.getD i 0] := by
      have lt2 : i < ns.length := by omega
      rw [List.take_succ, List.getElem?_eq_getElem lt2, List.getD_eq_getElem?_getD, List.getElem?_eq_getElem lt2]
      rfl
    have hS2 : SetI w h' a ns (i + 1) := by
      refine ⟨_, _, r2, fun j => ?_, by split <;> omega⟩
      rw [Bool.or_eq_true, hm j, decide_eq_true_eq, e1, List.mem_append, List.mem_singleton]
    refine wpAny_pure ⟨plainId_quiet F.plain_set_update_loop _, ih (i + 1) _ (by omega) lt (W.frame _ s' _ _ st' (Nat.le_succ _) fun b hb o e => ?_) hS2 fun s'' mv2 hS3 => ?_⟩
    · rw [sb.2 b (fun z : b = a => nf (by rw [← z]; exact hb))]
      exact e
    · refine fin s'' (Moved.trans W.gtrans ((mv.mono up).then_heap (Nat.le_succ _) fun b o hb e => ?_) mv2) hS3
      rw [sb.2 b (fun z : b = a => hb (by rw [z]; exact List.mem_cons_self))]
      exact e
end
/-- an empty set, just made -/
abbrev noneYet (w : World) : Obj := { cls := .type "set", dict := none, data := .set #[] 0 (.fresh 0 0 (!w.params.followText "set-order")) }
theorem setI_none {w : World} {h : Heap} {a : Addr} (e : h.get? a = some (noneYet w)) (ns : List Int) : SetI w h a ns 0 :=
  ⟨fun _ => false, 0, ⟨_, #[], 0, _, e, ⟨rfl, rfl, rfl⟩, rfl, (fun _ z => by simp at z), (by simp), (fun k => by simp), (by decide), (by rfl), rfl, List.Pairwise.nil, by
    show _ ∨ (!w.params.followText "set-order") = true
    cases w.params.followText "set-order"
    · exact .inr rfl
    · exact .inl rfl⟩, fun k => by simp, Nat.le_refl 0⟩
section
variable {prog : Program} {w : World} {A : Around} {s : Shared} {E : Value → Shared → Prop}
set_option maxHeartbeats 3200000 in
theorem call_set_ints {l : Addr} {items : Array Value} {ns : List Int} {Q : Value → Shared → Prop} (calm : A.handled = none) (hl : s.heap.IsList l items) (hi : PyProof.Rows.IntsAre items.toList ns) (few : items.size + 1 < scanBound)
    (fin : ∀ (h' : Heap) (tk : Nat), SetI w h' s.heap.objs.size ns ns.length → (∀ b o, s.heap.get? b = some o → h'.get? b = some o) → Q (.ref s.heap.objs.size) { s with heap := h', toks := tk }) : wpAny (model prog w) A (call (.type "set") [.ref l]) Q E s := by
  have ln : ns.length = items.size := by
    have z := hi.length
    rw [Array.length_toList] at z
    exact z.symm
  obtain ⟨c, tl, m0⟩ := F.called_set.mro
  have m1 := F.called_set.made
  have m2 := F.called_set.sub
  refine wpAny_call (codeAny_of_tree ?_)
  show wpAny _ _ (callAny (.type "set") _) _ _ _
  refine wpAny_pure ⟨Code.quiet_builtin _ (by decide +kernel), codeAny_builtin F.entry_type_call ?_⟩
  rw [Around.under_plain (weight_type_call_type "set" [.ref l] []) rfl]
  have m3 := F.called_set.notType
  have m4 := F.called_set.canCreate
  have m5 := F.typeCall_set_1 (.ref l)
  repeat (any_goals (first | assumption | wp_step))
  refine codeAny_mono (code_set_led1 (.ref l) (E := E) (Q₁ := fun obj s₁ => obj = .ref s.heap.objs.size ∧ s₁ = { s with heap := s.heap.push (noneYet w) }) ⟨rfl, rfl⟩) fun r s₁ hr => ?_
  cases r with
  | error e => exact hr
  | ok fl =>
    cases fl with
    | ret obj =>
      obtain ⟨rfl, rfl⟩ := hr
      have at0 : (s.heap.push (noneYet w)).get? s.heap.objs.size = some (noneYet w) := Heap.get?_push_size _ rfl
      have ty0 : Shared.TypeIs { s with heap := s.heap.push (noneYet w) } (.ref s.heap.objs.size) "set" := ⟨_, at0, rfl⟩
      have n1 := F.called_set.init.lookup
      have n2 := F.called_set.init.bind (.ref s.heap.objs.size)
      repeat (any_goals (first | assumption | wp_step))
      refine codeAny_mono (codeAny_call_builtin (R := wants (fun r s₂ => r = .none ∧ ∃ h' tk, s₂ = { s with heap := h', toks := tk } ∧ SetI w h' s.heap.objs.size ns ns.length ∧ ∀ b o, s.heap.get? b = some o → h'.get? b = some o) E) F.called_set.init.plain F.entry_set_init (check_set_init_1 ty0 ?_)) fun r₂ s₂ hr₂ => ?_
      · obtain ⟨⟨oc, od, odt, osl⟩, ol, c1, nl, c2⟩ := hl
        simp only at c1 c2
        subst c1
        subst c2
        have ol2 : (s.heap.push (noneYet w)).get? l = some { cls := .type "list", dict := od, data := .seq items nl, slots := osl } := Heap.get?_push_of_some _ ol
        have u1 := F.sub_list_set
        have u2 := F.sub_list_frozenset
        have u3 : (Value.type "list" == Value.type "dict") = false := by decide
        have li : (s.heap.push (noneYet w)).IsList l items := ⟨_, ol2, rfl, nl, rfl⟩
        unfold Builtin.«set.__init__» noKeywords Builtin.Frozenset.updateFrom
        generalize ePI : pyIter = PI
        wp_walk
        subst ePI
        refine wpAny_pyIter_list li (wpAny_bind (wpAny_runValue ?_))
        have lS : l < s.heap.objs.size := Heap.lt_size ol
        have calm3 : A.in1.in1.in1.handled = none := by simp [calm]
        have nI : l ≠ (s.heap.push (noneYet w)).objs.size := by rw [Heap.size_push]; exact Nat.ne_of_lt (Nat.lt_succ_of_lt lS)
        have nS : s.heap.objs.size ∉ [(s.heap.push (noneYet w)).objs.size, l] := by
          rw [Heap.size_push]
          simp only [List.mem_cons, List.not_mem_nil, or_false, not_or]
          exact ⟨Nat.ne_of_lt (Nat.lt_succ_self _), Nat.ne_of_gt lS⟩
        have vals : ∀ (i : Nat) (v : Value), items[i]? = some v → ∃ t, v = .int (ns.getD i 0) t := fun i v hv => PyProof.Rows.IntsAre.int_at hi i v (by rw [Array.getElem?_toList]; exact hv)
        refine set_fill ((Walks.list calm3 _ l nI items).toS) s.heap.objs.size nS ns ln vals few (items.size - 0) 0 _ (by omega) (Nat.zero_le _) ⟨⟨_, Heap.get?_push_size _ rfl, rfl, rfl⟩, li.push _⟩ (setI_none (Heap.get?_push_of_some _ at0) ns) ?_
        intro s' mv hS
        obtain ⟨h', g2, d', tk', os'⟩ := s'
        have eg : g2 = s.gens := mv.gens
        have ed : d' = s.drawn := mv.drawn
        have eo : os' = s.os := mv.os
        subst eg ed eo
        show wpAny _ _ _ _ _ _
        refine wpAny_pure ?_
        show wpAny _ _ (ret Value.none) _ _ _
        refine wpAny_pure ⟨rfl, h', tk', rfl, by rw [ln]; exact hS, fun b o e => ?_⟩
        have lb := Heap.lt_size e
        refine mv.heap b o ?_ (Heap.get?_push_of_some _ (Heap.get?_push_of_some _ e))
        rw [Heap.size_push]
        simp only [List.mem_cons, List.not_mem_nil, or_false, not_or]
        exact ⟨Nat.ne_of_lt lb, Nat.ne_of_lt (Nat.lt_succ_of_lt lb)⟩
      · cases r₂ with
        | error e => exact hr₂
        | ok fl₂ =>
          cases fl₂ with
          | ret r =>
            obtain ⟨rfl, h', tk, rfl, hS, kp⟩ := hr₂
            repeat (any_goals (first | assumption | wp_step))
            exact fin _ _ hS kp
          | _ => exact hr₂.elim
    | _ => exact hr.elim
end
/-- set(xs), xs a list of ints -/
def rSetI (K : PySem.W.Frag) (w : World) : List V → Hp → VK → Prop := fun xs H Q => ∃ (l : Addr) (ns : List Int), xs = [V.ref l] ∧ SqL K H l (ns.map V.int) ∧ ns.length ≤ 60 ∧
  ∀ (a : Addr) (S : Int → Bool) (n : Nat), H a = none → (∀ k, S k = true ↔ k ∈ ns) → n ≤ ns.length → Q (.ref a) (upd H a (SetO w a S n))
theorem k_setI {K : PySem.W.Frag} {w : World} {X : Cx} (calm : X.calm = true) (hK : X.K = K := by rfl) (hw : X.w = w := by rfl) : CallR X (.type "set") (rSetI K w) := by
  subst hK hw
  intro pins s σ H xs us Q I r h
  obtain ⟨l, ns, rfl, hl, few, q⟩ := h
  rw [Vals.ref1 r]
  obtain ⟨its, rv, pl, hz⟩ := I.list hl
  have ia : PyProof.Rows.IntsAre its ns := by
    clear pl hz hl few q
    induction ns generalizing its with
    | nil => cases rv; exact .nil
    | cons n ns ih =>
      cases rv with
      | cons a b =>
        obtain ⟨t, rfl⟩ := a
        exact .cons n t (ih _ b)
  have li : its.length = ns.length := by rw [← rv.length, List.length_map]
  refine call_set_ints (I.ok.hd calm) pl.isList (by simpa using ia) (by rw [List.size_toArray]; unfold scanBound; omega) fun h' tk hS kp => ?_
  obtain ⟨S, n, R, hm, ln⟩ := hS
  rw [List.take_length] at hm
  exact ⟨.ref _, upd H s.heap.objs.size (SetO X.w s.heap.objs.size S n), I.laid (t' := tk) kp (Nat.le_refl _) (setO_new R), rfl, q _ S n (I.hok.fresh (Nat.le_refl _)) hm ln⟩
theorem k_sortedSet {w : World} {X : Cx} (calm : X.calm = true) (hw : X.w = w := by rfl) : CallR X (.builtin "sorted") (rSortedSet w) := by
  subst hw
  exact cr_sortedSet calm

/-! ### does a round turn both ways? -/
theorem tRow_at {L : List Pt} {k : Nat} (h : k < L.length) : (tRow L)[k]? = some (some (L[k].1, L[k].2, 0)) := by
  unfold tRow
  rw [List.getElem?_map, List.getElem?_eq_getElem h]
  rfl
def tuOf (L : List Pt) (k : Nat) : Int := ((L[k]?).map (·.2)).getD 0
def paOf (L : List Pt) (k : Nat) : Int := ((L[k]?).map (·.1)).getD 0
theorem inV_int {x : Int} {l : List Int} : inV (.int x) (l.map V.int) = decide (x ∈ l) := by
  unfold inV
  rw [List.any_map]
  rw [Bool.eq_iff_iff, List.any_eq_true, decide_eq_true_eq]
  constructor
  · rintro ⟨y, hy, e⟩
    have e : (y == x) = true := e
    rw [← eq_of_beq e]
    exact hy
  · intro h
    exact ⟨x, h, by show (x == x) = true; exact beq_self_eq_true x⟩
theorem flat_intsV {l : List Int} : (l.map V.int).all flatV = true := List.all_eq_true.mpr fun v hv => by
  obtain ⟨k, _, e⟩ := List.mem_map.mp hv
  rw [← e]
  rfl
/-- the table's entry by its row, once it is laid -/
theorem tab1 {K : PySem.W.Frag} {H : Hp} {v : V} {L : List Pt} (h : Tp K H v (tabD [tRow L])) : ∃ a b ws, v = .ref a ∧ SqT K H a [.ref b] ∧ SqT K H b ws ∧ ws.length = L.length ∧ TpAll K H ws ((tRow L).map entD) := by
  obtain ⟨a, vs, rfl, hs, hvs⟩ := h.tupI
  obtain ⟨u, us, rfl, hu, hus⟩ := hvs.consI
  obtain rfl := hus.nilI
  obtain ⟨b, ws, rfl, hb, hws⟩ := hu.tupI
  have z := TpAll.length hws
  rw [List.length_map] at z
  have z2 : (tRow L).length = L.length := List.length_map _
  exact ⟨a, b, ws, rfl, hs, hb, by omega, hws⟩
def spBoth (K : PySem.W.Frag) : Sp := fun vs H Q _ => ∃ (tv cv : V) (L : List Pt) (cs : List Nat), vs = [tv, cv] ∧ Tp K H tv (tabD [tRow L]) ∧ Tp K H cv (.tuple (cs.map fun k : Nat => PyData.int (k : Int))) ∧ (∀ k ∈ cs, k < L.length) ∧ cs.length ≤ 100 ∧ ∀ H', Same H H' → Q (.bl (decide ((1 : Int) ∈ cs.map (tuOf L)) && decide ((3 : Int) ∈ cs.map (tuOf L)))) H'
theorem ints_tp {K : PySem.W.Frag} {H : Hp} : ∀ {us : List V} {cs : List Nat}, TpAll K H us (cs.map fun k : Nat => PyData.int (k : Int)) → us = cs.map fun k : Nat => V.int (k : Int)
  | [], [], _ => rfl
  | [], _ :: _, h => nomatch h
  | _ :: _, [], h => nomatch h
  | u :: us, c :: cs, h => by
    cases h with
    | cons h1 h2 =>
      cases h1
      rw [ints_tp h2]
      rfl
section
variable {P : Program} {w : World} {K : PySem.W.Frag} {mg : Str → Option Value} {base : Heap}
local macro_rules | `(tactic| walk_at "cl") => `(tactic| first | (refine le_only ?_; omega) | (refine lt_only ?_; omega))
theorem ok_u_turns_both_ways (T : Txt K mg) (D : DefAt K mg "_turns_both_ways" s_u_turns_both_ways ["table", "colours"]) : Cal P w K mg base CX0 "_turns_both_ways" 1 ["table", "colours"] (spBoth K) := by
  refine D.cal sc_u_turns_both_ways (fun vs H Q E h => ?_) (fun f cdv A outer s H vs Q E hr h => ?_)
  · obtain ⟨tv, cv, L, cs, rfl, _⟩ := h
    rfl
  · obtain ⟨tv, cv, L, cs, rfl, ht, hc, lt, l100, q⟩ := h
    refine ⟨_, (pss_cons (ps_setLc (i := 2) (own := [("colour", 3)]) (g := gName 3) rfl sc_u_turns_both_ways.nd rfl rfl (sw_true rfl rfl rfl (by decide +kernel)) (k_pi_tup (K := K) (pv 1)) (blkOk_by (by rfl)) (fun _ _ _ _ _ => (pg_name (i := 3) sc_u_turns_both_ways.nd rfl (Or.inl rfl))) (fun _ _ _ _ _ => pts_nil) (fun _ _ _ _ _ => (pe_ix (k_ix_tup (K := K)) (pe_ix (k_ix_tup (K := K)) (pe_ix (k_ix_tup (K := K)) (pv 0) pe_int (fun _ _ => rfl)) (pv 3) (fun _ _ => rfl)) pe_int (fun _ _ => rfl))))
      (pss_one (ps_ret (pe_and (pe_cmpR op_in_seq (pe_gint (by rfl) T.right) (pv 2) (by rfl)) (pe_one (pe_cmpR op_in_seq (pe_gint (by rfl) T.left) (pv 2) (by rfl))))))), ?_⟩
    obtain ⟨a, b, ws, rfl, ha, hb, lw, hws⟩ := tab1 ht
    obtain ⟨e, us, rfl, he, hus⟩ := hc.tupI
    have eus := ints_tp hus
    subst eus
    have lu : (cs.map fun k : Nat => V.int (k : Int)).length = cs.length := List.length_map _
    walk_at "st"
    intro M nM
    refine lc_tup (K := K) (a := e) (xs := cs.map fun k : Nat => V.int (k : Int)) (fun j H2 => Ok (Same H H2 ∧ H2 M = some (.lst (((cs.take j).map (tuOf L)).map V.int)))) ⟨Same.new nM, upd_same⟩ (fun j H2 _ ⟨s2, _⟩ => TK.seqT (Same.tk s2) he) ?_ ?_
    · rintro j y H2 hy ⟨s2, hM⟩
      have hj : j < cs.length := by
        have z := (List.getElem?_eq_some_iff.mp hy).1
        omega
      obtain rfl : y = .int (cs[j] : Nat) := by
        rw [List.getElem?_map, List.getElem?_eq_getElem hj] at hy
        exact (Option.some.inj hy).symm
      have htk := take_more (List.getElem?_eq_getElem hj)
      have lk := lt _ (List.getElem_mem hj)
      have ex : tuOf L cs[j] = (L[cs[j]]).2 := by
        unfold tuOf
        rw [List.getElem?_eq_getElem lk]
        rfl
      obtain ⟨u, eu, hu⟩ := hws.get (i := cs[j]) (d := entD (some (L[cs[j]].1, L[cs[j]].2, 0))) (by rw [List.getElem?_map, tRow_at lk]; rfl)
      obtain ⟨b3, rfl, hb3⟩ := (show Tp K H u (.tuple [.int L[cs[j]].1, .int L[cs[j]].2, .int 0]) from hu).int3
      generalize hk : cs[j] = k at *
      generalize L[k].1 = p1 at *
      generalize L[k].2 = p2 at *
      have ha2 := TK.seqT (Same.tk s2) ha
      have hb2 := TK.seqT (Same.tk s2) hb
      have hb32 := TK.seqT (Same.tk s2) hb3
      have hat : atI ws (k : Int) = some (.ref b3) := atI_nat eu
      have hsz : (((cs.take j).map (tuOf L)).map V.int).length < sizeLine := by
        rw [List.length_map, List.length_map, List.length_take]
        exact small1000 (by omega)
      walk_at "st"
      refine ⟨Same.fresh s2 nM, ?_⟩
      rw [upd_same, htk, List.map_append, List.map_append, show [k].map (tuOf L) = [p2] from congrArg (fun x => [x]) ex]
      rfl
    · rintro H2 ⟨s2, hM⟩
      rw [lu, List.take_length] at hM
      have q := q H2 s2
      have hSM := SqL.of (K := K) hM
      have hSS : SqL K H2 M ((cs.map (tuOf L)).map V.int) ∨ SqT K H2 M ((cs.map (tuOf L)).map V.int) := .inl hSM
      have hfl : ((cs.map (tuOf L)).map V.int).all flatV = true := flat_intsV
      rw [← inV_int, ← inV_int] at q
      walk_at "st"
      rw [show (if false = true then !inV (V.int 1) (List.map V.int (List.map (tuOf L) cs)) else inV (V.int 1) (List.map V.int (List.map (tuOf L) cs))) = inV (V.int 1) (List.map V.int (List.map (tuOf L) cs)) from rfl]
      refine ite2 (fun e1 => ?_) (fun e1 => ?_)
      · rw [e1, Bool.true_and] at q
        walk_at "st"
        exact q
      · rw [Bool.eq_false_iff.mpr e1, Bool.false_and] at q
        exact q
end

/-! ### a turning table is no other -/
def rNoneIn (K : PySem.W.Frag) : R2 := fun x y H Q => ∃ ds, x = .non ∧ Dp K H y (.tuple ds) ∧ SeqAt.shaped (.tuple ds) = true ∧ Q (.bl (ds.any fun z => PyData.eqv z .none)) H
theorem op_noneIn {X : Cx} (hu : X.A.units + 65 < cLine) : OpR X (compareOp .In) (rNoneIn X.K) := by
  intro pins s σ H x y v u Q I rx ry h
  obtain ⟨ds, rfl, he, se, q⟩ := h
  obtain ⟨as, r1⟩ := Dp.reads I .none .non v .non rx
  obtain ⟨bs, r2⟩ := Dp.reads I (.tuple ds) y u he ry
  exact SeqAt.in_tuple_reads r2 r1 (SeqAt.canLay_of_shaped se) rfl (room_in_shaped (xs := ds) (d := .none) rfl hu) ⟨.bl _, H, I, rfl, q⟩
theorem k_noneIn {K : PySem.W.Frag} {X : Cx} (hu : X.A.units + 65 < cLine) (hK : X.K = K := by rfl) : OpR X (compareOp .In) (rNoneIn K) := hK ▸ op_noneIn hu
theorem k_sortedN {K : PySem.W.Frag} {X : Cx} (hK : X.K = K := by rfl) : CallR X (.builtin "sorted") (rSorted K) := hK ▸ cr_sorted
theorem k_notInF {K : PySem.W.Frag} {X : Cx} (hK : X.K = K := by rfl) : OpR X (compareOp .NotIn) (rIn K true) := hK ▸ op_notIn_seq
theorem hu65 {A : Around} {k : Nat} (hr : Room k A) : A.units + 65 < cLine := by have := hr.un; omega
structure TurnL (L : List Pt) : Prop where
  l2 : 2 ≤ L.length
  l6 : L.length ≤ 6
  tu : ∀ e ∈ L, e.2 = 1 ∨ e.2 = 3
  pm : (L.map (·.1)).Perm (rgI L.length)
theorem mem_rgI {c : Nat} {x : Int} : x ∈ rgI c ↔ 0 ≤ x ∧ x < c := by
  unfold rgI
  rw [List.mem_map]
  constructor
  · rintro ⟨k, hk, rfl⟩
    have := List.mem_range.mp hk
    omega
  · rintro ⟨h0, h1⟩
    exact ⟨x.toNat, List.mem_range.mpr (by omega), by omega⟩
theorem TurnL.pa {L : List Pt} (h : TurnL L) {e : Pt} (he : e ∈ L) : 0 ≤ e.1 ∧ e.1 < L.length :=
  mem_rgI.mp (h.pm.mem_iff.mp (List.mem_map_of_mem he))
theorem TurnL.good {L : List Pt} (h : TurnL L) : tabB [tRow L] = true := by
  have ll : (tRow L).length = L.length := List.length_map _
  have l2 := h.l2
  have l6 := h.l6
  show (decide (([tRow L] : List (List Ent)).length ≤ 10) && ((([tRow L] : List (List Ent)).all fun r => decide (r.length = (tRow L).length) && r.all (entB r.length ([tRow L] : List (List Ent)).length)) && (decide (2 ≤ (tRow L).length) && decide ((tRow L).length ≤ 6)))) = true
  rw [List.all_cons, List.all_nil, ll]
  have e : (tRow L).all (entB (L.length : Nat) (([tRow L] : List (List Ent)).length : Nat)) = true := by
    unfold tRow
    rw [List.all_map, List.all_eq_true]
    intro x hx
    have p := h.pa hx
    have t := h.tu x hx
    show ((decide (0 ≤ x.1) && decide (x.1 ≤ (L.length : Int) - 1)) && ((decide (0 ≤ x.2) && decide (x.2 ≤ 3)) && (decide ((0 : Int) ≤ 0) && decide ((0 : Int) ≤ (1 : Nat) - 1)))) = true
    rw [decide_eq_true p.1, decide_eq_true (by omega : x.1 ≤ (L.length : Int) - 1), decide_eq_true (by omega : 0 ≤ x.2), decide_eq_true (by omega : x.2 ≤ 3)]
    rfl
  rw [e, decide_eq_true l2, decide_eq_true l6]
  simp
theorem shp_row {L : List Pt} : SeqAt.shaped (.tuple ((tRow L).map entD)) = true := by
  refine (flatT.shp (n := 3) ?_ (by decide)).1
  intro d hd
  unfold tRow at hd
  rw [List.map_map] at hd
  obtain ⟨e, _, rfl⟩ := List.mem_map.mp hd
  intro x hx
  rcases List.mem_cons.mp hx with rfl | hx
  · trivial
  rcases List.mem_cons.mp hx with rfl | hx
  · trivial
  rw [List.mem_singleton.mp hx]
  trivial
theorem no_none {L : List Pt} : (((tRow L).map entD).any fun z => PyData.eqv z .none) = false := by
  rw [List.any_eq_false]
  intro d hd
  unfold tRow at hd
  rw [List.map_map] at hd
  obtain ⟨e, _, rfl⟩ := List.mem_map.mp hd
  show ¬ PyData.eqv (.tuple [.int e.1, .int e.2, .int 0]) .none = true
  simp [PyData.eqv]
theorem rg_sorted (c : Nat) : (rgI c).Pairwise (· ≤ ·) := by
  unfold rgI
  rw [List.pairwise_map]
  exact (List.pairwise_lt_range (n := c)).imp fun {a b} h => by omega
theorem sorted_rg {ns : List Int} {c : Nat} (pm : ns.Perm (rgI c)) (so : ns.Pairwise (· ≤ ·)) : ns = rgI c :=
  pm.eq_of_pairwise (fun a b _ _ h1 h2 => Int.le_antisymm h1 h2) so (rg_sorted c)
theorem rgV_rgI {n c : Nat} (h : n = c) : rgV 0 (n : Int) = (rgI c).map V.int := by
  subst h
  unfold rgV rgI
  rw [List.map_map, show ((n : Int) - 0).toNat = n by omega]
  refine List.map_congr_left fun i _ => ?_
  show V.int (0 + (i : Int)) = V.int (i : Int)
  rw [Int.zero_add]
theorem dp_ints {K : PySem.W.Frag} {H : Hp} : ∀ l : List Int, DpAll K H (l.map V.int) (l.map PyData.int)
  | [] => .nil
  | i :: l => .cons (.int i) (dp_ints l)
theorem shp_ints {l : List Int} : SeqAt.shaped (.list (l.map PyData.int)) = true ∧ PyData.eqv (.list (l.map PyData.int)) (.list (l.map PyData.int)) = true := by
  have h1 : PyData.canLay0 (.list (l.map PyData.int)) = true := by
    simp only [PyData.canLay0]
    exact layAll fun d hd => by
      obtain ⟨k, _, rfl⟩ := List.mem_map.mp hd
      simp [PyData.canLay0]
  have h2 : PyData.depth (.list (l.map PyData.int)) ≤ 64 := by
    have := depAll (n := 1) (ds := l.map PyData.int) fun d hd => by
      obtain ⟨k, _, rfl⟩ := List.mem_map.mp hd
      simp [PyData.depth]
    simp only [PyData.depth]
    omega
  refine ⟨?_, SeqAt.eqv_refl_plain _ (PyData.plain_of_canLay0 _ h1)⟩
  unfold SeqAt.shaped
  rw [h1, decide_eq_true h2]
  rfl
def spCheckTu (K : PySem.W.Frag) : Sp := fun vs H Q _ => ∃ (tv : V) (L : List Pt), vs = [tv] ∧ Tp K H tv (tabD [tRow L]) ∧ TurnL L ∧ ∀ H', Same H H' → Q .non H'
section
variable {P : Program} {w : World} {K : PySem.W.Frag} {mg : Str → Option Value} {base : Heap}
local macro_rules | `(tactic| walk_at "cl") => `(tactic| first | (refine le_only ?_; omega) | (refine lt_only ?_; omega))
theorem ok_u_check_turning (T : Txt K mg) (D : DefAt K mg "_check_turning" s_u_check_turning ["table"]) (C_check_table : Cal P w K mg base CX0 "check_table" 4 ["value"] (spCheckT K)) : Cal P w K mg base CX0 "_check_turning" 5 ["table"] (spCheckTu K) := by
  refine D.cal sc_u_check_turning (fun vs H Q E h => ?_) (fun f cdv A outer s H vs Q E hr h => ?_)
  · obtain ⟨tv, L, rfl, _⟩ := h
    rfl
  · obtain ⟨tv, L, rfl, ht, hL, q⟩ := h
    refine ⟨_, (pss_cons (ps_expr (pe_own C_check_table hr (by first | decide | omega) (pa_cons (pv 0) pa_nil)))
      (pss_cons (ps_if (PW.pt (pw_or (pt_cmpR op_ne (pe_callB (k_len_t (K := K)) (by rfl) T.m_len (by decide +kernel) (pa_cons (pv 0) pa_nil)) pe_int (nomark _)) (pw_or1 (pt_cmpR (k_noneIn (K := K) (hu65 hr)) pe_non (pe_ix (k_ix_tup (K := K)) (pv 0) pe_int (fun _ _ => rfl)) (by rfl))))) (pss_one ps_never) pss_nil)
      (pss_cons (ps_if (pt_val (pe_callB (k_any (K := K) rfl) (by rfl) T.m_any (by decide +kernel) (pa_cons (pe_lc (own := [("_", 1), ("turn", 2)]) (g := gTup K 3 (gCons (gName 1) (gCons (gName 2) (gCons (gName 1) gNil)))) rfl sc_u_check_turning.nd (k_pi_tup (K := K) (pe_ix (k_ix_tup (K := K)) (pv 0) pe_int (fun _ _ => rfl))) (blkOk_by (by rfl)) (fun _ _ _ _ _ => (k_pgT (K := K) 3 (by rfl) (pgs_cons (pg_name (i := 1) sc_u_check_turning.nd rfl (Or.inl rfl)) (pgs_cons (pg_name (i := 2) sc_u_check_turning.nd rfl (Or.inl rfl)) (pgs_cons (pg_name (i := 1) sc_u_check_turning.nd rfl (Or.inl rfl)) pgs_nil))))) (fun _ _ _ _ _ => pts_nil) (fun _ _ _ _ _ => (pe_cmpR (k_notInF (K := K)) (pv 2) (pe_tup (pa_cons (pe_gint (by rfl) T.right) (pa_cons (pe_gint (by rfl) T.left) pa_nil))) (by rfl)))) pa_nil))) (pss_one ps_never) pss_nil)
      (pss_one (ps_if (pt_cmpR (k_neD (K := K) hr.units) (pe_callB (k_sortedN (K := K)) (by rfl) T.m_sorted (by decide +kernel) (pa_cons (pe_lc (own := [("paint", 3), ("_", 1)]) (g := gTup K 3 (gCons (gName 3) (gCons (gName 1) (gCons (gName 1) gNil)))) rfl sc_u_check_turning.nd (k_pi_tup (K := K) (pe_ix (k_ix_tup (K := K)) (pv 0) pe_int (fun _ _ => rfl))) (blkOk_by (by rfl)) (fun _ _ _ _ _ => (k_pgT (K := K) 3 (by rfl) (pgs_cons (pg_name (i := 3) sc_u_check_turning.nd rfl (Or.inl rfl)) (pgs_cons (pg_name (i := 1) sc_u_check_turning.nd rfl (Or.inl rfl)) (pgs_cons (pg_name (i := 1) sc_u_check_turning.nd rfl (Or.inl rfl)) pgs_nil))))) (fun _ _ _ _ _ => pts_nil) (fun _ _ _ _ _ => (pv 3))) pa_nil)) (pe_listRg rfl (by rfl) T.m_list (prg_1 (by rfl) T.m_range (pe_callB (k_len_t (K := K)) (by rfl) T.m_len (by decide +kernel) (pa_cons (pe_ix (k_ix_tup (K := K)) (pv 0) pe_int (fun _ _ => rfl)) pa_nil)))) (nomark _)) (pss_one ps_never) pss_nil))))), ?_⟩
    have good := hL.good
    walk_at "st"
    intro H1 s1
    have ht1 := Tp.mono (Same.tk s1) _ _ ht
    obtain ⟨a, b, ws, rfl, ha, hb, lw, hws⟩ := tab1 ht1
    have hD : Dp K H1 (.ref b) (.tuple ((tRow L).map entD)) := .tup hb (TpAll.dp _ _ hws)
    have hS := shp_row (L := L)
    walk_at "st"
    rw [no_none]
    walk_at "st"
    intro M nM
    refine lc_tup (K := K) (a := b) (xs := ws) (fun j H2 => Ok (Same H1 H2 ∧ H2 M = some (.lst ((List.replicate j false).map V.bl)))) ⟨Same.new nM, upd_same⟩ (fun j H2 _ ⟨s2, _⟩ => TK.seqT (Same.tk s2) hb) ?_ ?_
    · rintro j y H2 hy ⟨s2, hM⟩
      have hj : j < L.length := by
        have z := (List.getElem?_eq_some_iff.mp hy).1
        omega
      have htu := hL.tu _ (List.getElem_mem hj)
      obtain ⟨u, eu, hu⟩ := hws.get (i := j) (d := entD (some (L[j].1, L[j].2, 0))) (by rw [List.getElem?_map, tRow_at hj]; rfl)
      rw [hy] at eu
      cases eu
      obtain ⟨b3, rfl, hb3⟩ := (show Tp K H1 y (.tuple [.int L[j].1, .int L[j].2, .int 0]) from hu).int3
      generalize L[j].1 = p1 at *
      generalize L[j].2 = p2 at *
      have hb32 := TK.seqT (Same.tk s2) hb3
      have hsz : ((List.replicate j false).map V.bl).length < sizeLine := by
        rw [List.length_map, List.length_replicate]
        exact small1000 (by have := hL.l6; omega)
      walk_at "st"
      intro p np
      have s3 : Same H2 (upd H2 p (.tup [.int 1, .int 3])) := Same.new np
      have hM3 := s3 _ _ hM
      refine ⟨p, [.int 1, .int 3], rfl, .inr (SqT.of upd_same), rfl, rfl, ?_⟩
      have ev : (if true = true then !inV (V.int p2) [V.int 1, V.int 3] else inV (V.int p2) [V.int 1, V.int 3]) = false := by
        rcases htu with rfl | rfl <;> rfl
      rw [ev]
      refine ⟨_, hM3, hsz, Same.fresh (Same.trans s2 s3) nM, ?_⟩
      rw [upd_same, List.replicate_succ', List.map_append]
      rfl
    · rintro H2 ⟨s2, hM⟩
      have s12 := Same.trans s1 s2
      have ha2 := TK.seqT (Same.tk s2) ha
      have hb2 := TK.seqT (Same.tk s2) hb
      have hws2 := TpAll.mono (Same.tk s2) _ _ hws
      rw [lw] at hM
      have hSM := SqL.of (K := K) hM
      walk_at "st"
      have eAny : ((List.replicate L.length false).any id) = false := by
        rw [List.any_eq_false]
        intro x hx
        rw [List.eq_of_mem_replicate hx]
        exact Bool.false_ne_true
      rw [eAny]
      walk_at "st"
      intro M2 nM2
      refine lc_tup (K := K) (a := b) (xs := ws) (fun j H3 => Ok (Same H2 H3 ∧ H3 M2 = some (.lst (((L.take j).map (·.1)).map V.int)))) ⟨Same.new nM2, upd_same⟩ (fun j H3 _ ⟨s3, _⟩ => TK.seqT (Same.tk s3) hb2) ?_ ?_
      · rintro j y H3 hy ⟨s3, hM2⟩
        have hj : j < L.length := by
          have z := (List.getElem?_eq_some_iff.mp hy).1
          omega
        have htk := take_more (List.getElem?_eq_getElem hj)
        obtain ⟨u, eu, hu⟩ := hws2.get (i := j) (d := entD (some (L[j].1, L[j].2, 0))) (by rw [List.getElem?_map, tRow_at hj]; rfl)
        rw [hy] at eu
        cases eu
        obtain ⟨b3, rfl, hb3⟩ := (show Tp K H2 y (.tuple [.int L[j].1, .int L[j].2, .int 0]) from hu).int3
        have hb33 := TK.seqT (Same.tk s3) hb3
        have hsz : (((L.take j).map (·.1)).map V.int).length < sizeLine := by
          rw [List.length_map, List.length_map, List.length_take]
          exact small1000 (by have := hL.l6; omega)
        walk_at "st"
        refine ⟨Same.fresh s3 nM2, ?_⟩
        rw [upd_same, htk, List.map_append, List.map_append]
        rfl
      · rintro H3 ⟨s3, hM2⟩
        rw [lw, List.take_length] at hM2
        have hb3 := TK.seqT (Same.tk s3) hb2
        have ha3 := TK.seqT (Same.tk s3) ha2
        have hSM2 := SqL.of (K := K) hM2
        walk_at "st"
        refine ⟨by rw [List.length_map]; have := hL.l6; omega, fun ns p pm so np => ?_⟩
        have ens : ns = rgI L.length := sorted_rg (pm.trans hL.pm) so
        subst ens
        have sp : Same H3 (upd H3 p (.lst ((rgI L.length).map V.int))) := Same.new np
        have ha4 := TK.seqT (Same.tk sp) ha3
        have hb4 := TK.seqT (Same.tk sp) hb3
        walk_at "st"
        refine ⟨RgOk.of_le (by omega) (by have := hL.l6; omega) (by omega) (by omega), fun l nl => ?_⟩
        have e0 : rgV 0 (ws.length : Int) = (rgI L.length).map V.int := rgV_rgI lw
        rw [e0]
        have nlp : p ≠ l := ne_of_none upd_same nl
        have hp5 : (upd (upd H3 p (.lst ((rgI L.length).map V.int))) l (.lst ((rgI L.length).map V.int))) p = some (.lst ((rgI L.length).map V.int)) := by rw [upd_ne nlp]; exact upd_same
        refine ⟨.list ((rgI L.length).map PyData.int), .list ((rgI L.length).map PyData.int), .lst (SqL.of hp5) (dp_ints _), .lst (SqL.of upd_same) (dp_ints _), shp_ints.1, shp_ints.1, ?_⟩
        rw [shp_ints.2]
        walk_at "st"
        exact q _ (Same.trans s12 (Same.trans s3 (Same.trans sp (Same.new nl))))
end

/-! ### the rounds of a turning table -/
def paN (L : List Pt) (k : Nat) : Nat := (paOf L k).toNat
def itN (L : List Pt) : Nat → Nat → Nat
  | 0, k => k
  | n + 1, k => paN L (itN L n k)
def nV (l : List Nat) : List V := l.map fun k : Nat => V.int (k : Int)
def rnD (R : List Nat) : PyData := .tuple (R.map fun k : Nat => PyData.int (k : Int))
structure RoundsOk (L : List Pt) (Rs : List (List Nat)) : Prop where
  len : Rs.length ≤ 6
  lt : ∀ R ∈ Rs, R.length ≤ 6 ∧ ∀ k ∈ R, k < L.length
  all : ∀ k, k < L.length → ∃ R ∈ Rs, k ∈ R
  orb : ∀ R ∈ Rs, ∃ s, s < L.length ∧ ∀ k ∈ R, ∃ i, k = itN L i s
theorem inV_nat {k : Nat} {l : List Nat} : inV (.int (k : Int)) (nV l) = decide (k ∈ l) := by
  unfold inV nV
  rw [List.any_map, Bool.eq_iff_iff, List.any_eq_true, decide_eq_true_eq]
  constructor
  · rintro ⟨y, hy, e⟩
    have e : ((y : Int) == (k : Int)) = true := e
    have e := eq_of_beq e
    rw [show k = y by omega]
    exact hy
  · intro h
    exact ⟨k, h, by show ((k : Int) == (k : Int)) = true; exact beq_self_eq_true _⟩
theorem flat_nats {l : List Nat} : (nV l).all flatV = true := List.all_eq_true.mpr fun v hv => by
  obtain ⟨k, _, e⟩ := List.mem_map.mp hv
  rw [← e]
  rfl
theorem TurnL.paN_lt {L : List Pt} (h : TurnL L) {k : Nat} (hk : k < L.length) : paN L k < L.length ∧ (L[k]).1 = (paN L k : Int) := by
  have p := h.pa (List.getElem_mem hk)
  have e : paOf L k = (L[k]).1 := by
    unfold paOf
    rw [List.getElem?_eq_getElem hk]
    rfl
  unfold paN
  rw [e]
  omega
theorem TurnL.it_lt {L : List Pt} (h : TurnL L) {k : Nat} (hk : k < L.length) : ∀ n, itN L n k < L.length
  | 0 => hk
  | n + 1 => (h.paN_lt (h.it_lt hk n)).1
theorem nat_ints_tp {K : PySem.W.Frag} {H : Hp} : ∀ l : List Nat, TpAll K H (nV l) (l.map fun k : Nat => PyData.int (k : Int))
  | [] => .nil
  | i :: l => .cons (.int i) (nat_ints_tp l)
theorem nodup_few {l : List Nat} {c : Nat} (nd : l.Nodup) (lt : ∀ k ∈ l, k < c) : l.length ≤ c := by
  have key : ∀ (c : Nat) (l : List Nat), l.Nodup → (∀ k ∈ l, k < c) → l.length ≤ c := by
    intro c
    induction c with
    | zero =>
      intro l _ lt
      cases l with
      | nil => exact Nat.le_refl _
      | cons a l => exact absurd (lt a List.mem_cons_self) (Nat.not_lt_zero _)
    | succ c ih =>
      intro l nd lt
      have h1 := ih (l.erase c) (nd.erase c) fun k hk => by
        have hk' := (nd.mem_erase_iff).mp hk
        have := lt k hk'.2
        have := hk'.1
        omega
      have h2 : l.length ≤ (l.erase c).length + 1 := by
        rw [List.length_erase]
        split <;> omega
      omega
  exact key c l nd lt
theorem TurnL.inj {L : List Pt} (h : TurnL L) {j k : Nat} (hj : j < L.length) (hk : k < L.length) (e : paN L j = paN L k) : j = k := by
  have nd : (L.map (·.1)).Nodup := h.pm.nodup_iff.mpr (by
    have := rg_sorted L.length
    unfold rgI
    exact List.pairwise_map.mpr ((List.nodup_range (n := L.length)).imp fun {a b} n z => n (by omega)))
  have q := List.pairwise_iff_getElem.mp nd
  have e1 := (h.paN_lt hj).2
  have e2 := (h.paN_lt hk).2
  rcases Nat.lt_trichotomy j k with z | z | z
  · have := q j k (by rw [List.length_map]; exact hj) (by rw [List.length_map]; exact hk) z
    rw [List.getElem_map, List.getElem_map, e1, e2, e] at this
    exact absurd rfl this
  · exact z
  · have := q k j (by rw [List.length_map]; exact hk) (by rw [List.length_map]; exact hj) z
    rw [List.getElem_map, List.getElem_map, e1, e2, e] at this
    exact absurd rfl this
/-- the round of s: its firsts, all unlike, up to where it comes again -/
structure IsCyc (L : List Pt) (s : Nat) (l : List Nat) : Prop where
  fst : l = (List.range l.length).map fun j => itN L j s
  ne : l ≠ []
  nd : l.Nodup
  back : itN L l.length s ∈ l
theorem IsCyc.at {L : List Pt} {s : Nat} {l : List Nat} (h : IsCyc L s l) {j : Nat} (lt : j < l.length) : l[j] = itN L j s := by
  have q : l[j]? = some (itN L j s) := by
    rw [h.fst, List.getElem?_map, List.getElem?_range lt]
    rfl
  rw [List.getElem?_eq_getElem lt] at q
  exact Option.some.inj q
theorem IsCyc.mem {L : List Pt} {s : Nat} {l : List Nat} (h : IsCyc L s l) {j : Nat} (lt : j < l.length) : itN L j s ∈ l := by
  rw [← h.at lt]
  exact List.getElem_mem lt
theorem IsCyc.pos {L : List Pt} {s : Nat} {l : List Nat} (h : IsCyc L s l) : 0 < l.length := List.length_pos_iff.mpr h.ne
theorem IsCyc.of_mem {L : List Pt} {s x : Nat} {l : List Nat} (h : IsCyc L s l) (hx : x ∈ l) : ∃ j, j < l.length ∧ x = itN L j s := by
  obtain ⟨j, lt, e⟩ := List.getElem_of_mem hx
  exact ⟨j, lt, by rw [← e, h.at lt]⟩
theorem IsCyc.uniq {L : List Pt} {s : Nat} {l l' : List Nat} (h : IsCyc L s l) (h' : IsCyc L s l') : l = l' := by
  have key : ∀ {l l' : List Nat}, IsCyc L s l → IsCyc L s l' → ¬ l.length < l'.length := fun {l l'} h h' lt => by
    obtain ⟨j, lj, e⟩ := h.of_mem h.back
    have e1 : l'[l.length] = l'[j]'(by omega) := by rw [h'.at lt, h'.at (by omega : j < l'.length), e]
    have := (List.getElem_inj h'.nd).mp e1
    omega
  have e : l.length = l'.length := by
    have := key h h'
    have := key h' h
    omega
  rw [h.fst, h'.fst, e]
/-- the round closes at its beginning -/
theorem IsCyc.closes {L : List Pt} (hL : TurnL L) {s : Nat} (hs : s < L.length) {l : List Nat} (h : IsCyc L s l) : itN L l.length s = s := by
  obtain ⟨j, lj, e⟩ := h.of_mem h.back
  cases j with
  | zero => exact e
  | succ j =>
    exfalso
    obtain ⟨m, hm⟩ : ∃ m, l.length = m + 1 := ⟨l.length - 1, by omega⟩
    rw [hm] at e
    have e2 : itN L m s = itN L j s := hL.inj (hL.it_lt hs m) (hL.it_lt hs j) e
    have e3 : l[m]'(by omega) = l[j]'(by omega) := by rw [h.at (by omega : m < l.length), h.at (by omega : j < l.length), e2]
    have := (List.getElem_inj h.nd).mp e3
    omega
/-- the rounds, colour by colour -/
inductive Rnd (L : List Pt) : Nat → List (List Nat) → Prop
  | nil : Rnd L 0 []
  | old {k : Nat} {Rs : List (List Nat)} : Rnd L k Rs → k ∈ Rs.flatten → Rnd L (k + 1) Rs
  | new {k : Nat} {Rs : List (List Nat)} {l : List Nat} : Rnd L k Rs → k ∉ Rs.flatten → IsCyc L k l → Rnd L (k + 1) (Rs ++ [l])
theorem Rnd.uniq {L : List Pt} : ∀ {k : Nat} {Rs Rs' : List (List Nat)}, Rnd L k Rs → Rnd L k Rs' → Rs = Rs'
  | 0, _, _, .nil, .nil => rfl
  | k + 1, _, _, .old h m, .old h' _ => h.uniq h'
  | k + 1, _, _, .old h m, .new h' n _ => by
    rw [h.uniq h'] at m
    exact absurd m n
  | k + 1, _, _, .new h n _, .old h' m => by
    rw [h.uniq h'] at n
    exact absurd m n
  | k + 1, _, _, .new h n c, .new h' _ c' => by rw [h.uniq h', c.uniq c']
theorem Rnd.cyc {L : List Pt} : ∀ {k : Nat} {Rs : List (List Nat)}, Rnd L k Rs → ∀ l ∈ Rs, ∃ s, s < k ∧ IsCyc L s l
  | _, _, .nil, l, hl => absurd hl List.not_mem_nil
  | _, _, .old h _, l, hl => by
    obtain ⟨s, h1, h2⟩ := h.cyc l hl
    exact ⟨s, by omega, h2⟩
  | _, _, .new (k := k) h _ c, l, hl => by
    rcases List.mem_append.mp hl with hl | hl
    · obtain ⟨s, h1, h2⟩ := h.cyc l hl
      exact ⟨s, by omega, h2⟩
    · rw [List.mem_singleton.mp hl]
      exact ⟨k, Nat.lt_succ_self _, c⟩
/-- what leads to a round lies on it -/
theorem Rnd.closed {L : List Pt} (hL : TurnL L) {k : Nat} {Rs : List (List Nat)} (h : Rnd L k Rs) (hk : k ≤ L.length) {y : Nat} (hy : y < L.length) (m : paN L y ∈ Rs.flatten) : y ∈ Rs.flatten := by
  obtain ⟨l, hl, hm⟩ := List.mem_flatten.mp m
  obtain ⟨s, hs, c⟩ := h.cyc l hl
  obtain ⟨j, lj, e⟩ := c.of_mem hm
  have hsL : s < L.length := by omega
  refine List.mem_flatten.mpr ⟨l, hl, ?_⟩
  cases j with
  | zero =>
    obtain ⟨n, hn⟩ : ∃ n, l.length = n + 1 := ⟨l.length - 1, by omega⟩
    have e2 := c.closes hL hsL
    rw [hn] at e2
    have e3 : y = itN L n s := hL.inj hy (hL.it_lt hsL n) (by rw [e]; exact e2.symm)
    rw [e3]
    exact c.mem (by omega)
  | succ j =>
    have e3 : y = itN L j s := hL.inj hy (hL.it_lt hsL j) e
    rw [e3]
    exact c.mem (by omega)
/-- where the next comes upon a known one or one of the round, it is the round's -/
theorem cyc_of {L : List Pt} (hL : TurnL L) {k : Nat} {Rs : List (List Nat)} (h : Rnd L k Rs) (hk : k < L.length) {cs : List Nat} (f : cs = (List.range cs.length).map fun j => itN L j k) (ne : cs ≠ []) (nd : (Rs.flatten ++ cs).Nodup) (m : itN L cs.length k ∈ Rs.flatten ++ cs) : k ∉ Rs.flatten ∧ IsCyc L k cs := by
  have nd' := List.nodup_append.mp nd
  have at0 : ∀ j, j < cs.length → itN L j k ∈ cs := fun j lj => by
    rw [f]
    exact List.mem_map.mpr ⟨j, List.mem_range.mpr lj, rfl⟩
  have p := List.length_pos_iff.mpr ne
  have hn : k ∉ Rs.flatten := fun z => nd'.2.2 k z k (at0 0 p) rfl
  refine ⟨hn, f, ne, nd'.2.1, ?_⟩
  rcases List.mem_append.mp m with z | z
  · exfalso
    obtain ⟨n, hn⟩ : ∃ n, cs.length = n + 1 := ⟨cs.length - 1, by omega⟩
    rw [hn] at z
    have z2 := h.closed hL (Nat.le_of_lt hk) (hL.it_lt hk n) z
    exact nd'.2.2 _ z2 _ (at0 n (by omega)) rfl
  · exact z
/-- no colour lies on two rounds -/
theorem Rnd.flat {L : List Pt} (hL : TurnL L) : ∀ {k : Nat} {Rs : List (List Nat)}, Rnd L k Rs → k ≤ L.length → Rs.flatten.Nodup ∧ (∀ x ∈ Rs.flatten, x < L.length) ∧ Rs.length ≤ k
  | _, _, .nil, _ => ⟨List.nodup_nil, fun _ h => absurd h List.not_mem_nil, Nat.le_refl _⟩
  | _, _, .old h _, hk => by
    obtain ⟨a, b, c⟩ := h.flat hL (Nat.le_of_succ_le hk)
    exact ⟨a, b, Nat.le_succ_of_le c⟩
  | _, _, .new (k := k) (Rs := Rs) (l := l) h no c, hk => by
    obtain ⟨a, b, d⟩ := h.flat hL (Nat.le_of_succ_le hk)
    have apart : ∀ j, itN L j k ∉ Rs.flatten := fun j => by
      induction j with
      | zero => exact no
      | succ j ih => exact fun z => ih (h.closed hL (Nat.le_of_succ_le hk) (hL.it_lt hk j) z)
    rw [List.flatten_append, show [l].flatten = l by simp]
    refine ⟨List.nodup_append.mpr ⟨a, c.nd, fun x hx y hy e => ?_⟩, fun x hx => ?_, by rw [List.length_append]; show Rs.length + 1 ≤ k + 1; omega⟩
    · obtain ⟨j, _, rfl⟩ := c.of_mem hy
      exact apart j (by rw [← e]; exact hx)
    · rcases List.mem_append.mp hx with z | z
      · exact b x z
      · obtain ⟨j, _, rfl⟩ := c.of_mem z
        exact hL.it_lt hk j

def spRounds (K : PySem.W.Frag) : Sp := fun vs H Q _ => ∃ (tv : V) (L : List Pt), vs = [tv] ∧ Tp K H tv (tabD [tRow L]) ∧ TurnL L ∧ ∀ (v : V) (H' : Hp) (Rs : List (List Nat)), RoundsOk L Rs → Rnd L L.length Rs → Tp K H' v (.tuple (Rs.map rnD)) → Same H H' → Q v H'
section
variable {P : Program} {w : World} {K : PySem.W.Frag} {mg : Str → Option Value} {base : Heap}
local macro_rules | `(tactic| walk_at "cl") => `(tactic| first | (refine le_only ?_; omega) | (refine lt_only ?_; omega))
theorem ok_u_rounds (T : Txt K mg) (D : DefAt K mg "_rounds" s_u_rounds ["table"]) : Cal P w K mg base CX0 "_rounds" 1 ["table"] (spRounds K) := by
  refine D.cal sc_u_rounds (fun vs H Q E h => ?_) (fun f cdv A outer s H vs Q E hr h => ?_)
  · obtain ⟨tv, L, rfl, _⟩ := h
    rfl
  · obtain ⟨tv, L, rfl, ht, hL, q⟩ := h
    refine ⟨_, (pss_cons (ps_set (i := 1) sc_u_rounds.nd rfl (Or.inl rfl) (pe_lst pa_nil))
      (pss_cons (ps_set (i := 2) sc_u_rounds.nd rfl (Or.inl rfl) (pe_lst pa_nil))
      (pss_cons (ps_for PassesOwn.never rfl (pi_range1 (by rfl) T.m_range (pa_cons (pe_callB (k_len_t (K := K)) (by rfl) T.m_len (by decide +kernel) (pa_cons (pe_ix (k_ix_tup (K := K)) (pv 0) pe_int (fun _ _ => rfl)) pa_nil)) pa_nil)) (pg_name (i := 3) sc_u_rounds.nd rfl (Or.inl rfl))
      (pss_cons (ps_set (i := 4) sc_u_rounds.nd rfl (Or.inl rfl) (pe_lst pa_nil))
      (pss_cons (ps_set (i := 5) sc_u_rounds.nd rfl (Or.inl rfl) (pv 3))
      (pss_cons (ps_while PassesOwn.never (pt_cmpR (k_notInF (K := K)) (pv 5) (pv 2) (by rfl)) (pss_cons (ps_expr (pe_bm PySem.F.plainAttrs_list PySem.F.slot_list_append PySem.F.type_list_append mt_append (pv 4) (pa_cons (pv 5) pa_nil)))
      (pss_cons (ps_expr (pe_bm PySem.F.plainAttrs_list PySem.F.slot_list_append PySem.F.type_list_append mt_append (pv 2) (pa_cons (pv 5) pa_nil)))
      (pss_one (ps_set (i := 5) sc_u_rounds.nd rfl (Or.inl rfl) (pe_ix (k_ix_tup (K := K)) (pe_ix (k_ix_tup (K := K)) (pe_ix (k_ix_tup (K := K)) (pv 0) pe_int (fun _ _ => rfl)) (pv 5) (fun _ _ => rfl)) pe_int (fun _ _ => rfl)))))))
      (pss_one (ps_if (pt_truth (pv 4) (by intro _; rfl)) (pss_one (ps_expr (pe_bm PySem.F.plainAttrs_list PySem.F.slot_list_append PySem.F.type_list_append mt_append (pv 1) (pa_cons (pe_callTy (k_tuple_l (K := K)) (by rfl) T.m_tuple (by decide +kernel) (pa_cons (pv 4) pa_nil)) pa_nil)))) pss_nil))))))
      (pss_one (ps_ret (pe_callTy (k_tuple_l (K := K)) (by rfl) T.m_tuple (by decide +kernel) (pa_cons (pv 1) pa_nil))))))), ?_⟩
    obtain ⟨a, b, ws, rfl, ha, hb, lw, hws⟩ := tab1 ht
    have l6 := hL.l6
    walk_at "st"
    intro p np
    have s1 : Same H (upd H p (.lst [])) := Same.new np
    walk_at "st"
    intro kn nkn
    have s2 : Same H (upd (upd H p (.lst [])) kn (.lst [])) := Same.trans s1 (Same.new nkn)
    have nkp : p ≠ kn := ne_of_none upd_same nkn
    have nk0 : H kn = none := Same.back s1 nkn
    have hp2 : (upd (upd H p (.lst [])) kn (.lst [])) p = some (.lst []) := by rw [upd_ne nkp]; exact upd_same
    have hk2 : (upd (upd H p (.lst [])) kn (.lst [])) kn = some (.lst []) := upd_same
    have ha2 := TK.seqT (Same.tk s2) ha
    have hb2 := TK.seqT (Same.tk s2) hb
    generalize hH2 : upd (upd H p (.lst [])) kn (.lst []) = H2 at *
    walk_at "st"
    refine for_range (lo := 0) (n := ((ws.length : Nat) : Int).toNat) (fun i σ H' => Ok (∃ (y3 y4 y5 : Option V) (us : List V) (Rs : List (List Nat)) (ks : List Nat), σ = [some (.ref a), some (.ref p), some (.ref kn), y3, y4, y5] ∧
      H' p = some (.lst us) ∧ TpAll K H' us (Rs.map rnD) ∧ H' kn = some (.lst (nV ks)) ∧ ks.Nodup ∧ (∀ k ∈ ks, k < L.length) ∧ Rs.length ≤ i ∧
      (∀ R ∈ Rs, R.length ≤ 6 ∧ ∀ k ∈ R, k < L.length) ∧ (∀ k ∈ ks, ∃ R ∈ Rs, k ∈ R) ∧ (∀ k, k < i → k ∈ ks) ∧ (∀ R ∈ Rs, ∃ s, s < L.length ∧ ∀ k ∈ R, ∃ i, k = itN L i s) ∧ Same H H' ∧ ks = Rs.flatten ∧ Rnd L i Rs)) ?_ ?_ ?_
    · exact ⟨_, _, _, [], [], [], rfl, hp2, .nil, hk2, List.nodup_nil, fun _ h => absurd h List.not_mem_nil, Nat.zero_le _, fun _ h => absurd h List.not_mem_nil, fun _ h => absurd h List.not_mem_nil, fun _ h => absurd h (Nat.not_lt_zero _), fun _ h => absurd h List.not_mem_nil, s2, rfl, .nil⟩
    · rintro i σ H3 hi ⟨y3, y4, y5, us, Rs, ks, rfl, hp3, hus, hk3, nd, klt, lR, Rlt, Rall, kall, Rorb, s3, ekR, hR⟩
      have hiL : i < L.length := by omega
      walk_at "st"
      intro cl ncl
      have s4 : Same H3 (upd H3 cl (.lst [])) := Same.new ncl
      have hp4 := s4 _ _ hp3
      have hk4 := s4 _ _ hk3
      have hc4 : (upd H3 cl (.lst [])) cl = some (.lst (nV [])) := upd_same
      have hus4 := TpAll.mono (Same.tk s4) _ _ hus
      have s04 := Same.trans s3 s4
      have ncl0 : H cl = none := Same.back s3 ncl
      have ncp : p ≠ cl := ne_of_none hp3 ncl
      have nck : kn ≠ cl := ne_of_none hk3 ncl
      generalize hH4 : upd H3 cl (.lst []) = H4 at *
      walk_at "st"
      refine while_by (fun σ H' => ∃ cs : List Nat, σ = [some (.ref a), some (.ref p), some (.ref kn), some (.int (0 + (i : Int))), some (.ref cl), some (.int (itN L cs.length i : Nat))] ∧ H' p = some (.lst us) ∧ TpAll K H' us (Rs.map rnD) ∧ H' kn = some (.lst (nV (ks ++ cs))) ∧ H' cl = some (.lst (nV cs)) ∧ (ks ++ cs).Nodup ∧ (∀ k ∈ ks ++ cs, k < L.length) ∧ (∀ k ∈ cs, ∃ j, k = itN L j i) ∧ (cs ≠ [] → i ∈ cs) ∧ Same H H' ∧ TK H H' ∧ cs = (List.range cs.length).map fun j => itN L j i)
        (fun σ H' => match H' kn with | some (.lst vs) => L.length - vs.length | _ => 0) ?_ ?_ ?_
      · refine ⟨[], ?_, hp4, hus4, by rw [List.append_nil]; exact hk4, hc4, by rw [List.append_nil]; exact nd, by rw [List.append_nil]; exact klt, fun _ h => absurd h List.not_mem_nil, fun h => absurd rfl h, s04, Same.tk s04, rfl⟩
        show [some (V.ref a), some (V.ref p), some (V.ref kn), some (V.int (0 + (i : Int))), some (V.ref cl), some (V.int (0 + (i : Int)))] = _
        rw [show (0 + (i : Int)) = ((itN L ([] : List Nat).length i : Nat) : Int) from Int.zero_add _]
      · rintro σ H5 ⟨cs, rfl, hp5, hus5, hk5, hc5, nd5, lt5, orb5, ne5, s05, t05, fst5⟩
        have hSk : SqL K H5 kn (nV (ks ++ cs)) ∨ SqT K H5 kn (nV (ks ++ cs)) := .inl (SqL.of hk5)
        have hfl : (nV (ks ++ cs)).all flatV = true := flat_nats
        walk_at "st"
        refine ite2 (fun e => ?_) (fun e => ?_)
        · have e' : (!inV (.int ((itN L cs.length i : Nat) : Int)) (nV (ks ++ cs))) = true := e
          rw [inV_nat, Bool.not_eq_true', decide_eq_false_iff_not] at e'
          have ilt := hL.it_lt hiL cs.length
          have nd6 : ((ks ++ cs) ++ [itN L cs.length i]).Nodup := by
            rw [List.nodup_append]
            exact ⟨nd5, List.nodup_cons.mpr ⟨List.not_mem_nil, List.nodup_nil⟩, fun x hx y hy z => e' (by rw [← List.mem_singleton.mp hy, ← z]; exact hx)⟩
          have lt6 : ∀ k ∈ (ks ++ cs) ++ [itN L cs.length i], k < L.length := fun k hk => by
            rcases List.mem_append.mp hk with h | h
            · exact lt5 k h
            · rw [List.mem_singleton.mp h]; exact ilt
          have lcs : (ks ++ cs).length < L.length := by
            have z := nodup_few (c := L.length) nd6 lt6
            rw [List.length_append] at z
            exact z
          have lnk : (nV (ks ++ cs)).length = (ks ++ cs).length := List.length_map _
          have lnc : (nV cs).length = cs.length := List.length_map _
          have lap : (ks ++ cs).length = ks.length + cs.length := List.length_append
          have hz1 : (nV cs).length < sizeLine := small1000 (by omega)
          have hz2 : (nV (ks ++ cs)).length < sizeLine := small1000 (by omega)
          have hk6 : (upd H5 cl (.lst (nV cs ++ [V.int ((itN L cs.length i : Nat) : Int)]))) kn = some (.lst (nV (ks ++ cs))) := by rw [upd_ne nck]; exact hk5
          have t6 : TK H5 (upd H5 cl (.lst (nV cs ++ [V.int ((itN L cs.length i : Nat) : Int)]))) := TK.lst hc5
          have t7 : TK (upd H5 cl (.lst (nV cs ++ [V.int ((itN L cs.length i : Nat) : Int)]))) (upd (upd H5 cl (.lst (nV cs ++ [V.int ((itN L cs.length i : Nat) : Int)]))) kn (.lst (nV (ks ++ cs) ++ [V.int ((itN L cs.length i : Nat) : Int)]))) := TK.lst hk6
          have t57 := t6.trans t7
          have ha7 := TK.seqT (t05.trans t57) ha
          have hb7 := TK.seqT (t05.trans t57) hb
          obtain ⟨u, eu, hu⟩ := hws.get (i := itN L cs.length i) (d := entD (some (L[itN L cs.length i].1, L[itN L cs.length i].2, 0))) (by rw [List.getElem?_map, tRow_at ilt]; rfl)
          have hpn := (hL.paN_lt ilt).2
          obtain ⟨b3, rfl, hb3⟩ := (show Tp K H u (.tuple [.int L[itN L cs.length i].1, .int L[itN L cs.length i].2, .int 0]) from hu).int3
          have hb37 := TK.seqT (t05.trans t57) hb3
          have hat : atI ws ((itN L cs.length i : Nat) : Int) = some (.ref b3) := atI_nat eu
          have nkc : cl ≠ kn := nck.symm
          walk_at "st"
          refine ⟨⟨cs ++ [itN L cs.length i], ?_, by rw [upd_ne nkp, upd_ne ncp]; exact hp5, TpAll.mono t57 _ _ hus5, ?_, ?_, ?_, ?_, ?_, ?_, Same.fresh (Same.fresh s05 ncl0) nk0, t05.trans t57, ?_⟩, ?_⟩
          · rw [List.length_append, hpn]
            rfl
          · rw [upd_same, ← List.append_assoc]
            unfold nV
            simp only [List.map_append]
            rfl
          · rw [upd_ne nkc, upd_same]
            unfold nV
            rw [List.map_append]
            rfl
          · rw [← List.append_assoc]
            exact nd6
          · rw [← List.append_assoc]
            exact lt6
          · intro k hk
            rcases List.mem_append.mp hk with h | h
            · exact orb5 k h
            · exact ⟨_, List.mem_singleton.mp h⟩
          · intro _
            by_cases z : cs = []
            · subst z
              exact List.mem_append_right _ (List.mem_singleton.mpr rfl)
            · exact List.mem_append_left _ (ne5 z)
          · rw [List.length_append, show cs.length + [itN L cs.length i].length = cs.length + 1 from rfl, List.range_succ, List.map_append, ← fst5]
            rfl
          · rw [upd_same, hk5]
            show L.length - (nV (ks ++ cs) ++ [V.int ((itN L cs.length i : Nat) : Int)]).length < L.length - (nV (ks ++ cs)).length
            rw [List.length_append, lnk]
            show L.length - ((ks ++ cs).length + 1) < _
            omega
        · have e' : ¬ (!inV (.int ((itN L cs.length i : Nat) : Int)) (nV (ks ++ cs))) = true := e
          rw [inV_nat, Bool.not_eq_true', decide_eq_false_iff_not, Classical.not_not] at e'
          have hiks : i ∈ ks ++ cs := by
            by_cases z : cs = []
            · subst z
              exact e'
            · exact List.mem_append_right _ (ne5 z)
          have kall5 : ∀ k, k < i + 1 → k ∈ ks ++ cs := fun k hk => by
            rcases Nat.lt_or_ge k i with l | l
            · exact List.mem_append_left _ (kall k l)
            · rw [show k = i by omega]
              exact hiks
          have lall := nodup_few (c := L.length) nd5 lt5
          rw [List.length_append] at lall
          refine ⟨_, rfl, !(nV cs).isEmpty, .inl ⟨nV cs, SqL.of hc5, rfl⟩, ?_⟩
          by_cases z : cs = []
          · subst z
            refine ⟨_, _, _, us, Rs, ks ++ [], rfl, hp5, hus5, hk5, nd5, lt5, by omega, Rlt, ?_, kall5, Rorb, s05, by rw [List.append_nil]; exact ekR, .old hR ?_⟩
            · rw [List.append_nil]
              exact Rall
            · rw [List.append_nil] at hiks
              rw [← ekR]
              exact hiks
          · have ez : (!(nV cs).isEmpty) = true := by
              cases cs with
              | nil => exact absurd rfl z
              | cons x r => rfl
            rw [ez]
            have hSc := SqL.of (K := K) hc5
            have hz3 : us.length < sizeLine := by
              have z := TpAll.length hus5
              rw [List.length_map] at z
              exact small1000 (by omega)
            walk_at "st"
            intro l nl
            have s6 : Same H5 (upd H5 l (.tup (nV cs))) := Same.new nl
            have hp6 := s6 _ _ hp5
            have hk6 := s6 _ _ hk5
            walk_at "st"
            have t7 : TK (upd H5 l (.tup (nV cs))) (upd (upd H5 l (.tup (nV cs))) p (.lst (us ++ [.ref l]))) := TK.lst hp6
            refine ⟨_, _, _, us ++ [.ref l], Rs ++ [cs], ks ++ cs, rfl, upd_same, ?_, by rw [upd_ne nkp.symm]; exact hk6, nd5, lt5, ?_, ?_, ?_, kall5, ?_, Same.fresh (Same.trans s05 s6) np, by rw [List.flatten_append, ← ekR]; simp, ?_⟩
            · rw [List.map_append]
              exact TpAll.append (TpAll.mono ((Same.tk s6).trans t7) _ _ hus5) (.cons (.tup (t7.seqT (SqT.of upd_same)) (nat_ints_tp cs)) .nil)
            · rw [List.length_append]
              show Rs.length + 1 ≤ i + 1
              omega
            · intro R hR
              rcases List.mem_append.mp hR with h | h
              · exact Rlt R h
              · rw [List.mem_singleton.mp h]
                exact ⟨by omega, fun k hk => lt5 k (List.mem_append_right _ hk)⟩
            · intro k hk
              rcases List.mem_append.mp hk with h | h
              · obtain ⟨R, h1, h2⟩ := Rall k h
                exact ⟨R, List.mem_append_left _ h1, h2⟩
              · exact ⟨cs, List.mem_append_right _ (List.mem_singleton.mpr rfl), h⟩
            · intro R hR
              rcases List.mem_append.mp hR with h | h
              · exact Rorb R h
              · rw [List.mem_singleton.mp h]
                exact ⟨i, hiL, orb5⟩
            · have cc := cyc_of hL hR hiL fst5 z (by rw [← ekR]; exact nd5) (by rw [← ekR]; exact e')
              exact .new hR cc.1 cc.2
      · intro σ H Q Q' hq h
        obtain ⟨x, e1, y, e2, p, xs, e3, e4, e5, e6, k, e7, q⟩ := h
        exact ⟨x, e1, y, e2, p, xs, e3, e4, e5, e6, k, e7, hq _ _ q⟩
    · rintro σ H3 ⟨y3, y4, y5, us, Rs, ks, rfl, hp3, hus, hk3, nd, klt, lR, Rlt, Rall, kall, Rorb, s3, ekR, hR⟩
      walk_at "st"
      intro u nu
      have s4 : Same H3 (upd H3 u (.tup us)) := Same.new nu
      exact q _ _ Rs ⟨by omega, Rlt, fun k hk => Rall k (kall k (by omega)), Rorb⟩ (by rw [show ((ws.length : Nat) : Int).toNat = L.length by omega] at hR; exact hR) (.tup (SqT.of upd_same) (TpAll.mono (Same.tk s4) _ _ hus)) (Same.trans s3 s4)
end

/-! ### never within bounds -/
theorem itN_add {L : List Pt} (s : Nat) (j : Nat) : ∀ i, itN L (i + j) s = itN L i (itN L j s)
  | 0 => by rw [Nat.zero_add]; rfl
  | i + 1 => by
    rw [Nat.add_right_comm]
    show paN L (itN L (i + j) s) = paN L (itN L i (itN L j s))
    rw [itN_add s j i]
theorem TurnL.itInj {L : List Pt} (h : TurnL L) {x y : Nat} (hx : x < L.length) (hy : y < L.length) : ∀ i, itN L i x = itN L i y → x = y
  | 0, e => e
  | i + 1, e => h.itInj hx hy i (h.inj (h.it_lt hx i) (h.it_lt hy i) e)
theorem TurnL.back {L : List Pt} (h : TurnL L) {s : Nat} (hs : s < L.length) : ∃ p, 0 < p ∧ itN L p s = s := by
  by_cases nd : ((List.range (L.length + 1)).map fun i => itN L i s).Nodup
  · have z := nodup_few nd (c := L.length) fun k hk => by
      obtain ⟨i, _, rfl⟩ := List.mem_map.mp hk
      exact h.it_lt hs i
    rw [List.length_map, List.length_range] at z
    omega
  · have key : ¬ ∀ i j, i < j → j < L.length + 1 → itN L i s ≠ itN L j s := fun all => nd (by
      rw [List.Nodup, List.pairwise_map]
      refine List.pairwise_iff_getElem.mpr fun i j hi hj lt => ?_
      rw [List.getElem_range, List.getElem_range]
      rw [List.length_range] at hj
      exact all i j lt hj)
    have : ∃ i j, i < j ∧ itN L i s = itN L j s := Classical.byContradiction fun n => key fun i j lt _ e => n ⟨i, j, lt, e⟩
    obtain ⟨i, j, lt, e⟩ := this
    refine ⟨j - i, by omega, ?_⟩
    have e2 : itN L j s = itN L i (itN L (j - i) s) := by
      rw [← itN_add, show i + (j - i) = j by omega]
    rw [e2] at e
    exact (h.itInj hs (h.it_lt hs _) i e).symm
theorem itN_per {L : List Pt} {s p : Nat} (e : itN L p s = s) : ∀ m i, itN L (i + p * m) s = itN L i s
  | 0, i => by rw [Nat.mul_zero, Nat.add_zero]
  | m + 1, i => by
    rw [Nat.mul_succ, ← Nat.add_assoc, itN_add, e, itN_per e m i]
theorem TurnL.reach {L : List Pt} (h : TurnL L) {s i j : Nat} (hs : s < L.length) : ∃ n, itN L n (itN L j s) = itN L i s := by
  obtain ⟨p, p0, e⟩ := h.back hs
  refine ⟨i + p * j - j, ?_⟩
  have l : j ≤ p * j := Nat.le_mul_of_pos_left j p0
  rw [← itN_add, show i + p * j - j + j = i + p * j by omega, itN_per e j i]
def BothL (L : List Pt) : Prop := ∀ k, k < L.length → (∃ n, tuOf L (itN L n k) = 1) ∧ ∃ n, tuOf L (itN L n k) = 3
theorem both_of {L : List Pt} (h : TurnL L) {Rs : List (List Nat)} (ok : RoundsOk L Rs) (all : ∀ R ∈ Rs, (1 : Int) ∈ R.map (tuOf L) ∧ (3 : Int) ∈ R.map (tuOf L)) : BothL L := by
  intro k hk
  obtain ⟨R, hR, hkR⟩ := ok.all k hk
  obtain ⟨s, hs, orb⟩ := ok.orb R hR
  obtain ⟨j, rfl⟩ := orb k hkR
  have get : ∀ t : Int, t ∈ R.map (tuOf L) → ∃ n, tuOf L (itN L n (itN L j s)) = t := fun t ht => by
    obtain ⟨m, hm, rfl⟩ := List.mem_map.mp ht
    obtain ⟨i, rfl⟩ := orb m hm
    obtain ⟨n, e⟩ := h.reach (i := i) (j := j) hs
    exact ⟨n, by rw [e]⟩
  exact ⟨get 1 (all R hR).1, get 3 (all R hR).2⟩
def bothB (L : List Pt) (R : List Nat) : Bool := decide ((1 : Int) ∈ R.map (tuOf L)) && decide ((3 : Int) ∈ R.map (tuOf L))
def spNever (K : PySem.W.Frag) : Sp := fun vs H Q _ => ∃ (tv : V) (L : List Pt), vs = [tv] ∧ Tp K H tv (tabD [tRow L]) ∧ TurnL L ∧ ∀ (x : Bool) (H' : Hp) (Rs : List (List Nat)), RoundsOk L Rs → Rnd L L.length Rs → x = Rs.all (bothB L) → (x = true → BothL L) → Same H H' → Q (.bl x) H'
section
variable {P : Program} {w : World} {K : PySem.W.Frag} {mg : Str → Option Value} {base : Heap}
local macro_rules | `(tactic| walk_at "cl") => `(tactic| first | (refine le_only ?_; omega) | (refine lt_only ?_; omega))
theorem ok_never_bounded (T : Txt K mg) (D : DefAt K mg "never_bounded" s_never_bounded ["table"]) (C_check_turning : Cal P w K mg base CX0 "_check_turning" 5 ["table"] (spCheckTu K)) (C_rounds : Cal P w K mg base CX0 "_rounds" 1 ["table"] (spRounds K)) (C_turns_both_ways : Cal P w K mg base CX0 "_turns_both_ways" 1 ["table", "colours"] (spBoth K)) : Cal P w K mg base CX0 "never_bounded" 6 ["table"] (spNever K) := by
  refine D.cal sc_never_bounded (fun vs H Q E h => ?_) (fun f cdv A outer s H vs Q E hr h => ?_)
  · obtain ⟨tv, L, rfl, _⟩ := h
    rfl
  · obtain ⟨tv, L, rfl, ht, hL, q⟩ := h
    refine ⟨_, (pss_cons (ps_expr (pe_own C_check_turning hr (by first | decide | omega) (pa_cons (pv 0) pa_nil)))
      (pss_one (ps_ret (pe_callB (k_all (K := K) rfl) (by rfl) T.m_all (by decide +kernel) (pa_cons (pe_lc (own := [("colours", 1)]) (g := gName 1) rfl sc_never_bounded.nd (k_pi_tup (K := K) (pe_own C_rounds hr (by first | decide | omega) (pa_cons (pv 0) pa_nil))) (blkOk_by (by rfl)) (fun _ _ _ _ _ => (pg_name (i := 1) sc_never_bounded.nd rfl (Or.inl rfl))) (fun _ _ _ _ _ => pts_nil) (fun _ _ _ _ _ => (pe_own C_turns_both_ways hr (by first | decide | omega) (pa_cons (pv 0) (pa_cons (pv 1) pa_nil))))) pa_nil))))), ?_⟩
    walk_at "st"
    intro H1 s1
    have ht1 := Tp.mono (Same.tk s1) _ _ ht
    walk_at "st"
    intro v H2 Rs ok hRn hv s2
    have ht2 := Tp.mono (Same.tk s2) _ _ ht1
    obtain ⟨e, us, rfl, he, hus⟩ := hv.tupI
    have lus : us.length = Rs.length := by rw [TpAll.length hus, List.length_map]
    have l6 := ok.len
    walk_at "st"
    intro M nM
    let fB : List Nat → Bool := fun R => decide ((1 : Int) ∈ R.map (tuOf L)) && decide ((3 : Int) ∈ R.map (tuOf L))
    refine lc_tup (K := K) (a := e) (xs := us) (fun j H3 => Ok (Same H2 H3 ∧ H3 M = some (.lst (((Rs.take j).map fB).map V.bl)))) ⟨Same.new nM, upd_same⟩ (fun j H3 _ ⟨s3, _⟩ => TK.seqT (Same.tk s3) he) ?_ ?_
    · rintro j y H3 hy ⟨s3, hM⟩
      have hj : j < Rs.length := by
        have z := (List.getElem?_eq_some_iff.mp hy).1
        omega
      have htk := take_more (List.getElem?_eq_getElem hj)
      obtain ⟨u, eu, hu⟩ := hus.get (i := j) (d := rnD Rs[j]) (by rw [List.getElem?_map, List.getElem?_eq_getElem hj]; rfl)
      rw [hy] at eu
      cases eu
      have rl := ok.lt _ (List.getElem_mem hj)
      generalize hR : Rs[j] = R at *
      have hu3 := Tp.mono (Same.tk s3) _ _ hu
      have ht3 := Tp.mono (Same.tk s3) _ _ ht2
      have hsz : (((Rs.take j).map fB).map V.bl).length < sizeLine := by
        rw [List.length_map, List.length_map, List.length_take]
        exact small1000 (by omega)
      walk_at "st"
      refine ⟨rl.2, by omega, fun H4 s4 => ⟨_, s4 _ _ hM, hsz, Same.fresh (Same.trans s3 s4) nM, ?_⟩⟩
      rw [upd_same, htk, List.map_append, List.map_append]
      rfl
    · rintro H3 ⟨s3, hM⟩
      rw [lus, List.take_length] at hM
      have hSM := SqL.of (K := K) hM
      walk_at "st"
      refine q _ _ Rs ok hRn (by rw [List.all_map]; rfl) (fun e => both_of hL ok fun R hR => ?_) (Same.trans (Same.trans s1 s2) s3)
      rw [List.all_map, List.all_eq_true] at e
      have z : fB R = true := e R hR
      have z : (decide ((1 : Int) ∈ R.map (tuOf L)) && decide ((3 : Int) ∈ R.map (tuOf L))) = true := z
      rw [Bool.and_eq_true, decide_eq_true_eq, decide_eq_true_eq] at z
      exact z
end

/-! ### places, squares, floors: are they right? -/
abbrev FarI : Int := 1000000000000000000000000000000000000000000000000000000000000
def spPlaceOk (K : PySem.W.Frag) : Sp := fun vs H Q _ => ∃ (v : V) (p : Pt), vs = [v] ∧ Tp K H v (.tuple [.int p.1, .int p.2]) ∧ InB FarI p ∧ Q (.bl true) H
def spSquareOk (K : PySem.W.Frag) : Sp := fun vs H Q _ => ∃ (v : V) (c : Int) (s : Sq), vs = [v, .int c] ∧ Tp K H v (sqD s) ∧ InB FarI s.pt ∧ 1 ≤ s.2.2 ∧ s.2.2 < c ∧ ∀ H', Same H H' → Q (.bl true) H'
def spFloorOk (K : PySem.W.Frag) : Sp := fun vs H Q _ => ∃ (v : V) (c : Nat) (F : List Sq), vs = [v, .int c] ∧ Tp K H v (floorD F) ∧ FlOk c FarI F ∧ F.length ≤ 1000 ∧ ∀ H', Same H H' → Q .non H'
def spNumberOk : Sp := fun vs H Q _ => ∃ v lo hi : Int, vs = [.int v, .int lo, .int hi] ∧ lo ≤ v ∧ v ≤ hi ∧ Q .non H
def spWalkerOk (K : PySem.W.Frag) : Sp := fun vs H Q _ => ∃ (v : V) (n : Nat) (w : Wk), vs = [v, .int n] ∧ Tp K H v (wkD w) ∧ InB FarI (wPt w) ∧ (0 ≤ w.2.2.1 ∧ w.2.2.1 < 4) ∧ (0 ≤ w.2.2.2 ∧ w.2.2.2 < n) ∧ ∀ H', Same H H' → Q (.bl true) H'
def spCheckW (K : PySem.W.Frag) : Sp := fun vs H Q _ => ∃ (v : V) (n : Nat) (w : Wk), vs = [v, .int n] ∧ Tp K H v (wkD w) ∧ InB FarI (wPt w) ∧ (0 ≤ w.2.2.1 ∧ w.2.2.1 < 4) ∧ (0 ≤ w.2.2.2 ∧ w.2.2.2 < n) ∧ ∀ H', Same H H' → Q .non H'
theorem in_dec {a b v : Int} (h1 : a ≤ v) (h2 : v ≤ b) : (decide (a ≤ v) && decide (v ≤ b)) = true := by
  rw [decide_eq_true h1, decide_eq_true h2]
  rfl
theorem leT_false {a b c d : Int} (h : c < a ∨ (c = a ∧ d < b)) : Ob.lexAt (fun j => decide (([a, b] : List Int).getD j 0 = ([c, d] : List Int).getD j 0)) (fun j => decide (([a, b] : List Int).getD j 0 ≤ ([c, d] : List Int).getD j 0)) (decide (([a, b] : List Int).length ≤ ([c, d] : List Int).length)) 0 (min ([a, b] : List Int).length ([c, d] : List Int).length) = false := by
  show (if decide (a = c) = true then (if decide (b = d) = true then true else decide (b ≤ d)) else decide (a ≤ c)) = false
  by_cases e1 : a = c
  · rw [if_pos (decide_eq_true e1), if_neg (fun z => by have := of_decide_eq_true z; omega)]
    exact decide_eq_false (by omega)
  · rw [if_neg (fun z => e1 (of_decide_eq_true z))]
    exact decide_eq_false (by omega)
section
variable {P : Program} {w : World} {K : PySem.W.Frag} {mg : Str → Option Value} {base : Heap}
theorem ok_is_place (T : Txt K mg) (D : DefAt K mg "is_place" s_is_place ["value"]) (C_is_whole : Cal P w K mg base CX0 "is_whole" 1 ["value", "least", "greatest"] spWhole) : Cal P w K mg base CX0 "is_place" 2 ["value"] (spPlaceOk K) := by
  refine D.cal sc_is_place (fun vs H Q E h => ?_) (fun f cdv A outer s H vs Q E hr h => ?_)
  · obtain ⟨v, p, rfl, _⟩ := h
    rfl
  · obtain ⟨v, p, rfl, hv, hb, q⟩ := h
    refine ⟨_, (pss_cons (ps_if (PW.pt (pw_or (pt_not (pt_val (pe_callB (k_isN (K := K)) (by rfl) T.m_isinstance (by decide +kernel) (pa_cons (pv 0) (pa_cons (pe_ty "tuple" (by rfl) T.m_tuple (by decide +kernel)) pa_nil))))) (pw_or1 (pt_cmpR op_ne (pe_callB (k_len_t (K := K)) (by rfl) T.m_len (by decide +kernel) (pa_cons (pv 0) pa_nil)) pe_int (nomark _))))) (pss_one (ps_ret pe_bl)) pss_nil)
      (pss_one (ps_ret (pe_and (pe_own C_is_whole hr (by first | decide | omega) (pa_cons (pe_ix (k_ix_tup (K := K)) (pv 0) pe_int (fun _ _ => rfl)) (pa_cons (pe_un un_neg (pe_gint (by rfl) T.far)) (pa_cons (pe_gint (by rfl) T.far) pa_nil)))) (pe_one (pe_own C_is_whole hr (by first | decide | omega) (pa_cons (pe_ix (k_ix_tup (K := K)) (pv 0) pe_int (fun _ _ => rfl)) (pa_cons (pe_un un_neg (pe_gint (by rfl) T.far)) (pa_cons (pe_gint (by rfl) T.far) pa_nil))))))))), ?_⟩
    obtain ⟨a, rfl, hs⟩ := hv.int2
    obtain ⟨⟨b1, b2⟩, b3, b4⟩ := hb
    walk_at "st"
    rw [in_dec b1 b2]
    refine iteT ?_
    walk_at "st"
    rw [in_dec b3 b4]
    exact q
theorem ok_u_is_square (T : Txt K mg) (D : DefAt K mg "_is_square" s_u_is_square ["value", "colours"]) (C_is_whole : Cal P w K mg base CX0 "is_whole" 1 ["value", "least", "greatest"] spWhole) (C_is_place : Cal P w K mg base CX0 "is_place" 2 ["value"] (spPlaceOk K)) : Cal P w K mg base CX0 "_is_square" 3 ["value", "colours"] (spSquareOk K) := by
  refine D.cal sc_u_is_square (fun vs H Q E h => ?_) (fun f cdv A outer s H vs Q E hr h => ?_)
  · obtain ⟨v, c, s, rfl, _⟩ := h
    rfl
  · obtain ⟨v, c, s, rfl, hv, hb, c1, c2, q⟩ := h
    refine ⟨_, (pss_cons (ps_if (PW.pt (pw_or (pt_not (pt_val (pe_callB (k_isN (K := K)) (by rfl) T.m_isinstance (by decide +kernel) (pa_cons (pv 0) (pa_cons (pe_ty "tuple" (by rfl) T.m_tuple (by decide +kernel)) pa_nil))))) (pw_or1 (pt_cmpR op_ne (pe_callB (k_len_t (K := K)) (by rfl) T.m_len (by decide +kernel) (pa_cons (pv 0) pa_nil)) pe_int (nomark _))))) (pss_one (ps_ret pe_bl)) pss_nil)
      (pss_one (ps_ret (pe_and (pe_own C_is_place hr (by first | decide | omega) (pa_cons (pe_slice (k_sl_tup (K := K)) (pv 0) po_none (po_some pe_int)) pa_nil)) (pe_one (pe_own C_is_whole hr (by first | decide | omega) (pa_cons (pe_ix (k_ix_tup (K := K)) (pv 0) pe_int (fun _ _ => rfl)) (pa_cons pe_int (pa_cons (pe_op op_sub (pv 1) pe_int) pa_nil))))))))), ?_⟩
    obtain ⟨a, rfl, hs⟩ := hv.int3
    walk_at "st"
    intro p np
    have s1 : Same H (upd H p (.tup [.int s.1, .int s.2.1])) := Same.new np
    have hs1 := TK.seqT (Same.tk s1) hs
    refine ⟨.ref p, s.pt, rfl, Tp.of_ints (ks := [s.1, s.2.1]) (SqT.of upd_same), hb, ?_⟩
    refine ⟨_, rfl, iteT ?_⟩
    walk_at "st"
    rw [in_dec (by omega) (by omega)]
    exact q _ s1
theorem ok_is_walker (T : Txt K mg) (D : DefAt K mg "is_walker" s_is_walker ["value", "states"]) (C_is_whole : Cal P w K mg base CX0 "is_whole" 1 ["value", "least", "greatest"] spWhole) (C_is_place : Cal P w K mg base CX0 "is_place" 2 ["value"] (spPlaceOk K)) : Cal P w K mg base CX0 "is_walker" 3 ["value", "states"] (spWalkerOk K) := by
  refine D.cal sc_is_walker (fun vs H Q E h => ?_) (fun f cdv A outer s H vs Q E hr h => ?_)
  · obtain ⟨v, c, s, rfl, _⟩ := h
    rfl
  · obtain ⟨v, n, wk, rfl, hv, hb, ⟨c1, c2⟩, ⟨c3, c4⟩, q⟩ := h
    refine ⟨_, (pss_cons (ps_if (PW.pt (pw_or (pt_not (pt_val (pe_callB (k_isN (K := K)) (by rfl) T.m_isinstance (by decide +kernel) (pa_cons (pv 0) (pa_cons (pe_ty "tuple" (by rfl) T.m_tuple (by decide +kernel)) pa_nil))))) (pw_or1 (pt_cmpR op_ne (pe_callB (k_len_t (K := K)) (by rfl) T.m_len (by decide +kernel) (pa_cons (pv 0) pa_nil)) pe_int (nomark _))))) (pss_one (ps_ret pe_bl)) pss_nil)
      (pss_one (ps_ret (pe_and (pe_own C_is_place hr (by first | decide | omega) (pa_cons (pe_slice (k_sl_tup (K := K)) (pv 0) po_none (po_some pe_int)) pa_nil)) (pe_and (pe_own C_is_whole hr (by first | decide | omega) (pa_cons (pe_ix (k_ix_tup (K := K)) (pv 0) pe_int (fun _ _ => rfl)) (pa_cons pe_int (pa_cons pe_int pa_nil)))) (pe_one (pe_own C_is_whole hr (by first | decide | omega) (pa_cons (pe_ix (k_ix_tup (K := K)) (pv 0) pe_int (fun _ _ => rfl)) (pa_cons pe_int (pa_cons (pe_op op_sub (pv 1) pe_int) pa_nil)))))))))), ?_⟩
    obtain ⟨a, rfl, hs⟩ := hv.int4
    walk_at "st"
    intro p np
    have s1 : Same H (upd H p (.tup [.int wk.1, .int wk.2.1])) := Same.new np
    have hs1 := TK.seqT (Same.tk s1) hs
    refine ⟨.ref p, wPt wk, rfl, Tp.of_ints (ks := [wk.1, wk.2.1]) (SqT.of upd_same), hb, ?_⟩
    refine ⟨_, rfl, iteT ?_⟩
    walk_at "st"
    rw [in_dec (by omega) (by omega)]
    refine iteT ?_
    walk_at "st"
    rw [in_dec (by omega) (by omega)]
    exact q _ s1
theorem ok_check_walker (T : Txt K mg) (D : DefAt K mg "check_walker" s_check_walker ["value", "states"]) (C_is_walker : Cal P w K mg base CX0 "is_walker" 3 ["value", "states"] (spWalkerOk K)) : Cal P w K mg base CX0 "check_walker" 4 ["value", "states"] (spCheckW K) := by
  refine D.cal sc_check_walker (fun vs H Q E h => ?_) (fun f cdv A outer s H vs Q E hr h => ?_)
  · obtain ⟨v, c, s, rfl, _⟩ := h
    rfl
  · obtain ⟨v, n, wk, rfl, hv, hb, c1, c2, q⟩ := h
    refine ⟨_, (pss_one (ps_if (pt_not (pt_val (pe_own C_is_walker hr (by first | decide | omega) (pa_cons (pv 0) (pa_cons (pv 1) pa_nil))))) (pss_one ps_never) pss_nil)), ?_⟩
    walk_at "st"
    intro H1 s1
    walk_at "st"
    exact q _ s1
end

section
variable {P : Program} {w : World} {K : PySem.W.Frag} {mg : Str → Option Value} {base : Heap}
theorem SqV.get {H : Hp} {vs : List V} {F : List Sq} (h : TpAll K H vs (F.map sqD)) {i : Nat} {v : V} (e : vs[i]? = some v) : ∃ s, F[i]? = some s ∧ Tp K H v (sqD s) := by
  have hl : vs.length = F.length := by rw [TpAll.length h, List.length_map]
  have hi : i < F.length := by
    have z : i < vs.length := (List.getElem?_eq_some_iff.mp e).1
    omega
  obtain ⟨z, e2, hz⟩ := h.get (i := i) (d := sqD F[i]) (by rw [List.getElem?_map, List.getElem?_eq_getElem hi]; rfl)
  rw [e] at e2
  cases e2
  exact ⟨_, List.getElem?_eq_getElem hi, hz⟩
theorem ok_check_floor (T : Txt K mg) (D : DefAt K mg "check_floor" s_check_floor ["value", "colours"]) (C_is_square : Cal P w K mg base CX0 "_is_square" 3 ["value", "colours"] (spSquareOk K)) : Cal P w K mg base CX0 "check_floor" 4 ["value", "colours"] (spFloorOk K) := by
  refine D.cal sc_check_floor (fun vs H Q E h => ?_) (fun f cdv A outer s H vs Q E hr h => ?_)
  · obtain ⟨v, c, F, rfl, _⟩ := h
    rfl
  · obtain ⟨v, c, F, rfl, hv, hF, hl, q⟩ := h
    refine ⟨_, (pss_cons (ps_if (PW.pt (pw_or (pt_not (pt_val (pe_callB (k_isN (K := K)) (by rfl) T.m_isinstance (by decide +kernel) (pa_cons (pv 0) (pa_cons (pe_ty "tuple" (by rfl) T.m_tuple (by decide +kernel)) pa_nil))))) (pw_or1 (pt_cmpR op_gt (pe_callB (k_len_t (K := K)) (by rfl) T.m_len (by decide +kernel) (pa_cons (pv 0) pa_nil)) (pe_gint (by rfl) T.most_squares) (nomark _))))) (pss_one ps_never) pss_nil)
      (pss_one (ps_for PassesOwn.never rfl (k_enT (K := K) (by rfl) T.m_enumerate (pa_cons (pv 0) pa_nil)) (pg_tup (by rfl) (pgs_cons (pg_name (i := 2) sc_check_floor.nd rfl (Or.inl rfl)) (pgs_cons (pg_name (i := 3) sc_check_floor.nd rfl (Or.inl rfl)) pgs_nil)))
      (pss_cons (ps_if (pt_not (pt_val (pe_own C_is_square hr (by first | decide | omega) (pa_cons (pv 3) (pa_cons (pv 1) pa_nil))))) (pss_one ps_never) pss_nil)
      (pss_one (ps_if (PW.pt (pw_and (pt_cmpR op_gt (pv 2) pe_int (nomark _)) (pw_and1 (pt_cmpR (k_leT (K := K) hr.units0) (pe_slice (k_sl_tup (K := K)) (pv 3) po_none (po_some pe_int)) (pe_slice (k_sl_tup (K := K)) (pe_ix (k_ix_tup (K := K)) (pv 0) (pe_op op_sub (pv 2) pe_int) (fun _ _ => rfl)) po_none (po_some pe_int)) (nomark _))))) (pss_one ps_never) pss_nil)))))), ?_⟩
    obtain ⟨a, vs, rfl, hs, hvs⟩ := hv.tupI
    have hlen : vs.length = F.length := by rw [TpAll.length hvs, List.length_map]
    walk_at "st"
    refine ite2 (fun e => absurd (of_decide_eq_true e) (by omega)) (fun _ => ?_)
    walk_at "st"
    refine for_it (walkEn (K := K) (a := a) (xs := vs)) (fun i σ H' => Ok (∃ y1 y2, σ = [some (.ref a), some (.int c), y1, y2] ∧ Same H H')) ⟨_, _, rfl, Same.refl H⟩ (fun i σ H' _ ⟨y1, y2, _, sm⟩ => TK.seqT (Same.tk sm) hs) ?_ ?_
    · rintro i x σ H' H2 hi ⟨y1, y2, rfl, sm⟩ ⟨t, z, y, rfl, nt, rfl, e1, e2⟩
      cases e1
      obtain ⟨s, hsF, hz⟩ := SqV.get hvs e2
      have s2 : Same H (upd H' t (.tup [.int (i : Nat), y])) := Same.trans sm (Same.new nt)
      have hsq := Tp.mono (Same.tk s2) _ _ hz
      obtain ⟨b, rfl, hsb⟩ := hsq.int3
      have hs2 := TK.seqT (Same.tk s2) hs
      obtain ⟨k1, k2, k3⟩ := hF.sq s (List.mem_of_getElem? hsF)
      walk_at "st"
      intro H3 s3
      have s03 := Same.trans s2 s3
      have hs3 := TK.seqT (Same.tk s03) hs
      have hsb3 := TK.seqT (Same.tk s3) hsb
      walk_at "st"
      refine ite2 (fun e => ?_) (fun e => ?_)
      · have hi0 : 0 < i := by
          have := of_decide_eq_true e
          omega
        have l1 : i - 1 < vs.length := by omega
        have hat : atI vs ((i : Int) - 1) = some vs[i - 1] := by
          rw [show ((i : Int) - 1) = ((i - 1 : Nat) : Int) by omega]
          exact atI_nat (List.getElem?_eq_getElem l1)
        obtain ⟨s0, hs0F, hz0⟩ := SqV.get hvs (List.getElem?_eq_getElem l1)
        have hz0 := Tp.mono (Same.tk s03) _ _ hz0
        have lt : ltP s0.pt s.pt := by
          obtain ⟨l2, e3⟩ := List.getElem?_eq_some_iff.mp hs0F
          obtain ⟨l3, e4⟩ := List.getElem?_eq_some_iff.mp hsF
          have z := List.pairwise_iff_getElem.mp hF.asc (i - 1) i l2 l3 (by omega)
          rw [e3, e4] at z
          exact z
        obtain ⟨b0, e5, hs0⟩ := hz0.int3
        rw [e5] at hat
        walk_at "st"
        intro p np
        have s4 : Same H3 (upd H3 p (.tup [.int s.1, .int s.2.1])) := Same.new np
        have hs4 := TK.seqT (Same.tk s4) hs3
        have hs04 := TK.seqT (Same.tk s4) hs0
        have hp : (upd H3 p (.tup [.int s.1, .int s.2.1])) p = some (.tup (([s.1, s.2.1] : List Int).map V.int)) := upd_same
        walk_at "st"
        intro p2 np2
        have s5 : Same (upd H3 p (.tup [.int s.1, .int s.2.1])) (upd (upd H3 p (.tup [.int s.1, .int s.2.1])) p2 (.tup [.int s0.1, .int s0.2.1])) := Same.new np2
        refine ⟨p, p2, [s.1, s.2.1], [s0.1, s0.2.1], rfl, rfl, SqT.of (s5 _ _ hp), SqT.of upd_same, ?_⟩
        rw [leT_false (a := s.1) (b := s.2.1) (c := s0.1) (d := s0.2.1) lt]
        walk_at "st"
        exact ⟨_, _, rfl, Same.trans s03 (Same.trans s4 s5)⟩
      · walk_at "st"
        exact ⟨_, _, rfl, s03⟩
    · rintro σ H' ⟨y1, y2, rfl, sm⟩
      exact q H' sm
end

/-! ### floors and cells -/
def spPlaces (K : PySem.W.Frag) : Sp := fun vs H Q _ => ∃ (v : V) (F : List Sq), vs = [v] ∧ Tp K H v (floorD F) ∧ (F.Pairwise fun a b => ltP a.pt b.pt) ∧ F.length ≤ 1000 ∧ ∀ D H', H D = none → H' D = some (.dT (cellK (cellsOf F))) → Same H H' → Q (.ref D) H'
def spFloorOf (K : PySem.W.Frag) : Sp := fun vs H Q _ => ∃ (D : Addr) (m : CM), vs = [.ref D] ∧ H D = some (.dT (cellK m)) ∧ (m.map (·.1)).Nodup ∧ (∀ e ∈ m, e.2 ≠ 0) ∧ m.length ≤ 3000 ∧
  ∀ v H' F, FloorOf (col m) F → F.length = m.length → Tp K H' v (floorD F) → Same H H' → Q v H'
/-- painted so -/
def paintM (m : CM) (p : Pt) (c : Int) : CM := if c = 0 then dropM m p else putM m p c
theorem paint_nd {m : CM} (p : Pt) (c : Int) (h : (m.map (·.1)).Nodup) : ((paintM m p c).map (·.1)).Nodup := by
  unfold paintM
  split
  · exact nd_drop p h
  · exact nd_put p c h
theorem paint_len (m : CM) (p : Pt) (c : Int) : (paintM m p c).length ≤ m.length + 1 := by
  unfold paintM
  have := len_put m p c
  have := len_drop m p
  split <;> omega
theorem put_mem : ∀ {m : CM} {p : Pt} {c : Int} {e : Pt × Int}, e ∈ putM m p c → e ∈ m ∨ e.2 = c
  | [], p, c, e, h => .inr (by rw [List.mem_singleton.mp h])
  | a :: r, p, c, e, h => by
    unfold putM at h
    by_cases q : a.1 = p
    · rw [if_pos q] at h
      rcases List.mem_cons.mp h with z | z
      · exact .inr (by rw [z])
      · exact .inl (List.mem_cons_of_mem _ z)
    · rw [if_neg q] at h
      rcases List.mem_cons.mp h with z | z
      · exact .inl (z ▸ List.mem_cons_self)
      · exact (put_mem z).imp (List.mem_cons_of_mem _) id
theorem drop_mem : ∀ {m : CM} {p : Pt} {e : Pt × Int}, e ∈ dropM m p → e ∈ m
  | a :: r, p, e, h => by
    unfold dropM at h
    by_cases q : a.1 = p
    · rw [if_pos q] at h
      exact List.mem_cons_of_mem _ h
    · rw [if_neg q] at h
      rcases List.mem_cons.mp h with z | z
      · exact z ▸ List.mem_cons_self
      · exact List.mem_cons_of_mem _ (drop_mem z)
theorem paint_nz {m : CM} {p : Pt} {c : Int} (h : ∀ e ∈ m, e.2 ≠ 0) : ∀ e ∈ paintM m p c, e.2 ≠ 0 := by
  intro e he
  unfold paintM at he
  by_cases z : c = 0
  · rw [if_pos z] at he
    exact h e (drop_mem he)
  · rw [if_neg z] at he
    rcases put_mem he with q | q
    · exact h e q
    · rw [q]
      exact z
theorem paint_col {m : CM} (p : Pt) (c : Int) (h : (m.map (·.1)).Nodup) : col (paintM m p c) = dab (col m) p c := by
  funext q
  unfold paintM col dab
  by_cases z : c = 0
  · rw [if_pos z, look_drop p q h]
    split
    · exact z.symm
    · rfl
  · rw [if_neg z, look_put]
    split <;> rfl
def spPaint : Sp := fun vs H Q _ => ∃ (D b : Addr) (m : CM) (x y c : Int), vs = [.ref D, .ref b, .int c] ∧ H D = some (.dT (cellK m)) ∧ H b = some (.tup [.int x, .int y]) ∧ (m.map (·.1)).Nodup ∧ m.length ≤ 3000 ∧
  ∀ H', H' D = some (.dT (cellK (paintM m (x, y) c))) → KeepE [D] H H' → Q .non H'
/-- the cells, sorted, are the floor -/
theorem sorted_floor {m : CM} {bs : List (Addr × List Int)} (nd : (m.map (·.1)).Nodup) (nz : ∀ e ∈ m, e.2 ≠ 0) (pm : (bs.map (·.2)).Perm (m.map fun e => [e.1.1, e.1.2, e.2])) (pw : bs.Pairwise fun x y => ltZ y.2 x.2 = false) :
    ∃ F : List Sq, bs.map (·.2) = F.map (fun s => [s.1, s.2.1, s.2.2]) ∧ FloorOf (col m) F ∧ F.length = m.length := by
  have pm2 : (bs.map (·.2)).Perm ((m.map fun e => ((e.1.1, e.1.2, e.2) : Sq)).map fun s => [s.1, s.2.1, s.2.2]) := by
    rw [List.map_map]
    exact pm
  obtain ⟨F, pF, eF⟩ := perm_lift (fun s : Sq => [s.1, s.2.1, s.2.2]) pm2 _ rfl
  have pwF : F.Pairwise fun a b => ltZ [b.1, b.2.1, b.2.2] [a.1, a.2.1, a.2.2] = false := by
    have z : (bs.map (·.2)).Pairwise fun x y => ltZ y x = false := List.pairwise_map.mpr pw
    rw [← eF] at z
    exact List.pairwise_map.mp z
  have ndF : F.Pairwise fun a b => a.pt ≠ b.pt := by
    have z : ((m.map fun e => ((e.1.1, e.1.2, e.2) : Sq)).map Sq.pt).Nodup := by
      rw [List.map_map]
      exact nd
    have y : (F.map Sq.pt).Nodup := (pF.map Sq.pt).nodup_iff.mpr z
    exact List.pairwise_map.mp y
  have asc : F.Pairwise fun a b => ltP a.pt b.pt := by
    refine List.Pairwise.imp₂ (fun a b h1 h2 => ?_) pwF ndF
    have h3 : ¬ (b.1 < a.1 ∨ (¬ a.1 < b.1 ∧ b.2.1 < a.2.1)) := fun z => by
      have e : ltZ [b.1, b.2.1, b.2.2] [a.1, a.2.1, a.2.2] = true := by
        show (decide (b.1 < a.1) || (!decide (a.1 < b.1) && (decide (b.2.1 < a.2.1) || (!decide (a.2.1 < b.2.1) && ltZ [b.2.2] [a.2.2])))) = true
        rcases z with z | ⟨z1, z2⟩
        · rw [decide_eq_true z]
          rfl
        · rw [decide_eq_false z1, decide_eq_true z2, Bool.or_eq_true]
          exact .inr rfl
      rw [e] at h1
      cases h1
    have h4 : ¬ (a.1 = b.1 ∧ a.2.1 = b.2.1) := fun z => h2 (Prod.ext z.1 z.2)
    show a.1 < b.1 ∨ (a.1 = b.1 ∧ a.2.1 < b.2.1)
    omega
  refine ⟨F, eF.symm, ⟨asc, fun s => ?_⟩, by rw [pF.length_eq, List.length_map]⟩
  rw [pF.mem_iff, List.mem_map]
  constructor
  · rintro ⟨e, he, rfl⟩
    have q := mem_look nd (show (e.1, e.2) ∈ m from he)
    refine ⟨?_, nz e he⟩
    show e.2 = (look m (e.1.1, e.1.2)).getD 0
    rw [show ((e.1.1, e.1.2) : Pt) = e.1 from rfl, q]
    rfl
  · rintro ⟨h1, h2⟩
    cases q : look m s.pt with
    | none =>
      unfold col at h1
      rw [q] at h1
      exact absurd h1 h2
    | some c =>
      unfold col at h1
      rw [q] at h1
      refine ⟨(s.pt, c), look_mem q, ?_⟩
      obtain ⟨x, y, k⟩ := s
      show (x, y, c) = (x, y, k)
      rw [show k = c from h1]

theorem dcT_it {J : It} {n : Nat} {G : Hp → Prop} {Y : Nat → Hp → V → Hp → Prop} (w : Walk J n G Y) {g : TG} {tk tv : TE} {vs : List Nat} {σ : L2.St} {H1 : Hp} {D : Addr} {Qd : Hp → Prop} (Pv : Nat → Hp → Prop) (h0 : Pv 0 (upd H1 D (.dT []))) (hG : ∀ i H, i ≤ n → Pv i H → G H)
    (hs : ∀ i x H H', i < n → Pv i H → Y i H x H' → g x (wipe σ vs) H' fun σ2 H2 => wipe σ2 vs = wipe σ vs ∧ tk σ2 H2 fun y H3 => tv σ2 H3 fun c H4 => ∃ kvs k b, y = .ref b ∧ H4 b = some (.tup (k.map kV)) ∧ H4 D = some (.dT kvs) ∧ kvs.length < sizeLine ∧ Pv (i + 1) (upd H4 D (.dT (putK kvs k c)))) (hd : ∀ H, Pv n H → Qd H) :
    ∃ W : Nat → Nat → Hp → Prop, (∃ m, W 0 m (upd H1 D (.dT []))) ∧ ∀ i m H, W i m H →
      (J.stop i H ∧ Qd H) ∨ (J.go i H ∧ ∃ Nx : Hp → Prop, (∀ H', Nx H' → ∃ m', m' < m ∧ W (i + 1) m' H') ∧ ∀ x H', J.yld i H x H' → g x (wipe σ vs) H' fun σ2 H2 => wipe σ2 vs = wipe σ vs ∧
        tk σ2 H2 fun y H3 => tv σ2 H3 fun c H4 => ∃ kvs k b, y = .ref b ∧ H4 b = some (.tup (k.map kV)) ∧ H4 D = some (.dT kvs) ∧ kvs.length < sizeLine ∧ Nx (upd H4 D (.dT (putK kvs k c)))) := by
  refine ⟨fun i m H => m = n - i ∧ i ≤ n ∧ Pv i H, ⟨n, rfl, Nat.zero_le _, h0⟩, fun i m H wi => ?_⟩
  obtain ⟨rfl, hi, p⟩ := wi
  have q := hG i H hi p
  rcases Nat.lt_or_ge i n with lt | ge
  · exact .inr ⟨w.goes i H lt q, Pv (i + 1), fun H' p' => ⟨n - (i + 1), by omega, rfl, lt, p'⟩, fun x H' y => hs i x H H' lt p (w.yields i H x H' lt q y)⟩
  · obtain rfl : i = n := Nat.le_antisymm hi ge
    exact .inl ⟨w.stops H q, hd H p⟩
theorem put_fresh {m : CM} {p : Pt} (c : Int) (h : p ∉ m.map (·.1)) : putM m p c = m ++ [(p, c)] := by
  induction m with
  | nil => rfl
  | cons e r ih =>
    unfold putM
    rw [if_neg (fun z => h (by rw [List.map_cons, z]; exact List.mem_cons_self)), ih fun z => h (List.mem_cons_of_mem _ z)]
    rfl
theorem cellK_snoc {m : CM} {p : Pt} {c : Int} (nd : (m.map (·.1)).Nodup) (h : p ∉ m.map (·.1)) : putK (cellK m) (ptK p) (.int c) = cellK (m ++ [(p, c)]) := by
  rw [cell_put p c nd, put_fresh c h]
theorem sqs_tp {K : PySem.W.Frag} {H : Hp} : ∀ {bs : List (Addr × List Int)} {F : List Sq}, (∀ b ∈ bs, SqT K H b.1 (b.2.map V.int)) → bs.map (·.2) = F.map (fun s => [s.1, s.2.1, s.2.2]) → TpAll K H (bs.map fun b => .ref b.1) (F.map sqD)
  | [], [], _, _ => .nil
  | [], _ :: _, _, e => nomatch e
  | _ :: _, [], _, e => nomatch e
  | b :: bs, s :: F, h, e => by
    obtain ⟨e1, e2⟩ := List.cons.inj e
    have h1 := h b List.mem_cons_self
    rw [show b.2 = [s.1, s.2.1, s.2.2] from e1] at h1
    exact .cons (Tp.of_ints (ks := [s.1, s.2.1, s.2.2]) h1) (sqs_tp (fun y hy => h y (List.mem_cons_of_mem _ hy)) e2)
theorem ty_dT {K : PySem.W.Frag} {H : Hp} {a : Addr} {kvs : List (List Key × V)} (h : H a = some (.dT kvs)) : tyV K "dict" (.ref a) H := by
  unfold tyV
  simp [h]
section
variable {P : Program} {w : World} {K : PySem.W.Frag} {mg : Str → Option Value} {base : Heap}
theorem ok_painted_places (T : Txt K mg) (D : DefAt K mg "painted_places" s_painted_places ["floor"]) : Cal P w K mg base CX0 "painted_places" 1 ["floor"] (spPlaces K) := by
  refine D.cal sc_painted_places (fun vs H Q E h => ?_) (fun f cdv A outer s H vs Q E hr h => ?_)
  · obtain ⟨v, F, rfl, _⟩ := h
    rfl
  · obtain ⟨v, F, rfl, hv, asc, hl, q⟩ := h
    refine ⟨_, (pss_one (ps_ret (pe_dcT (own := [("x", 1), ("y", 2), ("colour", 3)]) (g := gTup K 3 (gCons (gName 1) (gCons (gName 2) (gCons (gName 3) gNil)))) rfl hr.units0 sc_painted_places.nd (k_pi_tup (K := K) (pv 0)) (blkOk_by (by rfl)) (fun _ _ _ _ _ => (k_pgT (K := K) 3 (by rfl) (pgs_cons (pg_name (i := 1) sc_painted_places.nd rfl (Or.inl rfl)) (pgs_cons (pg_name (i := 2) sc_painted_places.nd rfl (Or.inl rfl)) (pgs_cons (pg_name (i := 3) sc_painted_places.nd rfl (Or.inl rfl)) pgs_nil))))) (fun _ _ _ _ _ => (pe_tup (pa_cons (pv 1) (pa_cons (pv 2) pa_nil)))) (fun _ _ _ _ _ => (pv 3))))), ?_⟩
    obtain ⟨a, vs, rfl, hs, hvs⟩ := hv.tupI
    have hlen : vs.length = F.length := by rw [TpAll.length hvs, List.length_map]
    walk_at "st"
    intro D nD
    refine dcT_it (walk_tup (K := K) (a := a) (xs := vs)) (fun i H' => Ok (Same H H' ∧ H' D = some (.dT (cellK (cellsOf (F.take i)))))) ⟨Same.new nD, upd_same⟩ (fun i H' _ ⟨sm, _⟩ => TK.seqT (Same.tk sm) hs) ?_ ?_
    · rintro i x H' H2 hi ⟨sm, hD⟩ ⟨rfl, hx⟩
      obtain ⟨s, hsF, hz⟩ := SqV.get hvs hx
      have hz := Tp.mono (Same.tk sm) _ _ hz
      obtain ⟨b, rfl, hsb⟩ := hz.int3
      walk_at "st"
      intro p np
      have hD2 : (upd H2 p (.tup [.int s.1, .int s.2.1])) D = some (.dT (cellK (cellsOf (F.take i)))) := by rw [upd_ne (ne_of_none hD np)]; exact hD
      have nd : ((cellsOf (F.take i)).map (·.1)).Nodup := asc_nd (asc.sublist (List.take_sublist _ _))
      have nin : s.pt ∉ (cellsOf (F.take i)).map (·.1) := fun z => by
        have nd2 : ((cellsOf (F.take (i + 1))).map (·.1)).Nodup := asc_nd (asc.sublist (List.take_sublist _ _))
        rw [take_more hsF] at nd2
        unfold cellsOf at nd2 z
        rw [List.map_append, List.map_append, List.nodup_append] at nd2
        exact nd2.2.2 _ z s.pt List.mem_cons_self rfl
      have hsz : (cellK (cellsOf (F.take i))).length < sizeLine := by
        rw [cell_len]
        unfold cellsOf
        rw [List.length_map, List.length_take]
        exact small1000 (by omega)
      refine ⟨_, rfl, _, ptK s.pt, p, rfl, upd_same, hD2, hsz, Same.fresh (Same.trans sm (Same.new np)) nD, ?_⟩
      rw [upd_same, cellK_snoc nd nin, take_more hsF]
      unfold cellsOf
      rw [List.map_append]
      rfl
    · rintro H' ⟨sm, hD⟩
      rw [hlen, List.take_length] at hD
      exact q D H' nD hD sm
theorem ok_paint_square (T : Txt K mg) (D : DefAt K mg "paint_square" s_paint_square ["painted", "place", "colour"]) : Cal P w K mg base CX0 "paint_square" 1 ["painted", "place", "colour"] spPaint := by
  refine D.cal sc_paint_square (fun vs H Q E h => ?_) (fun f cdv A outer s H vs Q E hr h => ?_)
  · obtain ⟨D, b, m, x, y, c, rfl, _⟩ := h
    rfl
  · obtain ⟨D, b, m, x, y, c, rfl, hD, hb, nd, hl, q⟩ := h
    refine ⟨_, (pss_one (ps_if (pt_cmpR op_eq (pv 2) pe_int (nomark _)) (pss_one (ps_expr (pe_bm PySem.F.plainAttrs_dict PySem.F.slot_dict_pop PySem.F.type_dict_pop (DX.mt_popT (hu_of hr)) (pv 0) (pa_cons (pv 1) (pa_cons pe_non pa_nil))))) (pss_one (ps_if (PW.pt (pw_or (pt_cmp (pc_din (hu_of hr) (pv 1) (pv 0))) (pw_or1 (pt_cmpR op_lt (pe_callB call_len_dT (by rfl) T.m_len (by decide +kernel) (pa_cons (pv 0) pa_nil)) (pe_gint (by rfl) T.most_squares) (nomark _))))) (pss_one (ps_dput (hu_of hr) (pv 0) (pv 1) (pv 2) (by rfl))) (pss_one ps_never))))), ?_⟩
    have hbk : H b = some (.tup ((ptK (x, y)).map kV)) := hb
    have nbD : b ≠ D := ne_of hb hD (by intro z; cases z)
    have hsz : (cellK m).length < sizeLine := by
      rw [cell_len]
      exact Nat.lt_of_le_of_lt hl (by decide)
    have hg : DGet H D (.ref b) (valV (cellK m) (ptK (x, y))) := DGet.t hD hbk
    have hw : DPut H D (.ref b) (.int c) (upd H D (.dT (putK (cellK m) (ptK (x, y)) (.int c)))) := DPut.t hD hbk hsz
    walk_at "st"
    refine ite2 (fun e => ?_) (fun e => ?_)
    · have e := eq_tr e
      subst e
      have fin : ∀ H', H' D = some (.dT (cellK (dropM m (x, y)))) → KeepE [D] H H' → Q .non H' := q
      walk_at "st"
      refine ⟨ty_dT hD, _, rfl, ?_⟩
      walk_at "st"
      refine ⟨fun v hv => ?_, fun hv => ?_⟩
      · refine fin _ ?_ (KeepE.put List.mem_cons_self)
        rw [upd_same, cell_drop (x, y) m nd]
      · refine fin _ ?_ (KeepE.refl _ _)
        have e2 : dropK (cellK m) (ptK (x, y)) = cellK m := dropK_no (valV_not hv)
        rw [← cell_drop (x, y) m nd, e2]
        exact hD
    · have e := eq_fl e
      have fin : Q .non (upd H D (.dT (putK (cellK m) (ptK (x, y)) (.int c)))) := by
        refine q _ ?_ (KeepE.put List.mem_cons_self)
        rw [upd_same, cell_put (x, y) c nd]
        unfold paintM
        rw [if_neg e]
      walk_at "st"
      refine ite2 (fun e1 => ?_) (fun e1 => ?_)
      · walk_at "st"
        exact fin
      · walk_at "st"
        refine ite2 (fun e2 => ?_) (fun e2 => absurd (decide_eq_true (by rw [cell_len]; omega)) e2)
        walk_at "st"
        exact fin
end

/-! ### the stroll -/
/-- the fields of a stroll, as __init__ stores them -/
abbrev strF (tv gv : V) (D : Addr) (wv : V) : List (Str × V) := [("table", tv), ("ground", gv), ("painted", .ref D), ("walker", wv)]
/-- the ground of a walk on blank squares -/
def blankD : PyData := .tuple [.tuple [.int 0]]
structure StrAt (K : PySem.W.Frag) (C : Addr) (H : Hp) (a D : Addr) (T : List (List Ent)) (m : CM) (w : Wk) : Prop where
  ob : ∃ dx tv gv wv, H a = some (.ins C dx (strF tv gv D wv)) ∧ Tp K H tv (tabD T) ∧ Tp K H wv (wkD w) ∧ Tp K H gv blankD
  dc : H D = some (.dT (cellK m))
  nd : (m.map (·.1)).Nodup
  nz : ∀ e ∈ m, e.2 ≠ 0
/-- what the text says of the class -/
structure ClsS (K : PySem.W.Frag) (mg : Str → Option Value) (C : Addr) : Prop where
  cl : Cls K C
  nT : NoAttr K C "table"
  nG : NoAttr K C "ground"
  nP : NoAttr K C "painted"
  nW : NoAttr K C "walker"
  mgC : mg "Stroll" = some (.ref C)
def spBehind (K : PySem.W.Frag) : Sp := fun vs H Q _ => ∃ (wv ev : V) (w : Wk) (e : Int × Int × Int), vs = [wv, ev] ∧ Tp K H wv (wkD w) ∧ Tp K H ev (entD (some e)) ∧ ∀ v H', Tp K H' v (wkD (behind w e)) → Same H H' → Q v H'
def spInit (K : PySem.W.Frag) (C : Addr) : Sp := fun vs H Q _ => ∃ (a dx : Addr) (tv fv wv gv : V) (T : List (List Ent)) (F : List Sq) (w : Wk), vs = [.ref a, tv, fv, wv, gv] ∧ H a = some (.ins C dx []) ∧ Tp K H gv blankD ∧ Tp K H tv (tabD T) ∧ Tp K H fv (floorD F) ∧ Tp K H wv (wkD w) ∧
  (F.Pairwise fun a b => ltP a.pt b.pt) ∧ (∀ s ∈ F, s.2.2 ≠ 0) ∧ F.length ≤ 1000 ∧ ∀ D H', H D = none → StrAt K C H' a D T (cellsOf F) w → KeepE [a] H H' → Q .non H'
/-- __init__ with the default ground behind -/
def spInit3 (K : PySem.W.Frag) (C : Addr) : Sp := fun vs H Q _ => ∃ (a dx : Addr) (tv fv wv : V) (T : List (List Ent)) (F : List Sq) (w : Wk), vs = [.ref a, tv, fv, wv] ∧ H a = some (.ins C dx []) ∧ Tp K H tv (tabD T) ∧ Tp K H fv (floorD F) ∧ Tp K H wv (wkD w) ∧
  (F.Pairwise fun a b => ltP a.pt b.pt) ∧ (∀ s ∈ F, s.2.2 ≠ 0) ∧ F.length ≤ 1000 ∧ ∀ D H', H D = none → StrAt K C H' a D T (cellsOf F) w → KeepE [a] H H' → Q .non H'
def spColOf (K : PySem.W.Frag) (C : Addr) : Sp := fun vs H Q _ => ∃ (a D p : Addr) (T : List (List Ent)) (m : CM) (w : Wk) (x y : Int), vs = [.ref a, .ref p] ∧ StrAt K C H a D T m w ∧ H p = some (.tup [.int x, .int y]) ∧ Q (.int (col m (x, y))) H
def spPaintO (K : PySem.W.Frag) (C : Addr) : Sp := fun vs H Q _ => ∃ (a D p : Addr) (T : List (List Ent)) (m : CM) (w : Wk) (x y c : Int), vs = [.ref a, .ref p, .int c] ∧ StrAt K C H a D T m w ∧ H p = some (.tup [.int x, .int y]) ∧ m.length ≤ 3000 ∧
  ∀ H', H' D = some (.dT (cellK (paintM m (x, y) c))) → KeepE [D] H H' → Q .non H'
def spReading (K : PySem.W.Frag) (C : Addr) : Sp := fun vs H Q _ => ∃ (a D : Addr) (T : List (List Ent)) (m : CM) (w : Wk), vs = [.ref a] ∧ StrAt K C H a D T m w ∧ ∀ v H', Tp K H' v (.tuple [.int w.2.2.2, .int (col m (wPt w))]) → Same H H' → Q v H'
def spStopped (K : PySem.W.Frag) (C : Addr) : Sp := fun vs H Q _ => ∃ (a D : Addr) (T : List (List Ent)) (m : CM) (w : Wk) (c n : Nat) (B : Int), vs = [.ref a] ∧ StrAt K C H a D T m w ∧ TabOk c n T ∧ Fit c n B (col m, w) ∧ ∀ b H', (b = true ↔ stepW T (col m, w) = none) → Same H H' → Q (.bl b) H'
def spGo (K : PySem.W.Frag) (C : Addr) : Sp := fun vs H Q _ => ∃ (a D : Addr) (T : List (List Ent)) (m : CM) (w : Wk) (c n : Nat) (B many : Int), vs = [.ref a, .int many] ∧ StrAt K C H a D T m w ∧ TabOk c n T ∧ Fit c n B (col m, w) ∧ (m.length : Int) + many ≤ 3000 ∧ 0 ≤ many ∧
  ∀ (L : Addr) (vs' : List V) (i : Nat) (m' : CM) (w' : Wk) H', H L = none → Ends T (col m, w) many.toNat i (col m', w') → StrAt K C H' a D T m' w' → m'.length ≤ m.length + i → H' L = some (.lst vs') → vs'.length = i → KeepE [a, D] H H' → Q (.ref L) H'
theorem StrAt.ne {K : PySem.W.Frag} {C : Addr} {H : Hp} {a D : Addr} {T : List (List Ent)} {m : CM} {w : Wk} (h : StrAt K C H a D T m w) : a ≠ D := by
  obtain ⟨dx, tv, gv, wv, e, _⟩ := h.ob
  exact ne_of e h.dc (by intro z; cases z)
theorem StrAt.soft {K : PySem.W.Frag} {C : Addr} {H : Hp} {a D : Addr} {T : List (List Ent)} {m : CM} {w : Wk} (h : StrAt K C H a D T m w) : ∀ b ∈ [a, D], Soft H b := by
  obtain ⟨dx, tv, gv, wv, e, _⟩ := h.ob
  intro b hb
  rcases List.mem_cons.mp hb with rfl | hb
  · exact Soft.ins e
  · rw [List.mem_singleton.mp hb]
    exact Soft.dT h.dc
theorem ahead_at {h : Int} (h0 : 0 ≤ h) (h1 : h < 4) {K : PySem.W.Frag} {b0 b1 b2 b3 : Addr} (k0 : KTu K b0 [.int 0, .int (-1)]) (k1 : KTu K b1 [.int 1, .int 0]) (k2 : KTu K b2 [.int 0, .int 1]) (k3 : KTu K b3 [.int (-1), .int 0]) :
    ∃ b, atI ([.ref b0, .ref b1, .ref b2, .ref b3] : List V) h = some (.ref b) ∧ KTu K b [.int (dxI h), .int (dyI h)] := by
  obtain ⟨n, rfl⟩ := Int.eq_ofNat_of_zero_le h0
  have c : n = 0 ∨ n = 1 ∨ n = 2 ∨ n = 3 := by omega
  rcases c with rfl | rfl | rfl | rfl
  · exact ⟨b0, at0, k0⟩
  · exact ⟨b1, at1, k1⟩
  · exact ⟨b2, at2, k2⟩
  · exact ⟨b3, at3, k3⟩
section
variable {P : Program} {w : World} {K : PySem.W.Frag} {mg : Str → Option Value} {base : Heap}
theorem ok_u_walker_behind (T : Txt K mg) (D : DefAt K mg "_walker_behind" s_u_walker_behind ["walker", "entry"]) : Cal P w K mg base CX0 "_walker_behind" 1 ["walker", "entry"] (spBehind K) := by
  refine D.cal sc_u_walker_behind (fun vs H Q E h => ?_) (fun f cdv A outer s H vs Q E hr h => ?_)
  · obtain ⟨wv, ev, wk, e, rfl, _⟩ := h
    rfl
  · obtain ⟨wv, ev, wk, e, rfl, hw, he, q⟩ := h
    obtain ⟨AA, b0, b1, b2, b3, hA, kA, k0, k1, k2, k3⟩ := T.ahead
    refine ⟨_, (pss_cons (ps_asg (pv 0) (pg_tup (by rfl) (pgs_cons (pg_name (i := 2) sc_u_walker_behind.nd rfl (Or.inl rfl)) (pgs_cons (pg_name (i := 3) sc_u_walker_behind.nd rfl (Or.inl rfl)) (pgs_cons (pg_name (i := 4) sc_u_walker_behind.nd rfl (Or.inl rfl)) (pgs_cons (pg_name (i := 5) sc_u_walker_behind.nd rfl (Or.inl rfl)) pgs_nil))))))
      (pss_cons (ps_asg (pv 1) (pg_tup (by rfl) (pgs_cons (pg_name (i := 5) sc_u_walker_behind.nd rfl (Or.inl rfl)) (pgs_cons (pg_name (i := 6) sc_u_walker_behind.nd rfl (Or.inl rfl)) (pgs_cons (pg_name (i := 7) sc_u_walker_behind.nd rfl (Or.inl rfl)) pgs_nil)))))
      (pss_cons (ps_set (i := 4) sc_u_walker_behind.nd rfl (Or.inl rfl) (pe_op op_mod (pe_op op_add (pv 4) (pv 6)) pe_int))
      (pss_cons (ps_asg (pe_ix (k_ix_tup (K := K)) (pe_glob (v := .ref AA) (by rfl) hA rfl) (pv 4) (fun _ _ => rfl)) (pg_tup (by rfl) (pgs_cons (pg_name (i := 8) sc_u_walker_behind.nd rfl (Or.inl rfl)) (pgs_cons (pg_name (i := 9) sc_u_walker_behind.nd rfl (Or.inl rfl)) pgs_nil))))
      (pss_one (ps_ret (pe_tup (pa_cons (pe_op op_add (pv 2) (pv 8)) (pa_cons (pe_op op_add (pv 3) (pv 9)) (pa_cons (pv 4) (pa_cons (pv 7) pa_nil))))))))))), ?_⟩
    obtain ⟨a, rfl, hsw⟩ := hw.int4
    obtain ⟨b, rfl, hse⟩ := (show Tp K H ev (.tuple [.int e.1, .int e.2.1, .int e.2.2]) from he).int3
    obtain ⟨bb, hat, kb⟩ := ahead_at (h := turnI wk e.2.1) (Int.emod_nonneg _ (by decide)) (Int.emod_lt_of_pos _ (by decide)) k0 k1 k2 k3
    have hat : atI ([.ref b0, .ref b1, .ref b2, .ref b3] : List V) ((wk.2.2.1 + e.2.1) % 4) = some (.ref bb) := hat
    have kAH := kA H
    have kbH := kb H
    walk_at "st"
    intro p np
    exact q _ _ (Tp.of_ints (ks := [_, _, _, _]) (SqT.of upd_same)) (Same.new np)
end

/-! ### methods of a class -/
structure MCal (P : Program) (w : World) (K : PySem.W.Frag) (mg : Str → Option Value) (base : Heap) (C : Addr) (m : Str) (k : Nat) (ps : List Str) (sp : Sp) : Prop where
  ex : ∃ (f : Addr) (fd : FuncData), Meth K C m f ∧ FnOk P w K mg base CX0 k f fd ps sp ∧ Binds K fd ps []
theorem MetAt.meth {K : PySem.W.Frag} {C : Addr} {m qual : Str} {st : Stmt} {ps : List Str} (M : MetAt K C m qual st ps) : ∃ (f : Addr) (fd : FuncData), Meth K C m f ∧ Fun K m qual st f fd ∧ Binds K fd ps [] := by
  obtain ⟨f, fd, iC, tI, F, b⟩ := M.ex
  exact ⟨f, fd, ⟨iC, by unfold PySem.W.isFn; rw [tI]; exact beq_self_eq_true _, F.kp⟩, F, b⟩
/-- a method some of whose last parameters have defaults: sp speaks of what is written -/
structure MCalD (P : Program) (w : World) (K : PySem.W.Frag) (mg : Str → Option Value) (base : Heap) (C : Addr) (m : Str) (k : Nat) (ps : List Str) (sp : Sp) : Prop where
  ex : ∃ (f : Addr) (fd : FuncData) (sp' : Sp) (dvs : List V) (ds : List Value), Meth K C m f ∧ FnOk P w K mg base CX0 k f fd ps sp' ∧ Vals dvs ds ∧ Binds K fd ps ds ∧ ∀ vs H Q E, sp vs H Q E → sp' (vs ++ dvs) H Q E
/-- a method as it stands, with a tuple of defaults -/
structure MetAtD (K : PySem.W.Frag) (C : Addr) (m qual : Str) (st : Stmt) (ps : List Str) (dvs : List V) : Prop where
  ex : ∃ (f : Addr) (fd : FuncData) (ds : List Value), PySem.W.findIn K (.ref C) m = some (some (.ref f)) ∧ PySem.W.typeIn K (.ref f) = some (.type "function") ∧ FunD K m qual (defArgs st) (defBody st) (defScope st) dvs [] f fd ∧ Vals dvs ds ∧ Binds K fd ps ds
theorem MetAtD.meth {K : PySem.W.Frag} {C : Addr} {m qual : Str} {st : Stmt} {ps : List Str} {dvs : List V} (M : MetAtD K C m qual st ps dvs) : ∃ (f : Addr) (fd : FuncData) (ds : List Value), Meth K C m f ∧ FunD K m qual (defArgs st) (defBody st) (defScope st) dvs [] f fd ∧ Vals dvs ds ∧ Binds K fd ps ds := by
  obtain ⟨f, fd, ds, iC, tI, F, v, b⟩ := M.ex
  exact ⟨f, fd, ds, ⟨iC, by unfold PySem.W.isFn; rw [tI]; exact beq_self_eq_true _, F.kp⟩, F, v, b⟩
section
variable {X : Cx} {k j : Nat} {C : Addr} {x m : Str} {ps : List Str} {sp : Sp} {p pos apos : Pos} {e o : Expr} {es : List Expr} {ta : TE} {t : TA} {pl : Sem Bool}
theorem pe_ownM (M : MCal X.prog X.w X.K X.mg X.base C m k ps sp) (c : Cls X.K C) (hr : Room j X.A) (hk : k ≤ j) (ho : PE X o ta) (ha : PA X (e :: es) t)
    (hst : starEach (e :: es) X.env = (false, eval e X.env) :: starEach es X.env := by rfl) (hpl : (backTo pos (starEach es X.env)).any (·.1) = false := by rfl)
    (ht : eval (.Call (.Attribute o m apos) (e :: es) [] pos) X.env = (do
      let ov ← eval o X.env
      standAt apos.atName
      let (f, first) ← holding [ov] (getMethod ov m pl)
      callWith pos f first (backTo pos (starEach (e :: es) X.env)) (backToKw pos (keywordEach [] X.env))) := by rfl) : PE X (.Call (.Attribute o m apos) (e :: es) [] pos) (tMeth C m sp [] E0 ta t) := by
  obtain ⟨f, fd, me, F, b⟩ := M.ex
  exact pe_meth (pl := pl) ho c me F (hr.mono hk) b .nil pass0 ha hst hpl ht
theorem pe_ownM0 (M : MCal X.prog X.w X.K X.mg X.base C m k ps sp) (c : Cls X.K C) (hr : Room j X.A) (hk : k ≤ j) (ho : PE X o ta)
    (ht : eval (.Call (.Attribute o m apos) [] [] pos) X.env = (do
      let ov ← eval o X.env
      standAt apos.atName
      let (f, first) ← holding [ov] (getMethod ov m pl)
      callWith pos f first (backTo pos (starEach [] X.env)) (backToKw pos (keywordEach [] X.env))) := by rfl) : PE X (.Call (.Attribute o m apos) [] [] pos) (tMeth C m sp [] E0 ta tNil) := by
  obtain ⟨f, fd, me, F, b⟩ := M.ex
  exact pe_meth0 (pl := pl) ho c me F (hr.mono hk) b .nil pass0 ht
/-- C(..) by its own __init__ -/
theorem pe_ownMk (M : MCal X.prog X.w X.K X.mg X.base C "__init__" k ps sp) (mk : PySem.W.makesIn X.K C = true) (kp : PySem.W.keepIn X.K (.ref C) = true) (hr : Room j X.A) (hk : k + 1 ≤ j) (hm : X.mg x = some (.ref C)) (ha : PA X (e :: es) t) (hg : Gl X x := by rfl)
    (hdb : (x == ("__debug__" : Str)) = false := by decide) (he : starEach (e :: es) X.env = (false, eval e X.env) :: starEach es X.env := by rfl) (hpl : (backTo pos (starEach es X.env)).any (·.1) = false := by rfl) :
    PE X (.Call (.Name x p) (e :: es) [] pos) (tMake C sp [] E0 t) := by
  obtain ⟨f, fd, me, F, b⟩ := M.ex
  exact pe_make ⟨mk, me.at_, me.fn, kp⟩ F (hr.mono hk) hg hm b .nil pass0 ha hdb he hpl
/-- C(..) by its own __init__, the defaults left out -/
theorem pe_ownMkD (M : MCalD X.prog X.w X.K X.mg X.base C "__init__" k ps sp) (mk : PySem.W.makesIn X.K C = true) (kp : PySem.W.keepIn X.K (.ref C) = true) (hr : Room j X.A) (hk : k + 1 ≤ j) (hm : X.mg x = some (.ref C)) (ha : PA X (e :: es) t) (hg : Gl X x := by rfl)
    (hdb : (x == ("__debug__" : Str)) = false := by decide) (he : starEach (e :: es) X.env = (false, eval e X.env) :: starEach es X.env := by rfl) (hpl : (backTo pos (starEach es X.env)).any (·.1) = false := by rfl) :
    PE X (.Call (.Name x p) (e :: es) [] pos) (tMake C sp [] E0 t) := by
  obtain ⟨f, fd, sp', dvs, ds, me, F, v, b, im⟩ := M.ex
  refine ⟨fun pins s σ H Q I h => ?_⟩
  refine wpAny_Call_Name_kw (ld_glob I hg hm ?_ hdb)
  refine PySem.W.callWith_K (h₀ := X.base) I.ok.mod.kin kp (thn (ha.run pos pins s σ H _ I h) fun us s1 ⟨vs, H1, I1, r, q⟩ => ⟨I1.kIn, ?_⟩) he hpl
  refine run_make ⟨mk, me.at_, me.fn, kp⟩ F (hr.mono hk) b v pass0 I1 r fun x dx h1 h2 h3 => ?_
  have q := q x dx h1 h2 h3
  rw [List.append_nil] at q
  exact im (.ref x :: vs) _ _ _ q
end
theorem putF_end {f : Str} {v : V} : ∀ {fs : List (Str × V)}, (∀ p ∈ fs, p.1 ≠ f) → putF f v fs = fs ++ [(f, v)]
  | [], _ => rfl
  | p :: r, h => by
    show (if p.1 = f then _ else _) = _
    rw [if_neg (h p List.mem_cons_self), putF_end fun q hq => h q (List.mem_cons_of_mem _ hq)]
    rfl
theorem sTP : ("table" : Str) ≠ "painted" := by decide +kernel
theorem sTW : ("table" : Str) ≠ "walker" := by decide +kernel
theorem sPW : ("painted" : Str) ≠ "walker" := by decide +kernel
theorem sTG : ("table" : Str) ≠ "ground" := by decide +kernel
theorem sGP : ("ground" : Str) ≠ "painted" := by decide +kernel
theorem sGW : ("ground" : Str) ≠ "walker" := by decide +kernel
theorem strF0 (tv gv : V) : putF "ground" gv [("table", tv)] = ([("table", tv), ("ground", gv)] : List (Str × V)) := putF_end fun p hp => by
  rw [List.mem_singleton.mp hp]
  exact sTG
theorem strF1 (tv gv : V) (D : Addr) : putF "painted" (.ref D) [("table", tv), ("ground", gv)] = ([("table", tv), ("ground", gv), ("painted", .ref D)] : List (Str × V)) := putF_end fun p hp => by
  rcases List.mem_cons.mp hp with rfl | hp
  · exact sTP
  · rw [List.mem_singleton.mp hp]
    exact sGP
theorem strF2 (tv gv : V) (D : Addr) (wv : V) : putF "walker" wv [("table", tv), ("ground", gv), ("painted", .ref D)] = strF tv gv D wv := putF_end fun p hp => by
  rcases List.mem_cons.mp hp with rfl | hp
  · exact sTW
  · rcases List.mem_cons.mp hp with rfl | hp
    · exact sGW
    · rw [List.mem_singleton.mp hp]
      exact sPW
theorem strF3 (tv gv : V) (D : Addr) (wv wv' : V) : putF "walker" wv' (strF tv gv D wv) = strF tv gv D wv' := by
  show (if ("table" : Str) = "walker" then _ else (("table" : Str), tv) :: (if ("ground" : Str) = "walker" then _ else (("ground" : Str), gv) :: (if ("painted" : Str) = "walker" then _ else (("painted" : Str), V.ref D) :: (if ("walker" : Str) = "walker" then _ else _)))) = _
  rw [if_neg sTW, if_neg sGW, if_neg sPW, if_pos rfl]
theorem lkT (tv gv : V) (D : Addr) (wv : V) : (strF tv gv D wv).lookup ("table" : Str) = some tv := by
  simp only [List.lookup_cons, beq_self_eq_true]
theorem lkG (tv gv : V) (D : Addr) (wv : V) : (strF tv gv D wv).lookup ("ground" : Str) = some gv := by
  simp only [List.lookup_cons, beq_self_eq_true, show (("ground" : Str) == "table") = false from beq_false_of_ne (Ne.symm sTG)]
theorem lkP (tv gv : V) (D : Addr) (wv : V) : (strF tv gv D wv).lookup ("painted" : Str) = some (.ref D) := by
  simp only [List.lookup_cons, beq_self_eq_true, show (("painted" : Str) == "table") = false from beq_false_of_ne (Ne.symm sTP), show (("painted" : Str) == "ground") = false from beq_false_of_ne (Ne.symm sGP)]
theorem lkW (tv gv : V) (D : Addr) (wv : V) : (strF tv gv D wv).lookup ("walker" : Str) = some wv := by
  simp only [List.lookup_cons, beq_self_eq_true, show (("walker" : Str) == "table") = false from beq_false_of_ne (Ne.symm sTW), show (("walker" : Str) == "ground") = false from beq_false_of_ne (Ne.symm sGW), show (("walker" : Str) == "painted") = false from beq_false_of_ne (Ne.symm sPW)]
/-- a name that is no field -/
theorem lkNo {n : Str} (tv gv : V) (D : Addr) (wv : V) (h : ((n == "table") || ((n == "ground") || ((n == "painted") || (n == "walker")))) = false) : (strF tv gv D wv).lookup n = none := by
  rw [Bool.or_eq_false_iff, Bool.or_eq_false_iff, Bool.or_eq_false_iff] at h
  simp only [List.lookup_cons, List.lookup_nil, h.1, h.2.1, h.2.2.1, h.2.2.2]
theorem small3k {n : Nat} (h : n ≤ 3000) : n < sizeLine := Nat.lt_of_le_of_lt h (by decide)
theorem tab_get {K : PySem.W.Frag} {H : Hp} {T : List (List Ent)} {c n : Nat} (ok : TabOk c n T) {s k : Int} (hs : 0 ≤ s ∧ s < n) (hk : 0 ≤ k ∧ k < c) {tv : V} (hv : Tp K H tv (tabD T)) :
    ∃ a vs b ws ev, tv = .ref a ∧ SqT K H a vs ∧ atI vs s = some (.ref b) ∧ SqT K H b ws ∧ atI ws k = some ev ∧ Tp K H ev (entD (entAt T s k)) := by
  obtain ⟨a, vs, rfl, h1, h2⟩ := hv.tupI
  obtain ⟨r, e1, lr, e2, _⟩ := entAt_ok ok hs hk
  obtain ⟨rv, e3, h3⟩ := h2.get (i := s.toNat) (d := rowD r) (by rw [List.getElem?_map, e1]; rfl)
  obtain ⟨b, ws, rfl, h4, h5⟩ := h3.tupI
  obtain ⟨ev, e4, h6⟩ := h5.get (i := k.toNat) (d := entD (entAt T s k)) (by rw [List.getElem?_map, e2]; rfl)
  refine ⟨a, vs, b, ws, ev, rfl, h1, ?_, h4, ?_, h6⟩
  · rw [show s = (s.toNat : Int) by omega]
    exact atI_nat e3
  · rw [show k = (k.toNat : Int) by omega]
    exact atI_nat e4
theorem col_get (m : CM) (p : Pt) : ((look m p).map V.int).getD (.int 0) = .int (col m p) := by
  unfold col
  cases look m p <;> rfl
theorem isD_dT {H : Hp} {a : Addr} {kvs : List (List Key × V)} (h : H a = some (.dT kvs)) : IsD H a := .inr ⟨kvs, .inl h⟩
section
variable {P : Program} {w : World} {K : PySem.W.Frag} {mg : Str → Option Value} {base : Heap}
theorem ok_Stroll_init {C BA : Addr} (S : ClsS K mg C) (hB : ∀ H, Tp K H (.ref BA) blankD) (M : MetAtD K C "__init__" "Stroll.__init__" s_Stroll_init ["self", "table", "floor", "walker", "ground"] [.ref BA]) (C_painted_places : Cal P w K mg base CX0 "painted_places" 1 ["floor"] (spPlaces K)) : MCalD P w K mg base C "__init__" 2 ["self", "table", "floor", "walker", "ground"] (spInit3 K C) := by
  obtain ⟨f, fd, ds, me, F, v, b⟩ := M.meth
  refine ⟨f, fd, spInit K C, _, ds, me, F.ok sc_Stroll_init (fun vs H Q E h => ?_) (fun cdv A outer s H vs Q E hr h => ?_), v, b, fun vs H Q E h => ?_⟩
  · obtain ⟨a, dx, tv, fv, wv, gv, T, F, wk, rfl, _⟩ := h
    rfl
  · obtain ⟨a, dx, tv, fv, wv, gv, T, Fl, wk, rfl, ha, hgr, ht, hf, hw, asc, nz, hl, q⟩ := h
    refine ⟨_, (pss_cons (k_sfld (K := K) (pv 0) (pv 1) (by rfl))
      (pss_cons (k_sfld (K := K) (pv 0) (pv 4) (by rfl))
      (pss_cons (k_sfld (K := K) (pv 0) (pe_own C_painted_places hr (by first | decide | omega) (pa_cons (pv 2) pa_nil)) (by rfl))
      (pss_one (k_sfld (K := K) (pv 0) (pv 3) (by rfl)))))), ?_⟩
    have cl := S.cl
    have nT := S.nT
    have nG := S.nG
    have nP := S.nP
    have nW := S.nW
    have l0 : ([] : List (Str × V)).length < 1000 := by decide
    have k1 : KeepE [a] H (upd (upd H a (.ins C dx (putF "table" tv []))) a (.ins C dx (putF "ground" gv (putF "table" tv [])))) := (KeepE.put List.mem_cons_self).trans (KeepE.put List.mem_cons_self)
    have t1 : TK H (upd (upd H a (.ins C dx (putF "table" tv []))) a (.ins C dx (putF "ground" gv (putF "table" tv [])))) := KeepE.tk (E := [a]) k1 fun b hb => by
      rw [List.mem_singleton.mp hb]
      exact Soft.ins ha
    have ha1 : (upd (upd H a (.ins C dx (putF "table" tv []))) a (.ins C dx (putF "ground" gv (putF "table" tv [])))) a = some (.ins C dx [("table", tv), ("ground", gv)]) := by
      rw [upd_same]
      show some (HO.ins C dx (putF "ground" gv [("table", tv)])) = _
      rw [strF0]
    have hf1 := Tp.mono t1 _ _ hf
    have l1 : (putF "table" tv ([] : List (Str × V))).length < 1000 := by show 1 < 1000; decide
    walk_at "st"
    generalize hH1 : upd (upd H a (.ins C dx (putF "table" tv []))) a (.ins C dx (putF "ground" gv (putF "table" tv []))) = H1 at *
    intro D H2 nD hD s1
    have ha2 : H2 a = some (.ins C dx [("table", tv), ("ground", gv)]) := s1 _ _ ha1
    have neD : D ≠ a := fun z => by
      rw [z, ha1] at nD
      cases nD
    have nD0 : H D = none := by
      cases e : H D with
      | none => rfl
      | some o =>
        rw [k1 D o (fun z => neD (List.mem_singleton.mp z)) e] at nD
        cases nD
    have l2 : ([("table", tv), ("ground", gv)] : List (Str × V)).length < 1000 := by show 2 < 1000; decide
    walk_at "st"
    have ha3 : (upd H2 a (.ins C dx (putF "painted" (.ref D) [("table", tv), ("ground", gv)]))) a = some (.ins C dx [("table", tv), ("ground", gv), ("painted", .ref D)]) := by rw [upd_same, strF1]
    have l3 : ([("table", tv), ("ground", gv), ("painted", .ref D)] : List (Str × V)).length < 1000 := by show 3 < 1000; decide
    walk_at "st"
    have k2 : KeepE [a] H2 (upd (upd H2 a (.ins C dx (putF "painted" (.ref D) [("table", tv), ("ground", gv)]))) a (.ins C dx (putF "walker" wv [("table", tv), ("ground", gv), ("painted", .ref D)]))) := (KeepE.put List.mem_cons_self).trans (KeepE.put List.mem_cons_self)
    have t2 : TK H (upd (upd H2 a (.ins C dx (putF "painted" (.ref D) [("table", tv), ("ground", gv)]))) a (.ins C dx (putF "walker" wv [("table", tv), ("ground", gv), ("painted", .ref D)]))) := by
      refine (t1.trans (Same.tk s1)).trans (k2.tk fun b hb => ?_)
      rw [List.mem_singleton.mp hb]
      exact Soft.ins ha2
    refine q D _ nD0 ⟨⟨dx, tv, gv, wv, by rw [upd_same, strF1, strF2], Tp.mono t2 _ _ ht, Tp.mono t2 _ _ hw, Tp.mono t2 _ _ hgr⟩, by rw [upd_ne neD, upd_ne neD]; exact hD, asc_nd asc, fun e he => ?_⟩ ?_
    · obtain ⟨s', hs', rfl⟩ := List.mem_map.mp he
      exact nz s' hs'
    · exact (k1.trans (Same.keepE s1)).trans k2
  · obtain ⟨a, dx, tv, fv, wv, T, Fl, wk, rfl, ha, rest⟩ := h
    exact ⟨a, dx, tv, fv, wv, .ref BA, T, Fl, wk, rfl, ha, hB H, rest⟩
theorem ok_Stroll_col {C : Addr} (S : ClsS K mg C) (M : MetAt K C "colour_of" "Stroll.colour_of" s_Stroll_colour_of ["self", "place"]) : MCal P w K mg base C "colour_of" 1 ["self", "place"] (spColOf K C) := by
  obtain ⟨f, fd, me, F, b⟩ := M.meth
  refine ⟨f, fd, me, F.ok sc_Stroll_colour_of (fun vs H Q E h => ?_) (fun cdv A outer s H vs Q E hr h => ?_), b⟩
  · obtain ⟨a, D, p, T, m, wk, x, y, rfl, _⟩ := h
    rfl
  · obtain ⟨a, D, p, T, m, wk, x, y, rfl, hS, hp, q⟩ := h
    refine ⟨_, (pss_one (ps_ret (pe_dget2 (hu_of hr) (k_fld (K := K) (pv 0) (by rfl)) (pv 1) pe_int (by exact ⟨rfl, rfl, rfl, rfl⟩)))), ?_⟩
    have cl := S.cl
    have nP := S.nP
    obtain ⟨⟨dx, tv, gv, wv, ha, ht, hw, hgr⟩, hD, nd, nz⟩ := hS
    have fP := lkP tv gv D wv
    have dD := isD_dT hD
    have cg := col_get m (x, y)
    have hg : DGet H D (.ref p) (valV (cellK m) (ptK (x, y))) := DGet.t hD hp
    rw [cell_val] at hg
    walk_at "st"
    rw [cg]
    exact q
theorem ok_Stroll_paint {C : Addr} (S : ClsS K mg C) (M : MetAt K C "paint" "Stroll.paint" s_Stroll_paint ["self", "place", "colour"]) (C_paint_square : Cal P w K mg base CX0 "paint_square" 1 ["painted", "place", "colour"] spPaint) : MCal P w K mg base C "paint" 2 ["self", "place", "colour"] (spPaintO K C) := by
  obtain ⟨f, fd, me, F, b⟩ := M.meth
  refine ⟨f, fd, me, F.ok sc_Stroll_paint (fun vs H Q E h => ?_) (fun cdv A outer s H vs Q E hr h => ?_), b⟩
  · obtain ⟨a, D, p, T, m, wk, x, y, c, rfl, _⟩ := h
    rfl
  · obtain ⟨a, D, p, T, m, wk, x, y, c, rfl, hS, hp, hl, q⟩ := h
    refine ⟨_, (pss_one (ps_expr (pe_own C_paint_square hr (by first | decide | omega) (pa_cons (k_fld (K := K) (pv 0) (by rfl)) (pa_cons (pv 1) (pa_cons (pv 2) pa_nil)))))), ?_⟩
    have cl := S.cl
    have nP := S.nP
    obtain ⟨⟨dx, tv, gv, wv, ha, ht, hw, hgr⟩, hD, nd, nz⟩ := hS
    have fP := lkP tv gv D wv
    walk_at "st"
    intro H' hD' k'
    walk_at "st"
    exact q H' hD' k'
end

theorem step_none {T : List (List Ent)} {z : WSt} (h : entAt T z.2.2.2.2 (z.1 (wPt z.2)) = none) : stepW T z = none := by
  unfold stepW
  rw [h]
  rfl
theorem step_some {T : List (List Ent)} {z : WSt} {e : Int × Int × Int} (h : entAt T z.2.2.2.2 (z.1 (wPt z.2)) = some e) : stepW T z = some (dab z.1 (wPt z.2) e.1, behind z.2 e) := by
  unfold stepW
  rw [h]
  rfl
theorem StrAt.mv {K : PySem.W.Frag} {C : Addr} {H H' : Hp} {a D : Addr} {T : List (List Ent)} {m : CM} {w : Wk} (h : StrAt K C H a D T m w) (t : TK H H') (ea : H' a = H a) (ed : H' D = H D) : StrAt K C H' a D T m w := by
  obtain ⟨⟨dx, tv, gv, wv, e, h1, h2, h3⟩, hD, nd, nz⟩ := h
  exact ⟨⟨dx, tv, gv, wv, ea.trans e, Tp.mono t _ _ h1, Tp.mono t _ _ h2, Tp.mono t _ _ h3⟩, ed.trans hD, nd, nz⟩
theorem StrAt.same {K : PySem.W.Frag} {C : Addr} {H H' : Hp} {a D : Addr} {T : List (List Ent)} {m : CM} {w : Wk} (h : StrAt K C H a D T m w) (s : Same H H') : StrAt K C H' a D T m w := by
  obtain ⟨dx, tv, gv, wv, e, _⟩ := h.ob
  exact h.mv (Same.tk s) ((s _ _ e).trans e.symm) ((s _ _ h.dc).trans h.dc.symm)

/-! ### what a stroll tells of its steps -/
def toldD (T : List (List Ent)) (y : WSt) : PyData := .tuple [wkD y.2, .int (y.1 (wPt y.2)), .int (((entAt T y.2.2.2.2 (y.1 (wPt y.2))).map (·.1)).getD 0)]
def toldL (T : List (List Ent)) (z : WSt) : Nat → List PyData
  | 0 => []
  | k + 1 => toldL T z k ++ (match runW T k z with | some y => [toldD T y] | none => [])
theorem toldL_some {T : List (List Ent)} {z y : WSt} {k : Nat} {e : Int × Int × Int} (h : runW T k z = some y) (he : entAt T y.2.2.2.2 (y.1 (wPt y.2)) = some e) : toldL T z (k + 1) = toldL T z k ++ [.tuple [wkD y.2, .int (y.1 (wPt y.2)), .int e.1]] := by
  show toldL T z k ++ (match runW T k z with | some y => [toldD T y] | none => []) = _
  rw [h]
  show toldL T z k ++ [toldD T y] = _
  unfold toldD
  rw [he]
  rfl
def spGo2 (K : PySem.W.Frag) (C : Addr) : Sp := fun vs H Q _ => ∃ (a D : Addr) (T : List (List Ent)) (m : CM) (w : Wk) (c n : Nat) (B many : Int), vs = [.ref a, .int many] ∧ StrAt K C H a D T m w ∧ TabOk c n T ∧ Fit c n B (col m, w) ∧ (m.length : Int) + many ≤ 3000 ∧ 0 ≤ many ∧
  ∀ (L : Addr) (vs' : List V) (i : Nat) (m' : CM) (w' : Wk) H', H L = none → Ends T (col m, w) many.toNat i (col m', w') → StrAt K C H' a D T m' w' → m'.length ≤ m.length + i → H' L = some (.lst vs') → vs'.length = i → KeepE [a, D] H H' → TpAll K H' vs' (toldL T (col m, w) i) → Q (.ref L) H'
section
variable {P : Program} {w : World} {K : PySem.W.Frag} {mg : Str → Option Value} {base : Heap}
theorem ok_Stroll_go2 (T : Txt K mg) {C : Addr} (S : ClsS K mg C) (MCl : MCal P w K mg base C "colour_of" 1 ["self", "place"] (spColOf K C)) (MPa : MCal P w K mg base C "paint" 2 ["self", "place", "colour"] (spPaintO K C)) (M : MetAt K C "go" "Stroll.go" s_Stroll_go ["self", "many"]) (C_walker_behind : Cal P w K mg base CX0 "_walker_behind" 1 ["walker", "entry"] (spBehind K)) : MCal P w K mg base C "go" 3 ["self", "many"] (spGo2 K C) := by
  obtain ⟨f, fd, me, F, b⟩ := M.meth
  refine ⟨f, fd, me, F.ok sc_Stroll_go (fun vs H Q E h => ?_) (fun cdv A outer s H vs Q E hr h => ?_), b⟩
  · obtain ⟨a, D, Tb, m, wk, c, n, B, many, rfl, _⟩ := h
    rfl
  · obtain ⟨a, D, Tb, m, wk, c, n, B, many, rfl, hS, ok, fit, hm2, h0, q⟩ := h
    refine ⟨_, (pss_cons (ps_set (i := 2) sc_Stroll_go.nd rfl (Or.inl rfl) (pe_lst pa_nil))
      (pss_cons (ps_for PassesOwn.never rfl (pi_range1 (by rfl) T.m_range (pa_cons (pv 1) pa_nil)) (pg_name (i := 3) sc_Stroll_go.nd rfl (Or.inl rfl))
      (pss_cons (ps_set (i := 4) sc_Stroll_go.nd rfl (Or.inl rfl) (pe_slice (k_sl_tup (K := K)) (k_fld (K := K) (pv 0) (by rfl)) po_none (po_some pe_int)))
      (pss_cons (ps_set (i := 5) sc_Stroll_go.nd rfl (Or.inl rfl) (pe_ownM MCl S.cl hr (by decide) (pv 0) (pa_cons (pv 4) pa_nil)))
      (pss_cons (ps_set (i := 6) sc_Stroll_go.nd rfl (Or.inl rfl) (pe_ix (k_ix_tup (K := K)) (pe_ix (k_ix_tup (K := K)) (k_fld (K := K) (pv 0) (by rfl)) (pe_ix (k_ix_tup (K := K)) (k_fld (K := K) (pv 0) (by rfl)) pe_int (fun _ _ => rfl)) (fun _ _ => rfl)) (pv 5) (fun _ _ => rfl)))
      (pss_cons (ps_if (pt_cmpR op_isN (pv 6) pe_non (nomark _)) (pss_one ps_break) pss_nil)
      (pss_cons (ps_expr (pe_ownM MPa S.cl hr (by decide) (pv 0) (pa_cons (pv 4) (pa_cons (pe_ix (k_ix_tup (K := K)) (pv 6) pe_int (fun _ _ => rfl)) pa_nil))))
      (pss_cons (ps_expr (pe_bm PySem.F.plainAttrs_list PySem.F.slot_list_append PySem.F.type_list_append mt_append (pv 2) (pa_cons (pe_tup (pa_cons (k_fld (K := K) (pv 0) (by rfl)) (pa_cons (pv 5) (pa_cons (pe_ix (k_ix_tup (K := K)) (pv 6) pe_int (fun _ _ => rfl)) pa_nil)))) pa_nil)))
      (pss_one (k_sfld (K := K) (pv 0) (pe_own C_walker_behind hr (by first | decide | omega) (pa_cons (k_fld (K := K) (pv 0) (by rfl)) (pa_cons (pv 6) pa_nil))) (by rfl))))))))))
      (pss_one (ps_ret (pv 2))))), ?_⟩
    have cl := S.cl
    have nT := S.nT
    have nP := S.nP
    have nW := S.nW
    walk_at "st"
    intro L nL
    have soft := hS.soft
    have nLa : L ∉ [a, D] := fun z => by
      obtain ⟨dx, tv, gv, wv, e, _⟩ := hS.ob
      rcases List.mem_cons.mp z with z | z
      · rw [z, e] at nL
        cases nL
      · rw [List.mem_singleton.mp z, hS.dc] at nL
        cases nL
    walk_at "st"
    refine for_range (lo := 0) (n := many.toNat) (fun i σ H' => Ok (∃ (y3 y4 y5 y6 : Option V) (vs' : List V) (m' : CM) (w' : Wk), σ = [some (.ref a), some (.int many), some (.ref L), y3, y4, y5, y6] ∧
      runW Tb i (col m, wk) = some (col m', w') ∧ StrAt K C H' a D Tb m' w' ∧ m'.length ≤ m.length + i ∧ H' L = some (.lst vs') ∧ vs'.length = i ∧ KeepE [a, D] H H' ∧ TpAll K H' vs' (toldL Tb (col m, wk) i))) ?_ ?_ ?_
    · exact ⟨_, _, _, _, [], m, wk, rfl, rfl, hS.same (Same.new nL), Nat.le_refl _, upd_same, rfl, KeepE.new nL, .nil⟩
    · rintro i σ H' hi ⟨y3, y4, y5, y6, vs', m', w', rfl, hrun, hS', hml, hL, hvl, kp, htl⟩
      have fit' := fit.run ok hrun
      have softS := hS'.soft
      have neaD := hS'.ne
      obtain ⟨⟨dx, tv, gv, wv, ha, ht, hw, hgr⟩, hD, nd, nz⟩ := id hS'
      have fT := lkT tv gv D wv
      have noC := lkNo (n := "colour_of") tv gv D wv (by decide +kernel)
      have fW := lkW tv gv D wv
      obtain ⟨wa, rfl, hsw⟩ := hw.int4
      have cb := fit'.cols (wPt w')
      have stb := fit'.st
      have neLD : L ≠ D := fun z => nLa (z ▸ List.mem_cons_of_mem _ List.mem_cons_self)
      have neLa : L ≠ a := fun z => nLa (z ▸ List.mem_cons_self)
      walk_at "st"
      intro p np
      have s1 : Same H' (upd H' p (.tup [.int w'.1, .int w'.2.1])) := Same.new np
      have hp1 : (upd H' p (.tup [.int w'.1, .int w'.2.1])) p = some (.tup [.int w'.1, .int w'.2.1]) := upd_same
      generalize hH1 : upd H' p (.tup [.int w'.1, .int w'.2.1]) = H1 at s1 hp1
      have ha1 := s1 _ _ ha
      have hD1 := s1 _ _ hD
      have hL1 := s1 _ _ hL
      have hsw1 := TK.seqT (Same.tk s1) hsw
      have hw1 := Tp.mono (Same.tk s1) _ _ hw
      obtain ⟨ta, tvs, rb, rws, ev, rfl, h1, h2, h3, h4, h5⟩ := tab_get ok stb cb (Tp.mono (Same.tk s1) _ _ ht)
      have kp1 : KeepE [a, D] H H1 := kp.trans (Same.keepE s1)
      have hS1 := hS'.same s1
      rw [show (upd H' p (.tup (cutV [.int w'.1, .int w'.2.1, .int w'.2.2.1, .int w'.2.2.2] none (some 2)))) = H1 from hH1]
      cases he : entAt Tb w'.2.2.2 (col m' (wPt w')) with
      | none =>
        have h5 : Tp K H1 ev (entD none) := he ▸ h5
        obtain rfl := h5.nonI
        walk_at "st"
        exact q L vs' i m' w' H1 nL ⟨hrun, Nat.le_of_lt hi, .inr (step_none he)⟩ hS1 hml hL1 hvl kp1 (TpAll.mono (Same.tk s1) _ _ htl)
      | some e =>
        have h5 : Tp K H1 ev (entD (some e)) := he ▸ h5
        obtain ⟨u, rfl, hse⟩ := h5.int3
        have hm3 : m'.length ≤ 3000 := by omega
        have noP := lkNo (n := "paint") (.ref ta) gv D (.ref wa) (by decide +kernel)
        walk_at "st"
        intro H2 hD2 k2
        have softD : ∀ b ∈ [D], Soft H1 b := fun b hb => by
          rw [List.mem_singleton.mp hb]
          exact Soft.dT hD1
        have t2 : TK H1 H2 := k2.tk softD
        have ha2 : H2 a = some (.ins C dx (strF (.ref ta) gv D (.ref wa))) := k2 _ _ (fun z => neaD (List.mem_singleton.mp z)) ha1
        have hL2 : H2 L = some (.lst vs') := k2 _ _ (fun z => neLD (List.mem_singleton.mp z)) hL1
        have hse2 := t2.seqT hse
        have hw2 := Tp.mono t2 _ _ hw1
        have h52 := Tp.mono t2 _ _ h5
        have ht1 := Tp.mono (Same.tk s1) _ _ ht
        have kp2 : KeepE [a, D] H H2 := kp1.trans (k2.mono fun b hb => List.mem_cons_of_mem _ hb)
        walk_at "st"
        intro t nt
        rw [show col m' (w'.1, w'.2.1) = col m' (wPt w') from rfl]
        have hsz : vs'.length < sizeLine := small3k (by omega)
        have hL3 : (upd H2 t (.tup [.ref wa, .int (col m' (wPt w')), .int e.1])) L = some (.lst vs') := by rw [upd_ne (ne_of_none hL2 nt)]; exact hL2
        have s3 : Same H2 (upd H2 t (.tup [.ref wa, .int (col m' (wPt w')), .int e.1])) := Same.new nt
        walk_at "st"
        have t4 : TK H2 (upd (upd H2 t (.tup [.ref wa, .int (col m' (wPt w')), .int e.1])) L (.lst (vs' ++ [.ref t]))) := (Same.tk s3).trans (TK.lst hL3)
        have ha4 : (upd (upd H2 t (.tup [.ref wa, .int (col m' (wPt w')), .int e.1])) L (.lst (vs' ++ [.ref t]))) a = some (.ins C dx (strF (.ref ta) gv D (.ref wa))) := by
          rw [upd_ne neLa.symm]
          exact s3 _ _ ha2
        have hD4 : (upd (upd H2 t (.tup [.ref wa, .int (col m' (wPt w')), .int e.1])) L (.lst (vs' ++ [.ref t]))) D = some (.dT (cellK (paintM m' (w'.1, w'.2.1) e.1))) := by
          rw [upd_ne neLD.symm]
          exact s3 _ _ hD2
        have hL4 : (upd (upd H2 t (.tup [.ref wa, .int (col m' (wPt w')), .int e.1])) L (.lst (vs' ++ [.ref t]))) L = some (.lst (vs' ++ [.ref t])) := upd_same
        have kp4 : KeepE [a, D] H (upd (upd H2 t (.tup [.ref wa, .int (col m' (wPt w')), .int e.1])) L (.lst (vs' ++ [.ref t]))) := (kp2.trans (Same.keepE s3)).fresh nL
        have hw4 := Tp.mono t4 _ _ hw2
        have hT4 : Tp K (upd (upd H2 t (.tup [.ref wa, .int (col m' (wPt w')), .int e.1])) L (.lst (vs' ++ [.ref t]))) (.ref t) (.tuple [wkD w', .int (col m' (wPt w')), .int e.1]) := .tup ((TK.lst hL3).seqT (SqT.of upd_same)) (.cons hw4 (.cons (.int _) (.cons (.int _) .nil)))
        have he4 := Tp.mono t4 _ _ h52
        have ht4 := Tp.mono ((t2).trans t4) _ _ ht1
        generalize hH4 : upd (upd H2 t (.tup [.ref wa, .int (col m' (wPt w')), .int e.1])) L (.lst (vs' ++ [.ref t])) = H4 at *
        walk_at "st"
        intro v H5 hv5 s5
        have ha5 := s5 _ _ ha4
        have l3 : (strF (.ref ta) gv D (.ref wa)).length < 1000 := by show 4 < 1000; decide
        walk_at "st"
        have soft5 : ∀ b ∈ [a], Soft H5 b := fun b hb => by
          rw [List.mem_singleton.mp hb]
          exact Soft.ins ha5
        have k6 : KeepE [a] H5 (upd H5 a (.ins C dx (putF "walker" v (strF (.ref ta) gv D (.ref wa))))) := KeepE.put List.mem_cons_self
        have t6 := k6.tk soft5
        have t06 := (Same.tk s1).trans (t2.trans (t4.trans ((Same.tk s5).trans t6)))
        have ec : col (paintM m' (w'.1, w'.2.1) e.1) = dab (col m') (wPt w') e.1 := paint_col _ _ nd
        refine ⟨_, _, _, _, vs' ++ [.ref t], paintM m' (w'.1, w'.2.1) e.1, behind w' e, rfl, ?_, ⟨⟨dx, .ref ta, gv, v, by rw [upd_same, strF3], Tp.mono ((Same.tk s5).trans t6) _ _ ht4, Tp.mono t6 _ _ hv5, Tp.mono ((Same.tk s1).trans (t2.trans (t4.trans ((Same.tk s5).trans t6)))) _ _ hgr⟩, ?_, paint_nd _ _ nd, paint_nz nz⟩, ?_, ?_, ?_, ?_, ?_⟩
        · show (runW Tb i (col m, wk)).bind (stepW Tb) = _
          rw [hrun, ec]
          exact step_some he
        · rw [upd_ne (Ne.symm neaD)]
          exact s5 _ _ hD4
        · have := paint_len m' (w'.1, w'.2.1) e.1
          omega
        · rw [upd_ne neLa]
          exact s5 _ _ hL4
        · rw [List.length_append, hvl]
          rfl
        · exact (kp4.trans (Same.keepE s5)).trans (k6.mono fun b hb => by rw [List.mem_singleton.mp hb]; exact List.mem_cons_self)
        · rw [toldL_some hrun he]
          exact TpAll.append (TpAll.mono t06 _ _ htl) (.cons (Tp.mono ((Same.tk s5).trans t6) _ _ hT4) .nil)
    · rintro σ H' ⟨y3, y4, y5, y6, vs', m', w', rfl, hrun, hS', hml, hL, hvl, kp, htl⟩
      walk_at "st"
      exact q L vs' many.toNat m' w' H' nL ⟨hrun, Nat.le_refl _, .inl rfl⟩ hS' hml hL hvl kp htl
end
theorem go_of2 {P : Program} {w : World} {K : PySem.W.Frag} {mg : Str → Option Value} {base : Heap} {C : Addr} (M : MCal P w K mg base C "go" 3 ["self", "many"] (spGo2 K C)) : MCal P w K mg base C "go" 3 ["self", "many"] (spGo K C) := by
  obtain ⟨f, fd, me, F, b⟩ := M.ex
  refine ⟨f, fd, me, F.imp fun vs H Q E h => ?_, b⟩
  obtain ⟨a, D, T, m, w, c, n, B, many, rfl, h1, h2, h3, h4, h5, q⟩ := h
  exact ⟨a, D, T, m, w, c, n, B, many, rfl, h1, h2, h3, h4, h5, fun L vs' i m' w' H' g1 g2 g3 g4 g5 g6 g7 _ => q L vs' i m' w' H' g1 g2 g3 g4 g5 g6 g7⟩

/-! ### walk -/
/-- table, floor and walker that may be handed in -/
structure StandOk (c n : Nat) (B : Int) (T : List (List Ent)) (F : List Sq) (w : Wk) : Prop where
  tab : TabOk c n T
  good : tabB T = true
  n1 : 1 ≤ n
  c1 : 1 ≤ c
  fl : FlOk c B F
  wk : InB B (wPt w)
  hd : 0 ≤ w.2.2.1 ∧ w.2.2.1 < 4
  st : 0 ≤ w.2.2.2 ∧ w.2.2.2 < n
theorem StandOk.fit {c n : Nat} {B : Int} {T : List (List Ent)} {F : List Sq} {w : Wk} (h : StandOk c n B T F w) : Fit c n B (colF F, w) := h.fl.fit h.c1 h.wk h.hd h.st
theorem FlOk.mono {c : Nat} {B B' : Int} {F : List Sq} (h : FlOk c B F) (l : B ≤ B') : FlOk c B' F := ⟨h.asc, fun s hs => ⟨(h.sq s hs).1.mono l, (h.sq s hs).2⟩⟩
theorem StandOk.mono {c n : Nat} {B B' : Int} {T : List (List Ent)} {F : List Sq} {w : Wk} (h : StandOk c n B T F w) (l : B ≤ B') : StandOk c n B' T F w := ⟨h.tab, h.good, h.n1, h.c1, h.fl.mono l, h.wk.mono l, h.hd, h.st⟩
def spStand (K : PySem.W.Frag) : Sp := fun vs H Q _ => ∃ (tv fv wv : V) (c n : Nat) (T : List (List Ent)) (F : List Sq) (w : Wk), vs = [tv, fv, wv] ∧ Tp K H tv (tabD T) ∧ Tp K H fv (floorD F) ∧ Tp K H wv (wkD w) ∧ StandOk c n FarI T F w ∧ F.length ≤ 1000 ∧ ∀ H', Same H H' → Q .non H'
def stepD (F : List Sq) (w : Wk) : PyData := .tuple [floorD F, wkD w]
def walkD (F : List Sq) (w : Wk) (i : Nat) : PyData := .tuple [floorD F, wkD w, .int i]
def spWalk (K : PySem.W.Frag) : Sp := fun vs H Q _ => ∃ (tv fv wv : V) (many : Int) (c n : Nat) (T : List (List Ent)) (F : List Sq) (w : Wk), vs = [tv, fv, wv, .int many] ∧ Tp K H tv (tabD T) ∧ Tp K H fv (floorD F) ∧ Tp K H wv (wkD w) ∧ StandOk c n FarI T F w ∧ F.length ≤ 1000 ∧ 0 ≤ many ∧ many ≤ 1000 ∧
  ∀ v H' i F' z, Ends T (colF F, w) many.toNat i z → FloorOf z.1 F' → F'.length ≤ F.length + i → Tp K H' v (walkD F' z.2 i) → Same H H' → Q v H'
section
variable {P : Program} {w : World} {K : PySem.W.Frag} {mg : Str → Option Value} {base : Heap}
theorem ok_check_stand (T : Txt K mg) (D : DefAt K mg "check_stand" s_check_stand ["table", "floor", "walker"]) (C_check_table : Cal P w K mg base CX0 "check_table" 4 ["value"] (spCheckT K)) (C_check_floor : Cal P w K mg base CX0 "check_floor" 4 ["value", "colours"] (spFloorOk K)) (C_check_walker : Cal P w K mg base CX0 "check_walker" 4 ["value", "states"] (spCheckW K)) : Cal P w K mg base CX0 "check_stand" 5 ["table", "floor", "walker"] (spStand K) := by
  refine D.cal sc_check_stand (fun vs H Q E h => ?_) (fun f cdv A outer s H vs Q E hr h => ?_)
  · obtain ⟨tv, fv, wv, c, n, T, F, wk, rfl, _⟩ := h
    rfl
  · obtain ⟨tv, fv, wv, c, n, Tb, F, wk, rfl, ht, hf, hw, hs, hl, q⟩ := h
    refine ⟨_, (pss_cons (ps_expr (pe_own C_check_table hr (by first | decide | omega) (pa_cons (pv 0) pa_nil)))
      (pss_cons (ps_expr (pe_own C_check_floor hr (by first | decide | omega) (pa_cons (pv 1) (pa_cons (pe_callB (k_len_t (K := K)) (by rfl) T.m_len (by decide +kernel) (pa_cons (pe_ix (k_ix_tup (K := K)) (pv 0) pe_int (fun _ _ => rfl)) pa_nil)) pa_nil))))
      (pss_one (ps_expr (pe_own C_check_walker hr (by first | decide | omega) (pa_cons (pv 2) (pa_cons (pe_callB (k_len_t (K := K)) (by rfl) T.m_len (by decide +kernel) (pa_cons (pv 0) pa_nil)) pa_nil))))))), ?_⟩
    have hg := hs.good
    walk_at "st"
    intro H1 s1
    have ht1 := Tp.mono (Same.tk s1) _ _ ht
    have hf1 := Tp.mono (Same.tk s1) _ _ hf
    have hw1 := Tp.mono (Same.tk s1) _ _ hw
    obtain ⟨a, vs, rfl, h1, h2⟩ := ht1.tupI
    have hlen : vs.length = n := by rw [TpAll.length h2, List.length_map, hs.tab.1]
    have l0 : 0 < Tb.length := by rw [hs.tab.1]; exact hs.n1
    obtain ⟨rv, e3, h3⟩ := h2.get (i := 0) (d := rowD Tb[0]) (by rw [List.getElem?_map, List.getElem?_eq_getElem l0]; rfl)
    obtain ⟨b, ws, rfl, h4, h5⟩ := h3.tupI
    have hlen2 : ws.length = c := by
      rw [TpAll.length h5, List.length_map]
      exact (hs.tab.2 _ (List.getElem_mem l0)).1
    have hat : atI vs (0 : Int) = some (.ref b) := atI_nat (j := 0) e3
    have hfl := hs.fl
    walk_at "st"
    rw [hlen2]
    refine ⟨hfl, hl, fun H2 s2 => ?_⟩
    have h12 := TK.seqT (Same.tk s2) h1
    have hw2 := Tp.mono (Same.tk s2) _ _ hw1
    walk_at "st"
    have st := hs.st
    refine ⟨hs.wk, hs.hd, ⟨st.1, by omega⟩, fun H3 s3 => ?_⟩
    walk_at "st"
    exact q H3 (Same.trans s1 (Same.trans s2 s3))
end

/-! ### teams: one step in turn, beats -/
abbrev TSt := (Pt → Int) × List Wk
def oneT (T : List (List Ent)) (z : WSt) : WSt := (stepW T z).getD z
def tick (T : List (List Ent)) (s : TSt) (k : Nat) : TSt := match s.2[k]? with
  | none => s
  | some w => ((oneT T (s.1, w)).1, s.2.set k (oneT T (s.1, w)).2)
def upto (T : List (List Ent)) (s : TSt) : Nat → TSt
  | 0 => s
  | k + 1 => tick T (upto T s k) k
def beatT (T : List (List Ent)) (s : TSt) : Nat → TSt
  | 0 => s
  | b + 1 => upto T (beatT T s b) s.2.length
def itT (T : List (List Ent)) (z : WSt) : Nat → WSt
  | 0 => z
  | n + 1 => oneT T (itT T z n)
section
variable {T : List (List Ent)}
theorem tick_at {s : TSt} {k : Nat} {w : Wk} (h : s.2[k]? = some w) : tick T s k = ((oneT T (s.1, w)).1, s.2.set k (oneT T (s.1, w)).2) := by
  unfold tick
  rw [h]
theorem tick_len (s : TSt) (k : Nat) : (tick T s k).2.length = s.2.length := by
  unfold tick
  cases s.2[k]? with
  | none => rfl
  | some w => exact List.length_set
theorem upto_len (s : TSt) : ∀ k, (upto T s k).2.length = s.2.length
  | 0 => rfl
  | k + 1 => (tick_len _ _).trans (upto_len s k)
theorem beat_len (s : TSt) : ∀ b, (beatT T s b).2.length = s.2.length
  | 0 => rfl
  | b + 1 => (upto_len _ _).trans (beat_len s b)
theorem beat_one (z : WSt) : ∀ b, beatT T (z.1, [z.2]) b = ((itT T z b).1, [(itT T z b).2])
  | 0 => rfl
  | b + 1 => by
    show upto T (beatT T (z.1, [z.2]) b) 1 = _
    rw [beat_one z b]
    rfl
theorem it_add (z : WSt) (i : Nat) : ∀ k, itT T z (i + k) = itT T (itT T z i) k
  | 0 => rfl
  | k + 1 => by
    show oneT T (itT T z (i + k)) = oneT T (itT T (itT T z i) k)
    rw [it_add z i k]
theorem one_some {z z' : WSt} (h : stepW T z = some z') : oneT T z = z' := by
  unfold oneT
  rw [h]
  rfl
theorem one_none {z : WSt} (h : stepW T z = none) : oneT T z = z := by
  unfold oneT
  rw [h]
  rfl
theorem it_run {z : WSt} : ∀ {i : Nat} {z' : WSt}, runW T i z = some z' → itT T z i = z'
  | 0, z', h => Option.some.inj h
  | i + 1, z', h => by
    have h : (runW T i z).bind (stepW T) = some z' := h
    cases e : runW T i z with
    | none =>
      rw [e] at h
      cases h
    | some y =>
      rw [e] at h
      show oneT T (itT T z i) = z'
      rw [it_run e]
      exact one_some h
theorem it_stuck {z : WSt} (h : stepW T z = none) : ∀ k, itT T z k = z
  | 0 => rfl
  | k + 1 => by
    show oneT T (itT T z k) = z
    rw [it_stuck h k]
    exact one_none h
theorem Ends.it {z z' : WSt} {many i : Nat} (h : Ends T z many i z') : itT T z many = z' := by
  have l := h.le
  rw [show many = i + (many - i) by omega, it_add, it_run h.run]
  rcases h.stop with e | e
  · rw [show many - i = 0 by omega]
    rfl
  · exact it_stuck e _
/-- one walker goes as alone -/
theorem Ends.beat {z z' : WSt} {many i : Nat} (h : Ends T z many i z') : beatT T (z.1, [z.2]) many = (z'.1, [z'.2]) := by
  rw [beat_one, h.it]
/-! ### teams that fit -/
structure FitT (c n : Nat) (s : TSt) : Prop where
  cols : ∀ p, 0 ≤ s.1 p ∧ s.1 p < c
  near : ∃ B, (∀ p, s.1 p ≠ 0 → InB B p) ∧ ∀ w ∈ s.2, InB B (wPt w)
  wks : ∀ w ∈ s.2, (0 ≤ w.2.2.1 ∧ w.2.2.1 < 4) ∧ (0 ≤ w.2.2.2 ∧ w.2.2.2 < n)
theorem FitT.at {c n : Nat} {s : TSt} (h : FitT c n s) {w : Wk} (m : w ∈ s.2) : ∃ B, Fit c n B (s.1, w) := by
  obtain ⟨B, h1, h2⟩ := h.near
  exact ⟨B, h.cols, h1, h2 w m, (h.wks w m).1, (h.wks w m).2⟩
theorem FitT.tick {c n : Nat} (ok : TabOk c n T) {s : TSt} (h : FitT c n s) (k : Nat) : FitT c n (tick T s k) := by
  cases e : s.2[k]? with
  | none =>
    unfold Sb.tick
    rw [e]
    exact h
  | some w =>
    rw [tick_at e]
    have hm : w ∈ s.2 := List.mem_of_getElem? e
    obtain ⟨B, h1, h2⟩ := h.near
    have g : Fit c n B (s.1, w) := ⟨h.cols, h1, h2 w hm, (h.wks w hm).1, (h.wks w hm).2⟩
    have g2 : Fit c n (B + 1) (oneT T (s.1, w)) := by
      cases e2 : stepW T (s.1, w) with
      | none =>
        rw [one_none e2]
        exact ⟨g.cols, fun p hp => (g.near p hp).mono (by omega), g.wk.mono (by omega), g.hd, g.st⟩
      | some z =>
        rw [one_some e2]
        exact g.step ok e2
    refine ⟨g2.cols, ⟨B + 1, g2.near, fun v hv => ?_⟩, fun v hv => ?_⟩
    · rcases List.mem_or_eq_of_mem_set hv with q | q
      · exact (h2 v q).mono (by omega)
      · rw [q]
        exact g2.wk
    · rcases List.mem_or_eq_of_mem_set hv with q | q
      · exact h.wks v q
      · rw [q]
        exact ⟨g2.hd, g2.st⟩
theorem FitT.upto {c n : Nat} (ok : TabOk c n T) {s : TSt} (h : FitT c n s) : ∀ k, FitT c n (upto T s k)
  | 0 => h
  | k + 1 => (h.upto ok k).tick ok k
theorem FitT.beat {c n : Nat} (ok : TabOk c n T) {s : TSt} (h : FitT c n s) : ∀ b, FitT c n (beatT T s b)
  | 0 => h
  | b + 1 => (h.beat ok b).upto ok _
end

/-! ### the extreme corner: a turning table whose rounds turn both ways comes to no stand twice -/
def Turning (T : List (List Ent)) (c : Nat) (pa tu : Int → Int) : Prop := ∀ k : Int, 0 ≤ k → k < c → entAt T 0 k = some (pa k, tu k, 0) ∧ (tu k = 1 ∨ tu k = 3) ∧ 0 ≤ pa k ∧ pa k < c
def itP (pa : Int → Int) : Nat → Int → Int
  | 0, c => c
  | n + 1, c => pa (itP pa n c)
theorem lex_max (a b : Nat → Int) : ∀ p : Nat, ∃ k0, k0 < p + 1 ∧ ∀ k, k < p + 1 → a k < a k0 ∨ (a k = a k0 ∧ b k ≤ b k0)
  | 0 => ⟨0, by omega, fun k hk => by
    obtain rfl : k = 0 := by omega
    exact .inr ⟨rfl, Int.le_refl _⟩⟩
  | p + 1 => by
    obtain ⟨k0, h0, hm⟩ := lex_max a b p
    by_cases h : a k0 < a (p + 1) ∨ (a k0 = a (p + 1) ∧ b k0 ≤ b (p + 1))
    · refine ⟨p + 1, by omega, fun k hk => ?_⟩
      rcases Nat.lt_or_ge k (p + 1) with l | l
      · have := hm k l
        omega
      · obtain rfl : k = p + 1 := by omega
        exact .inr ⟨rfl, Int.le_refl _⟩
    · refine ⟨k0, by omega, fun k hk => ?_⟩
      rcases Nat.lt_or_ge k (p + 1) with l | l
      · exact hm k l
      · obtain rfl : k = p + 1 := by omega
        omega
theorem least_of {Q : Nat → Prop} : ∀ n, Q n → ∃ d, d ≤ n ∧ Q d ∧ ∀ i, i < d → ¬ Q i := by
  intro n
  induction n using Nat.strongRecOn with
  | ind n ih =>
    intro h
    by_cases e : ∃ m, m < n ∧ Q m
    · obtain ⟨m, l, q⟩ := e
      obtain ⟨d, d1, d2, d3⟩ := ih m l q
      exact ⟨d, by omega, d2, d3⟩
    · exact ⟨n, Nat.le_refl _, h, fun i l q => e ⟨i, l, q⟩⟩
section
variable {T : List (List Ent)} {c : Nat} {pa tu : Int → Int}
theorem Turning.one (h : Turning T c pa tu) {B : Int} {z : WSt} (g : Fit c 1 B z) : oneT T z = (dab z.1 (wPt z.2) (pa (z.1 (wPt z.2))), behind z.2 (pa (z.1 (wPt z.2)), tu (z.1 (wPt z.2)), 0)) := by
  have cb := g.cols (wPt z.2)
  have st := g.st
  have e0 : z.2.2.2.2 = 0 := by omega
  obtain ⟨e, _⟩ := h _ cb.1 cb.2
  refine one_some ?_
  unfold stepW
  rw [e0, e]
  rfl
theorem Turning.some (h : Turning T c pa tu) {B : Int} {z : WSt} (g : Fit c 1 B z) : stepW T z = Option.some (oneT T z) := by
  have cb := g.cols (wPt z.2)
  have st := g.st
  have e0 : z.2.2.2.2 = 0 := by omega
  obtain ⟨e, _⟩ := h _ cb.1 cb.2
  rw [h.one g]
  unfold stepW
  rw [e0, e]
  rfl
theorem Turning.fit (h : Turning T c pa tu) (ok : TabOk c 1 T) {B : Int} {z : WSt} (g : Fit c 1 B z) : ∀ k, ∃ B', Fit c 1 B' (itT T z k)
  | 0 => ⟨B, g⟩
  | k + 1 => by
    obtain ⟨B', g'⟩ := h.fit ok g k
    exact ⟨B' + 1, g'.step ok (h.some g')⟩
/-- level and upright ways in are told by the place -/
theorem par_step (w : Wk) (a t : Int) (ht : t = 1 ∨ t = 3) : ((behind w (a, t, 0)).1 + (behind w (a, t, 0)).2.1 + (behind w (a, t, 0)).2.2.1) % 2 = (w.1 + w.2.1 + w.2.2.1) % 2 := by
  show (w.1 + dxI ((w.2.2.1 + t) % 4) + (w.2.1 + dyI ((w.2.2.1 + t) % 4)) + (w.2.2.1 + t) % 4) % 2 = _
  have g0 : 0 ≤ (w.2.2.1 + t) % 4 := Int.emod_nonneg _ (by decide)
  have g1 : (w.2.2.1 + t) % 4 < 4 := Int.emod_lt_of_pos _ (by decide)
  unfold dxI dyI
  split <;> split <;> (try split) <;> (try split) <;> omega
theorem Turning.par (h : Turning T c pa tu) (ok : TabOk c 1 T) {B : Int} {z : WSt} (g : Fit c 1 B z) : ∀ k, ((itT T z k).2.1 + (itT T z k).2.2.1 + (itT T z k).2.2.2.1) % 2 = (z.2.1 + z.2.2.1 + z.2.2.2.1) % 2
  | 0 => rfl
  | k + 1 => by
    obtain ⟨B', g'⟩ := h.fit ok g k
    have cb := g'.cols (wPt (itT T z k).2)
    have t := (h _ cb.1 cb.2).2.1
    show ((oneT T (itT T z k)).2.1 + (oneT T (itT T z k)).2.2.1 + (oneT T (itT T z k)).2.2.2.1) % 2 = _
    rw [h.one g', ← h.par ok g k]
    exact par_step _ _ _ t
theorem it_per {z : WSt} {p : Nat} (hp : itT T z p = z) (k : Nat) : itT T z (k + p) = itT T z k := by
  rw [Nat.add_comm, it_add, hp]
theorem it_mod {z : WSt} {p : Nat} (h0 : 0 < p) (hp : itT T z p = z) (k : Nat) : itT T z k = itT T z (k % p) := by
  induction k using Nat.strongRecOn with
  | ind k ih =>
    rcases Nat.lt_or_ge k p with l | l
    · rw [Nat.mod_eq_of_lt l]
    · have e : itT T z k = itT T z (k - p) := by
        have := it_per hp (k - p)
        rw [show k - p + p = k by omega] at this
        exact this
      rw [e, ih (k - p) (by omega), Nat.mod_eq_sub_mod l]
/-- no stand comes again -/
theorem Turning.no_round (h : Turning T c pa tu) (ok : TabOk c 1 T) (both : ∀ k : Int, 0 ≤ k → k < c → (∃ n, tu (itP pa n k) = 1) ∧ ∃ n, tu (itP pa n k) = 3) {B : Int} {z : WSt} (g : Fit c 1 B z) {p : Nat} (h0 : 0 < p) (hp : itT T z p = z) : False := by
  obtain ⟨k0, hk0, hmax⟩ := lex_max (fun k => (itT T z k).2.1) (fun k => (itT T z k).2.2.1) (p - 1)
  have hall : ∀ k, (itT T z k).2.1 < (itT T z k0).2.1 ∨ ((itT T z k).2.1 = (itT T z k0).2.1 ∧ (itT T z k).2.2.1 ≤ (itT T z k0).2.2.1) := fun k => by
    have := hmax (k % p) (by have := Nat.mod_lt k h0; omega)
    rw [it_mod h0 hp k]
    exact this
  generalize hX : (itT T z k0).2.1 = X at *
  generalize hY : (itT T z k0).2.2.1 = Y at *
  -- each coming to the corner
  have turn : ∀ m, wPt (itT T z (m + 1)).2 = (X, Y) → ((itT T z (m + 1)).2.2.2.1 = 1 ∧ tu ((itT T z (m + 1)).1 (X, Y)) = 3) ∨ ((itT T z (m + 1)).2.2.2.1 = 2 ∧ tu ((itT T z (m + 1)).1 (X, Y)) = 1) := fun m hm => by
    obtain ⟨B1, g1⟩ := h.fit ok g m
    obtain ⟨B2, g2⟩ := h.fit ok g (m + 1)
    have cb2 := g2.cols (X, Y)
    have t2 := (h _ cb2.1 cb2.2).2.1
    have e1 : itT T z (m + 1) = oneT T (itT T z m) := rfl
    have e2 : itT T z (m + 1 + 1) = oneT T (itT T z (m + 1)) := rfl
    have b1 := hall m
    have b3 := hall (m + 1 + 1)
    have hd := g2.hd
    have hx : (itT T z (m + 1)).2.1 = X := congrArg Prod.fst hm
    have hy : (itT T z (m + 1)).2.2.1 = Y := congrArg Prod.snd hm
    rw [e2, h.one g2, hm] at b3
    have b3 : X + dxI (((itT T z (m + 1)).2.2.2.1 + tu ((itT T z (m + 1)).1 (X, Y))) % 4) < X ∨ (X + dxI (((itT T z (m + 1)).2.2.2.1 + tu ((itT T z (m + 1)).1 (X, Y))) % 4) = X ∧ Y + dyI (((itT T z (m + 1)).2.2.2.1 + tu ((itT T z (m + 1)).1 (X, Y))) % 4) ≤ Y) := by
      have b3 : (itT T z (m + 1)).2.1 + dxI (((itT T z (m + 1)).2.2.2.1 + tu ((itT T z (m + 1)).1 (X, Y))) % 4) < X ∨ ((itT T z (m + 1)).2.1 + dxI (((itT T z (m + 1)).2.2.2.1 + tu ((itT T z (m + 1)).1 (X, Y))) % 4) = X ∧ (itT T z (m + 1)).2.2.1 + dyI (((itT T z (m + 1)).2.2.2.1 + tu ((itT T z (m + 1)).1 (X, Y))) % 4) ≤ Y) := b3
      rw [hx, hy] at b3
      exact b3
    have px : (itT T z m).2.1 = X - dxI (itT T z (m + 1)).2.2.2.1 ∧ (itT T z m).2.2.1 = Y - dyI (itT T z (m + 1)).2.2.2.1 := by
      have q := e1
      rw [h.one g1] at q
      have qh : (itT T z (m + 1)).2.2.2.1 = turnI (itT T z m).2 (tu ((itT T z m).1 (wPt (itT T z m).2))) := by rw [q]; rfl
      have qx : (itT T z (m + 1)).2.1 = (itT T z m).2.1 + dxI (turnI (itT T z m).2 (tu ((itT T z m).1 (wPt (itT T z m).2)))) := by rw [q]; rfl
      have qy : (itT T z (m + 1)).2.2.1 = (itT T z m).2.2.1 + dyI (turnI (itT T z m).2 (tu ((itT T z m).1 (wPt (itT T z m).2)))) := by rw [q]; rfl
      rw [← qh] at qx qy
      omega
    rw [px.1, px.2] at b1
    generalize (itT T z (m + 1)).2.2.2.1 = hh at *
    generalize tu ((itT T z (m + 1)).1 (X, Y)) = tt at *
    obtain ⟨n, rfl⟩ := Int.eq_ofNat_of_zero_le hd.1
    have cn : n = 0 ∨ n = 1 ∨ n = 2 ∨ n = 3 := by omega
    rcases t2 with rfl | rfl <;> rcases cn with rfl | rfl | rfl | rfl <;> simp [dxI, dyI] at b1 b3 ⊢ <;> omega
  have par := h.par ok g
  -- the colours at the corner go through a round
  have vis : ∀ n, ∃ m, wPt (itT T z (m + 1)).2 = (X, Y) ∧ (itT T z (m + 1)).1 (X, Y) = itP pa n ((itT T z (k0 + p)).1 (X, Y)) := by
    intro n
    induction n with
    | zero =>
      refine ⟨k0 + p - 1, ?_, ?_⟩
      · rw [show k0 + p - 1 + 1 = k0 + p by omega, it_per hp]
        exact Prod.ext hX hY
      · rw [show k0 + p - 1 + 1 = k0 + p by omega]
        rfl
    | succ n ih =>
      obtain ⟨m, hm, hc⟩ := ih
      have keep : ∀ d, (∀ i, i < d → wPt (itT T z (m + 1 + 1 + i)).2 ≠ (X, Y)) → (itT T z (m + 1 + 1 + d)).1 (X, Y) = pa ((itT T z (m + 1)).1 (X, Y)) := by
        intro d
        induction d with
        | zero =>
          intro _
          obtain ⟨B2, g2⟩ := h.fit ok g (m + 1)
          show (oneT T (itT T z (m + 1))).1 (X, Y) = _
          rw [h.one g2, hm]
          exact if_pos rfl
        | succ d ihd =>
          intro hi
          obtain ⟨B2, g2⟩ := h.fit ok g (m + 1 + 1 + d)
          have hn := hi d (Nat.lt_succ_self _)
          show (oneT T (itT T z (m + 1 + 1 + d))).1 (X, Y) = _
          rw [h.one g2, ← ihd fun i l => hi i (by omega)]
          exact if_neg fun e => hn e.symm
      obtain ⟨d, _, hd, hl⟩ := least_of (Q := fun d => wPt (itT T z (m + 1 + 1 + d)).2 = (X, Y)) (p - 1) (by
        show wPt (itT T z (m + 1 + 1 + (p - 1))).2 = (X, Y)
        rw [show m + 1 + 1 + (p - 1) = m + 1 + p by omega, it_per hp]
        exact hm)
      refine ⟨m + 1 + d, by rw [show m + 1 + d + 1 = m + 1 + 1 + d by omega]; exact hd, ?_⟩
      rw [show m + 1 + d + 1 = m + 1 + 1 + d by omega, keep d hl, hc]
      rfl
  obtain ⟨Bk, gk⟩ := h.fit ok g (k0 + p)
  have cb := gk.cols (X, Y)
  obtain ⟨⟨n1, q1⟩, n3, q3⟩ := both _ cb.1 cb.2
  obtain ⟨m1, v1, c1⟩ := vis n1
  obtain ⟨m3, v3, c3⟩ := vis n3
  have t1 := turn m1 v1
  have t3 := turn m3 v3
  rw [c1, q1] at t1
  rw [c3, q3] at t3
  have p1 := par (m1 + 1)
  have p3 := par (m3 + 1)
  have x1 : (itT T z (m1 + 1)).2.1 = X := congrArg Prod.fst v1
  have y1 : (itT T z (m1 + 1)).2.2.1 = Y := congrArg Prod.snd v1
  have x3 : (itT T z (m3 + 1)).2.1 = X := congrArg Prod.fst v3
  have y3 : (itT T z (m3 + 1)).2.2.1 = Y := congrArg Prod.snd v3
  rw [x1, y1] at p1
  rw [x3, y3] at p3
  omega
end

/-! ### a turning table, once it is laid, and the extreme corner -/
theorem TurnL.turning {L : List Pt} (h : TurnL L) : Turning [tRow L] L.length (fun k => (paN L k.toNat : Int)) (fun k => tuOf L k.toNat) := by
  intro k h0 h1
  have hk : k.toNat < L.length := by omega
  have e := tRow_at hk
  have p := h.paN_lt hk
  have t : tuOf L k.toNat = (L[k.toNat]).2 := by
    unfold tuOf
    rw [List.getElem?_eq_getElem hk]
    rfl
  show entAt [tRow L] 0 k = some ((paN L k.toNat : Int), tuOf L k.toNat, 0) ∧ (tuOf L k.toNat = 1 ∨ tuOf L k.toNat = 3) ∧ (0 : Int) ≤ (paN L k.toNat : Int) ∧ (paN L k.toNat : Int) < L.length
  have pl := p.1
  refine ⟨?_, ?_, by omega, by omega⟩
  · unfold entAt
    show ((tRow L)[k.toNat]?).getD none = _
    rw [e]
    show some ((L[k.toNat]).1, (L[k.toNat]).2, (0 : Int)) = _
    rw [p.2, t]
  · rw [t]
    exact h.tu _ (List.getElem_mem hk)
theorem itP_itN {L : List Pt} (k : Nat) : ∀ n, itP (fun k => (paN L k.toNat : Int)) n (k : Int) = (itN L n k : Nat)
  | 0 => rfl
  | n + 1 => by
    show (paN L (itP (fun k => (paN L k.toNat : Int)) n (k : Int)).toNat : Int) = _
    rw [itP_itN k n, Int.toNat_natCast]
    rfl
theorem BothL.both {L : List Pt} (b : BothL L) : ∀ k : Int, 0 ≤ k → k < L.length → (∃ n, tuOf L (itP (fun k => (paN L k.toNat : Int)) n k).toNat = 1) ∧ ∃ n, tuOf L (itP (fun k => (paN L k.toNat : Int)) n k).toNat = 3 := by
  intro k h0 h1
  obtain ⟨⟨n, e⟩, m, f⟩ := b k.toNat (by omega)
  have z : ((k.toNat : Nat) : Int) = k := by omega
  refine ⟨⟨n, ?_⟩, m, ?_⟩
  · rw [← z, itP_itN, Int.toNat_natCast]
    exact e
  · rw [← z, itP_itN, Int.toNat_natCast]
    exact f
theorem TurnL.tab {L : List Pt} (h : TurnL L) : TabOk L.length 1 [tRow L] := by
  refine ⟨rfl, fun r hr => ?_⟩
  rw [List.mem_singleton.mp hr]
  refine ⟨List.length_map _, fun e he => ?_⟩
  obtain ⟨p, hp, rfl⟩ := List.mem_map.mp he
  have a := h.pa hp
  have t := h.tu p hp
  have t2 : 0 ≤ p.2 ∧ p.2 < 4 := by omega
  exact ⟨a, t2, by show (0 : Int) ≤ 0; decide, by show (0 : Int) < 1; decide⟩
/-- no stand comes twice -/
theorem TurnL.no_twice {L : List Pt} (h : TurnL L) (b : BothL L) {B : Int} {z : WSt} (g : Fit L.length 1 B z) {p : Nat} (h0 : 0 < p) : itT [tRow L] z p ≠ z := fun e => h.turning.no_round h.tab b.both g h0 e

/-! ### copies of the painted squares -/
def spCopied : Sp := fun vs H Q _ => ∃ (D : Addr) (m : CM), vs = [.ref D] ∧ H D = some (.dT (cellK m)) ∧ (m.map (·.1)).Nodup ∧ m.length ≤ 3000 ∧ ∀ D' H', H D' = none → H' D' = some (.dT (cellK m)) → Same H H' → Q (.ref D') H'
section
variable {P : Program} {w : World} {K : PySem.W.Frag} {mg : Str → Option Value} {base : Heap}
theorem ok_u_copied (T : Txt K mg) (D : DefAt K mg "_copied" s_u_copied ["painted"]) : Cal P w K mg base CX0 "_copied" 1 ["painted"] spCopied := by
  refine D.cal sc_u_copied (fun vs H Q E h => ?_) (fun f cdv A outer s H vs Q E hr h => ?_)
  · obtain ⟨D, m, rfl, _⟩ := h
    rfl
  · obtain ⟨D, m, rfl, hD, nd, hl, q⟩ := h
    refine ⟨_, (pss_one (ps_ret (pe_lock (pe_dcT (own := [("place", 1)]) (g := gName 1) rfl hr.units0 sc_u_copied.nd (pi_keys (pv 0)) (blkOk_by (by rfl)) (fun _ _ _ _ _ => (pg_name (i := 1) sc_u_copied.nd rfl (Or.inl rfl))) (fun _ _ _ _ _ => (pv 1)) (fun _ _ _ _ _ => (pe_dget (hu_of hr) (pv 0) (pv 1) (fun _ _ => rfl))))))), ?_⟩
    walk_at "st"
    intro od
    have fD : (upd H D (.frz od (.dT (cellK m)))) D = some (.frz od (.dT (cellK m))) := upd_same
    generalize hHf : upd H D (.frz od (.dT (cellK m))) = Hf at fD
    refine ⟨_, rfl, D, od, rfl, .inr ⟨cellK m, fD, ?_⟩⟩
    intro L nL
    have nLD : L ≠ D := fun z => by
      rw [z, fD] at nL
      cases nL
    refine dcT_it (walk_keysT (d := D) (o := od) (kvs := cellK m)) (fun i H' => Ok (Same Hf H' ∧ H' L = some (.dT (cellK (m.take i))))) ⟨Same.new nL, upd_same⟩ (fun i H' _ ⟨sm, _⟩ => sm _ _ fD) ?_ ?_
    · rintro i x H' H2 hi ⟨sm, hL⟩ ⟨rfl, k, v, qa, hk, rfl, hq⟩
      have hi : i < m.length := by rw [cell_len] at hi; exact hi
      have e0 : (cellK m)[i]? = some (ptK m[i].1, V.int m[i].2) := by
        unfold cellK
        rw [List.getElem?_map, List.getElem?_eq_getElem hi]
        rfl
      rw [e0] at hk
      obtain ⟨rfl, rfl⟩ := Prod.mk.inj (Option.some.inj hk)
      have hD2 := sm _ _ fD
      have lk : look m m[i].1 = some m[i].2 := mem_look nd (List.getElem_mem hi)
      have tk1 := take_more (List.getElem?_eq_getElem hi)
      have nd1 : ((m.take i).map (·.1)).Nodup := nd.sublist ((List.take_sublist _ _).map _)
      have nin : m[i].1 ∉ (m.take i).map (·.1) := fun z => by
        have nd2 : ((m.take (i + 1)).map (·.1)).Nodup := nd.sublist ((List.take_sublist _ _).map _)
        rw [tk1, List.map_append, List.nodup_append] at nd2
        exact nd2.2.2 _ z _ List.mem_cons_self rfl
      have hsz : (cellK (m.take i)).length < sizeLine := by
        rw [cell_len, List.length_take]
        exact small3k (by omega)
      generalize he : m[i] = e at *
      have hq : H2 qa = some (.tup [.int e.1.1, .int e.1.2]) := hq
      have hg : DGet H2 D (.ref qa) (some (.int e.2)) := .inr ⟨cellK m, ptK e.1, qa, .inr ⟨od, hD2⟩, rfl, hq, by rw [cell_val, lk]; rfl⟩
      walk_at "st"
      refine ⟨Same.fresh sm nL, ?_⟩
      rw [upd_same, cellK_snoc nd1 nin, tk1]
    · rintro H' ⟨sm, hL⟩
      rw [cell_len, List.take_length] at hL
      have hD2 := sm _ _ fD
      refine ⟨hD2, ?_⟩
      have sB : Same H (upd H' D (.dT (cellK m))) := fun b o hb => by
        by_cases z : b = D
        · rw [z, hD] at hb
          rw [z, upd_same, hb]
        · rw [upd_ne z]
          refine sm _ _ ?_
          rw [← hHf, upd_ne z]
          exact hb
      have nL0 : H L = none := by
        rw [← hHf, upd_ne nLD] at nL
        exact nL
      exact q L _ nL0 (by rw [upd_ne nLD]; exact hL) sB
end
/-! ### papers -/
inductive PK | stops | round | street
  deriving DecidableEq
def PK.nm : PK → Str
  | .stops => "stops"
  | .round => "round"
  | .street => "street"
/-- the kind, the first step, the period (0 for a stop) -/
abbrev Pap := PK × Nat × Nat
def papD (p : Pap) : PyData := match p.1 with
  | .stops => .tuple [.str "stops", .int (p.2.1 : Int)]
  | k => .tuple [.str k.nm, .int (p.2.1 : Int), .int (p.2.2 : Int)]
structure PapOk (p : Pap) : Prop where
  f : p.2.1 ≤ 100000
  st : p.1 = .stops → p.2.2 = 0
  p1 : p.1 ≠ .stops → 1 ≤ p.2.2
  p2 : p.2.2 ≤ 2000
/-! ### a course -/
abbrev crsF (kd : V) (f p : Int) (a D0 : Addr) (sv : V) (D1 L2 : Addr) (ev : V) (L3 : Addr) (mv : V) : List (Str × V) := [("kind", kd), ("first", .int f), ("period", .int p), ("stroll", .ref a), ("at_first", .ref D0), ("start", sv), ("ahead", .ref D1), ("loop", .ref L2), ("end", ev), ("steps", .ref L3), ("move", mv)]
/-- a course at c: of the stand z0, a lead of i steps, a round of j -/
structure CrsAt (K : PySem.W.Frag) (CC CS : Addr) (H : Hp) (c a D : Addr) (T : List (List Ent)) (p : Pap) (m0 m1 m2 : CM) (w0 w1 w2 : Wk) (i j : Nat) : Prop where
  ob : ∃ dx D0 D1 L2 L3 sv ev mv us2 us3, H c = some (.ins CC dx (crsF (.str p.1.nm) p.2.1 p.2.2 a D0 sv D1 L2 ev L3 mv)) ∧ Tp K H sv (wkD w1) ∧ Tp K H ev (wkD w2) ∧ Tp K H mv (.tuple [.int (w2.1 - w1.1), .int (w2.2.1 - w1.2.1)]) ∧
    H D0 = some (.dT (cellK m0)) ∧ H D1 = some (.dT (cellK m1)) ∧ H L2 = some (.lst us2) ∧ TpAll K H us2 (toldL T (col m1, w1) j) ∧ us2.length = j ∧ H L3 = some (.lst us3) ∧ TpAll K H us3 (toldL T (col m0, w0) i ++ toldL T (col m1, w1) j) ∧ us3.length = i + j
  str : StrAt K CS H a D T m2 w2
  e1 : Ends T (col m0, w0) p.2.1 i (col m1, w1)
  e2 : Ends T (col m1, w1) p.2.2 j (col m2, w2)
  nd0 : (m0.map (·.1)).Nodup
  nd1 : (m1.map (·.1)).Nodup
  nz0 : ∀ e ∈ m0, e.2 ≠ 0
  nz1 : ∀ e ∈ m1, e.2 ≠ 0

/-! ### the course is made -/
structure ClsC (K : PySem.W.Frag) (mg : Str → Option Value) (C : Addr) : Prop where
  cl : Cls K C
  n1 : NoAttr K C "kind"
  n2 : NoAttr K C "first"
  n3 : NoAttr K C "period"
  n4 : NoAttr K C "stroll"
  n5 : NoAttr K C "at_first"
  n6 : NoAttr K C "start"
  n7 : NoAttr K C "ahead"
  n8 : NoAttr K C "loop"
  n9 : NoAttr K C "end"
  n10 : NoAttr K C "steps"
  n11 : NoAttr K C "move"
  mgC : mg "Course" = some (.ref C)
theorem lt_putF {f : Str} {v : V} {n : Nat} : ∀ {fs : List (Str × V)}, fs.length < n → (putF f v fs).length < n + 1
  | [], h => by
    show 1 < n + 1
    have : 0 < n := h
    omega
  | p :: r, h => by
    unfold putF
    by_cases e : p.1 = f
    · rw [if_pos e]
      show r.length + 1 < n + 1
      have : r.length + 1 < n := h
      omega
    · rw [if_neg e]
      show (putF f v r).length + 1 < n + 1
      obtain ⟨m, rfl⟩ : ∃ m, n = m + 1 := ⟨n - 1, by have : r.length + 1 < n := h; omega⟩
      have h : r.length + 1 < m + 1 := h
      have := lt_putF (f := f) (v := v) (n := m) (fs := r) (by omega)
      omega
theorem putF_app {f : Str} {v : V} {fs : List (Str × V)} (h : (fs.map (·.1)).all (fun x => !(x == f)) = true) : putF f v fs = fs ++ [(f, v)] := putF_end fun p hp e => by
  have z := List.all_eq_true.mp h p.1 (List.mem_map.mpr ⟨p, hp, rfl⟩)
  rw [e] at z
  simp at z
theorem papI {K : PySem.W.Frag} {H : Hp} {v : V} {p : Pap} (h : Tp K H v (papD p)) (ok : PapOk p) : ∃ pa, v = .ref pa ∧ ((p.1 = .stops ∧ p.2.2 = 0 ∧ SqT K H pa [.str p.1.nm, .int p.2.1]) ∨ (p.1 ≠ .stops ∧ SqT K H pa [.str p.1.nm, .int p.2.1, .int p.2.2])) := by
  obtain ⟨k, f, n⟩ := p
  cases k with
  | stops =>
    obtain ⟨a, xs, rfl, hs, h⟩ := (show Tp K H v (.tuple [.str "stops", .int (f : Int)]) from h).tupI
    obtain ⟨x, xs, rfl, h1, h⟩ := h.consI
    obtain ⟨y, xs, rfl, h2, h⟩ := h.consI
    obtain rfl := h.nilI
    cases h1
    obtain rfl := h2.intI
    exact ⟨a, rfl, .inl ⟨rfl, ok.st rfl, hs⟩⟩
  | round =>
    obtain ⟨a, xs, rfl, hs, h⟩ := (show Tp K H v (.tuple [.str "round", .int (f : Int), .int (n : Int)]) from h).tupI
    obtain ⟨x, xs, rfl, h1, h⟩ := h.consI
    obtain ⟨y, xs, rfl, h2, h⟩ := h.consI
    obtain ⟨z, xs, rfl, h3, h⟩ := h.consI
    obtain rfl := h.nilI
    cases h1
    obtain rfl := h2.intI
    obtain rfl := h3.intI
    exact ⟨a, rfl, .inr ⟨(by intro z; cases z), hs⟩⟩
  | street =>
    obtain ⟨a, xs, rfl, hs, h⟩ := (show Tp K H v (.tuple [.str "street", .int (f : Int), .int (n : Int)]) from h).tupI
    obtain ⟨x, xs, rfl, h1, h⟩ := h.consI
    obtain ⟨y, xs, rfl, h2, h⟩ := h.consI
    obtain ⟨z, xs, rfl, h3, h⟩ := h.consI
    obtain rfl := h.nilI
    cases h1
    obtain rfl := h2.intI
    obtain rfl := h3.intI
    exact ⟨a, rfl, .inr ⟨(by intro z; cases z), hs⟩⟩
section
variable {K : PySem.W.Frag} {H : Hp} {c pa : Addr} {xs : List V} {o o1 o2 o3 : HO}
theorem tkU {H : Hp} {c : Addr} (s : Soft H c) {H' : Hp} (k : KeepE [c] H H') : TK H H' := k.tk fun b hb => by
  rw [List.mem_singleton.mp hb]
  exact s
theorem sqU1 (h : SqT K H pa xs) (s : Soft H c) : SqT K (upd H c o) pa xs := (tkU s (KeepE.put List.mem_cons_self)).seqT h
theorem sqU2 (h : SqT K H pa xs) (s : Soft H c) : SqT K (upd (upd H c o) c o1) pa xs := (tkU s ((KeepE.put List.mem_cons_self).trans (KeepE.put List.mem_cons_self))).seqT h
theorem sqU3 (h : SqT K H pa xs) (s : Soft H c) : SqT K (upd (upd (upd H c o) c o1) c o2) pa xs := (tkU s (((KeepE.put List.mem_cons_self).trans (KeepE.put List.mem_cons_self)).trans (KeepE.put List.mem_cons_self))).seqT h
end
/-- the heap with the first four fields -/
def hp4 (H : Hp) (c C dx : Addr) (kv : V) (f x : Int) (a : Addr) : Hp := upd (upd (upd (upd H c (.ins C dx (putF "kind" kv []))) c (.ins C dx (putF "first" (.int f) (putF "kind" kv [])))) c (.ins C dx (putF "period" (.int x) (putF "first" (.int f) (putF "kind" kv []))))) c (.ins C dx (putF "stroll" (.ref a) (putF "period" (.int x) (putF "first" (.int f) (putF "kind" kv [])))))
theorem putF_to {f : Str} {v : V} {fs gs : List (Str × V)} (ns : List Str) (e0 : fs.map (·.1) = ns) (h : ns.all (fun x => !(x == f)) = true) (e : fs ++ [(f, v)] = gs) : putF f v fs = gs := by
  rw [← e]
  exact putF_app (by rw [e0]; exact h)
theorem hp4_c {H : Hp} {c C dx a : Addr} {kv : V} {f x : Int} : hp4 H c C dx kv f x a c = some (.ins C dx [("kind", kv), ("first", .int f), ("period", .int x), ("stroll", .ref a)]) := by
  have e1 : putF "kind" kv [] = [(("kind" : Str), kv)] := rfl
  have e2 : putF "first" (.int f) [(("kind" : Str), kv)] = [(("kind" : Str), kv), ("first", V.int f)] := putF_to ["kind"] rfl (by decide +kernel) rfl
  have e3 : putF "period" (.int x) [(("kind" : Str), kv), ("first", V.int f)] = [(("kind" : Str), kv), ("first", V.int f), ("period", V.int x)] := putF_to ["kind", "first"] rfl (by decide +kernel) rfl
  have e4 : putF "stroll" (.ref a) [(("kind" : Str), kv), ("first", V.int f), ("period", V.int x)] = [(("kind" : Str), kv), ("first", V.int f), ("period", V.int x), ("stroll", .ref a)] := putF_to ["kind", "first", "period"] rfl (by decide +kernel) rfl
  unfold hp4
  rw [upd_same, e1, e2, e3, e4]
theorem hp4_k {H : Hp} {c C dx a : Addr} {kv : V} {f x : Int} : KeepE [c] H (hp4 H c C dx kv f x a) := (((KeepE.put List.mem_cons_self).trans (KeepE.put List.mem_cons_self)).trans (KeepE.put List.mem_cons_self)).trans (KeepE.put List.mem_cons_self)
def spCrs (K : PySem.W.Frag) (CC CS : Addr) : Sp := fun vs H Q _ => ∃ (c dx a D : Addr) (pv : V) (T : List (List Ent)) (p : Pap) (m0 : CM) (w0 : Wk) (cc n : Nat) (B : Int), vs = [.ref c, .ref a, pv] ∧ H c = some (.ins CC dx []) ∧ Tp K H pv (papD p) ∧ PapOk p ∧ StrAt K CS H a D T m0 w0 ∧ TabOk cc n T ∧ Fit cc n B (col m0, w0) ∧ m0.length + p.2.1 + p.2.2 ≤ 3000 ∧
  ∀ (m1 m2 : CM) (w1 w2 : Wk) (i j : Nat) (H' : Hp), CrsAt K CC CS H' c a D T p m0 m1 m2 w0 w1 w2 i j → KeepE [c, a, D] H H' → Q .non H'
section
variable {P : Program} {w : World} {K : PySem.W.Frag} {mg : Str → Option Value} {base : Heap}
local macro_rules | `(tactic| walk_at "cl") => `(tactic| first | ((repeat refine lt_putF ?_); exact Nat.le_of_ble_eq_true rfl) | (refine le_only ?_; omega) | (refine lt_only ?_; omega) | assumption)
local macro_rules | `(tactic| walk_at "cl") => `(tactic| first | exact sqU1 (by assumption) (by assumption) | exact sqU2 (by assumption) (by assumption) | exact sqU3 (by assumption) (by assumption))
theorem ok_Course_init (T : Txt K mg) {CC CS : Addr} (SS : ClsS K mg CS) (S : ClsC K mg CC) (MG : MCal P w K mg base CS "go" 3 ["self", "many"] (spGo2 K CS)) (M : MetAt K CC "__init__" "Course.__init__" s_Course_init ["self", "stroll", "paper"]) (C_copied : Cal P w K mg base CX0 "_copied" 1 ["painted"] spCopied) : MCal P w K mg base CC "__init__" 4 ["self", "stroll", "paper"] (spCrs K CC CS) := by
  obtain ⟨f, fd, me, F, b⟩ := M.meth
  refine ⟨f, fd, me, F.ok sc_Course_init (fun vs H Q E h => ?_) (fun cdv A outer s H vs Q E hr h => ?_), b⟩
  · obtain ⟨c, dx, a, D, pv, T, p, m0, w0, cc, n, B, rfl, _⟩ := h
    rfl
  · obtain ⟨c, dx, a, D, ppv, Tb, p, m0, w0, cc, n, B, rfl, hc, hp, pok, hS, ok, fit, hlen, q⟩ := h
    refine ⟨_, (pss_cons (k_sfld (K := K) (pv 0) (pe_ix (k_ix_tup (K := K)) (pv 2) pe_int (fun _ _ => rfl)) (by rfl))
      (pss_cons (k_sfld (K := K) (pv 0) (pe_ix (k_ix_tup (K := K)) (pv 2) pe_int (fun _ _ => rfl)) (by rfl))
      (pss_cons (k_sfld (K := K) (pv 0) (pe_ifExp (pt_cmpR op_eq (pe_callB (k_len_t (K := K)) (by rfl) T.m_len (by decide +kernel) (pa_cons (pv 2) pa_nil)) pe_int (nomark _)) (pe_ix (k_ix_tup (K := K)) (pv 2) pe_int (fun _ _ => rfl)) pe_int) (by rfl))
      (pss_cons (k_sfld (K := K) (pv 0) (pv 1) (by rfl))
      (pss_cons (k_sfld (K := K) (pv 0) (pe_own C_copied hr (by first | decide | omega) (pa_cons (k_fld (K := K) (pv 1) (by rfl)) pa_nil)) (by rfl))
      (pss_cons (ps_set (i := 3) sc_Course_init.nd rfl (Or.inl rfl) (pe_ownM MG SS.cl hr (by decide) (pv 1) (pa_cons (k_fld (K := K) (pv 0) (by rfl)) pa_nil)))
      (pss_cons (k_sfld (K := K) (pv 0) (k_fld (K := K) (pv 1) (by rfl)) (by rfl))
      (pss_cons (k_sfld (K := K) (pv 0) (pe_own C_copied hr (by first | decide | omega) (pa_cons (k_fld (K := K) (pv 1) (by rfl)) pa_nil)) (by rfl))
      (pss_cons (k_sfld (K := K) (pv 0) (pe_ownM MG SS.cl hr (by decide) (pv 1) (pa_cons (k_fld (K := K) (pv 0) (by rfl)) pa_nil)) (by rfl))
      (pss_cons (k_sfld (K := K) (pv 0) (k_fld (K := K) (pv 1) (by rfl)) (by rfl))
      (pss_cons (k_sfld (K := K) (pv 0) (pe_op op_cat (pv 3) (k_fld (K := K) (pv 0) (by rfl))) (by rfl))
      (pss_one (k_sfld (K := K) (pv 0) (pe_tup (pa_cons (pe_op op_sub (pe_ix (k_ix_tup (K := K)) (k_fld (K := K) (pv 0) (by rfl)) pe_int (fun _ _ => rfl)) (pe_ix (k_ix_tup (K := K)) (k_fld (K := K) (pv 0) (by rfl)) pe_int (fun _ _ => rfl))) (pa_cons (pe_op op_sub (pe_ix (k_ix_tup (K := K)) (k_fld (K := K) (pv 0) (by rfl)) pe_int (fun _ _ => rfl)) (pe_ix (k_ix_tup (K := K)) (k_fld (K := K) (pv 0) (by rfl)) pe_int (fun _ _ => rfl))) pa_nil))) (by rfl)))))))))))))), ?_⟩
    have cl := S.cl
    have cs := SS.cl
    have n1 := S.n1
    have n2 := S.n2
    have n3 := S.n3
    have n4 := S.n4
    have n5 := S.n5
    have n6 := S.n6
    have n7 := S.n7
    have n8 := S.n8
    have n9 := S.n9
    have n10 := S.n10
    have n11 := S.n11
    have nP := SS.nP
    have nW := SS.nW
    have nca : c ≠ a := fun z => by
      obtain ⟨dx2, tv, gv, wv, e, _⟩ := hS.ob
      rw [z, e] at hc
      cases hc
    have ncD : c ≠ D := fun z => by
      rw [z, hS.dc] at hc
      cases hc
    have sc : Soft H c := Soft.ins hc
    obtain ⟨pa, rfl, hpc⟩ := papI hp pok
    have hX : (if p.1 = .stops then (0 : Int) else (p.2.2 : Int)) = p.2.2 := by
      split
      · rw [pok.st ‹_›]
        rfl
      · rfl
    rcases hpc with ⟨hk, h0, hpa⟩ | ⟨hk, hpa⟩
    all_goals
      obtain ⟨H1, hH1⟩ : ∃ H1, H1 = hp4 H c CC dx (.str p.1.nm) p.2.1 (if p.1 = .stops then (0 : Int) else (p.2.2 : Int)) a := ⟨_, rfl⟩
      have h1c : H1 c = some (.ins CC dx [("kind", .str p.1.nm), ("first", .int p.2.1), ("period", .int p.2.2), ("stroll", .ref a)]) := by rw [hH1, hp4_c, hX]
      have k1 : KeepE [c] H H1 := by rw [hH1]; exact hp4_k
      have t1 : TK H H1 := tkU sc k1
      first | rw [if_pos hk] at hH1 | rw [if_neg hk] at hH1
      unfold hp4 at hH1
      have hS1 : StrAt K CS H1 a D Tb m0 w0 := by
        obtain ⟨dx2, tv, gv, wv, e, _⟩ := id hS.ob
        exact hS.mv t1 ((k1 _ _ (fun z => nca (List.mem_singleton.mp z).symm) e).trans e.symm) ((k1 _ _ (fun z => ncD (List.mem_singleton.mp z).symm) hS.dc).trans hS.dc.symm)
      obtain ⟨⟨dx1, tv1, gv1, wv1, ea1, _, hw1, _⟩, hD1, nd1, nz1⟩ := id hS1
      have fP1 := lkP tv1 gv1 D wv1
      have lm : m0.length ≤ 3000 := by omega
      have ea1' := ea1
      have hD1' := hD1
      rw [hH1] at ea1' hD1'
      walk_at "st"
      rw [← hH1]
      intro D0 H2 nD0 hD0 s2
      have h2c := s2 _ _ h1c
      have nc0 : D0 ≠ c := (ne_of_none h1c nD0).symm
      obtain ⟨H3, hH3⟩ : ∃ H3, H3 = upd H2 c (.ins CC dx (putF "at_first" (.ref D0) [("kind", .str p.1.nm), ("first", .int p.2.1), ("period", .int p.2.2), ("stroll", .ref a)])) := ⟨_, rfl⟩
      have h3c : H3 c = some (.ins CC dx [("kind", .str p.1.nm), ("first", .int p.2.1), ("period", .int p.2.2), ("stroll", .ref a), ("at_first", .ref D0)]) := by rw [hH3, upd_same, putF_to ["kind", "first", "period", "stroll"] rfl (by decide +kernel) rfl]; rfl
      have k3 : KeepE [c] H2 H3 := by rw [hH3]; exact KeepE.put List.mem_cons_self
      have t3 : TK H1 H3 := (Same.tk s2).trans (tkU (Soft.ins h2c) k3)
      have hS3 : StrAt K CS H3 a D Tb m0 w0 := (hS1.same s2).mv (tkU (Soft.ins h2c) k3) ((k3 _ _ (fun z => nca (List.mem_singleton.mp z).symm) (s2 _ _ ea1)).trans (s2 _ _ ea1).symm) ((k3 _ _ (fun z => ncD (List.mem_singleton.mp z).symm) (s2 _ _ hD1)).trans (s2 _ _ hD1).symm)
      have hD03 : H3 D0 = some (.dT (cellK m0)) := k3 _ _ (fun z => nc0 (List.mem_singleton.mp z)) hD0
      have ha3 : H3 a = some (.ins CS dx1 (strF tv1 gv1 D wv1)) := k3 _ _ (fun z => nca (List.mem_singleton.mp z).symm) (s2 _ _ ea1)
      have noM3 : (strF tv1 gv1 D wv1).lookup ("go" : Str) = none := lkNo _ _ _ _ (by decide +kernel)
      have f3 : ([("kind", .str p.1.nm), ("first", .int p.2.1), ("period", .int p.2.2), ("stroll", .ref a), ("at_first", .ref D0)] : List (Str × V)).lookup ("first" : Str) = some (.int p.2.1) := by simp only [List.lookup_cons, beq_self_eq_true, show (("first" : Str) == "kind") = false by decide +kernel]
      have ha3' := ha3
      have h3c' := h3c
      have hS3' := hS3
      rw [hH3] at ha3' h3c' hS3'
      walk_at "st"
      rw [← hH3]
      intro L1 us1 i m1 w1 H4 nL1 he1 hS4 hml1 hL1 hvl1 k4 htl1
      have ncaD : c ∉ [a, D] := fun z => by
        rcases List.mem_cons.mp z with z | z
        · exact nca z
        · exact ncD (List.mem_singleton.mp z)
      have h4c := k4 _ _ ncaD h3c
      have nD0a : D0 ≠ a := ne_of hD03 ha3 (by intro z; cases z)
      have nD0D : D0 ≠ D := (ne_of_none hD1 nD0).symm
      have n0aD : D0 ∉ [a, D] := fun z => by
        rcases List.mem_cons.mp z with z | z
        · exact nD0a z
        · exact nD0D (List.mem_singleton.mp z)
      have hD04 := k4 _ _ n0aD hD03
      have nL1c : L1 ≠ c := (ne_of_none h3c nL1).symm
      obtain ⟨⟨dx4, tv4, gv4, wv4, ea4, _, hw4, _⟩, hD4, nd4, nz4⟩ := id hS4
      have fW4 := lkW tv4 gv4 D wv4
      have fP4 := lkP tv4 gv4 D wv4
      obtain ⟨H5, hH5⟩ : ∃ H5, H5 = upd H4 c (.ins CC dx (putF "start" wv4 [("kind", .str p.1.nm), ("first", .int p.2.1), ("period", .int p.2.2), ("stroll", .ref a), ("at_first", .ref D0)])) := ⟨_, rfl⟩
      have h5c : H5 c = some (.ins CC dx [("kind", .str p.1.nm), ("first", .int p.2.1), ("period", .int p.2.2), ("stroll", .ref a), ("at_first", .ref D0), ("start", wv4)]) := by rw [hH5, upd_same, putF_to ["kind", "first", "period", "stroll", "at_first"] rfl (by decide +kernel) rfl]; rfl
      have k5 : KeepE [c] H4 H5 := by rw [hH5]; exact KeepE.put List.mem_cons_self
      have t5 : TK H4 H5 := tkU (Soft.ins h4c) k5
      have nac : a ∉ [c] := fun z => nca (List.mem_singleton.mp z).symm
      have nDc : D ∉ [c] := fun z => ncD (List.mem_singleton.mp z).symm
      have n0c : D0 ∉ [c] := fun z => nc0 (List.mem_singleton.mp z)
      have nLc : L1 ∉ [c] := fun z => nL1c (List.mem_singleton.mp z)
      have ea5 := k5 _ _ nac ea4
      have hD5 := k5 _ _ nDc hD4
      have hS5 := hS4.mv t5 (ea5.trans ea4.symm) (hD5.trans hD4.symm)
      have hD05 := k5 _ _ n0c hD04
      have hL15 := k5 _ _ nLc hL1
      have le1 : i ≤ p.2.1 := by have := he1.le; omega
      have lm1 : m1.length ≤ 3000 := by omega
      have ea5' := ea5
      have hD5' := hD5
      rw [hH5] at ea5' hD5'
      walk_at "st"
      rw [← hH5]
      intro D1 H6 nD1 hD16 s6
      have h6c := s6 _ _ h5c
      have nc1 : D1 ≠ c := (ne_of_none h5c nD1).symm
      obtain ⟨H7, hH7⟩ : ∃ H7, H7 = upd H6 c (.ins CC dx (putF "ahead" (.ref D1) [("kind", .str p.1.nm), ("first", .int p.2.1), ("period", .int p.2.2), ("stroll", .ref a), ("at_first", .ref D0), ("start", wv4)])) := ⟨_, rfl⟩
      have h7c : H7 c = some (.ins CC dx [("kind", .str p.1.nm), ("first", .int p.2.1), ("period", .int p.2.2), ("stroll", .ref a), ("at_first", .ref D0), ("start", wv4), ("ahead", .ref D1)]) := by rw [hH7, upd_same, putF_to ["kind", "first", "period", "stroll", "at_first", "start"] rfl (by decide +kernel) rfl]; rfl
      have k7 : KeepE [c] H6 H7 := by rw [hH7]; exact KeepE.put List.mem_cons_self
      have t7 : TK H6 H7 := tkU (Soft.ins h6c) k7
      have ea7 := k7 _ _ nac (s6 _ _ ea5)
      have hD7 := k7 _ _ nDc (s6 _ _ hD5)
      have hS7 := (hS5.same s6).mv t7 (ea7.trans (s6 _ _ ea5).symm) (hD7.trans (s6 _ _ hD5).symm)
      have hD07 := k7 _ _ n0c (s6 _ _ hD05)
      have hL17 := k7 _ _ nLc (s6 _ _ hL15)
      have hD17 := k7 _ _ (fun z => nc1 (List.mem_singleton.mp z)) hD16
      have noM7 : (strF tv4 gv4 D wv4).lookup ("go" : Str) = none := lkNo _ _ _ _ (by decide +kernel)
      have f7 : ([("kind", .str p.1.nm), ("first", .int p.2.1), ("period", .int p.2.2), ("stroll", .ref a), ("at_first", .ref D0), ("start", wv4), ("ahead", .ref D1)] : List (Str × V)).lookup ("period" : Str) = some (.int p.2.2) := by simp only [List.lookup_cons, beq_self_eq_true, show (("period" : Str) == "kind") = false by decide +kernel, show (("period" : Str) == "first") = false by decide +kernel]
      have fit1 := fit.run ok he1.run
      have lm2 : (m1.length : Int) + (p.2.2 : Int) ≤ 3000 := by omega
      have ea7' := ea7
      have h7c' := h7c
      have hS7' := hS7
      rw [hH7] at ea7' h7c' hS7'
      walk_at "st"
      rw [← hH7]
      intro L2 us2 j m2 w2 H8 nL2 he2 hS8 hml2 hL2 hvl2 k8 htl2
      have h8c := k8 _ _ ncaD h7c
      have n1a : D1 ≠ a := ne_of hD17 ea7 (by intro z; cases z)
      have n1D : D1 ≠ D := (ne_of_none hD5 nD1).symm
      have n1aD : D1 ∉ [a, D] := fun z => by
        rcases List.mem_cons.mp z with z | z
        · exact n1a z
        · exact n1D (List.mem_singleton.mp z)
      have nLaD : L1 ∉ [a, D] := fun z => by
        rcases List.mem_cons.mp z with z | z
        · exact ne_of hL17 ea7 (by intro z; cases z) z
        · exact ne_of hL17 hD7 (by intro z; cases z) (List.mem_singleton.mp z)
      have hD08 := k8 _ _ n0aD hD07
      have hD18 := k8 _ _ n1aD hD17
      have hL18 := k8 _ _ nLaD hL17
      have nL2c : L2 ≠ c := (ne_of_none h7c nL2).symm
      have nL2c' : L2 ∉ [c] := fun z => nL2c (List.mem_singleton.mp z)
      obtain ⟨⟨dx8, tv8, gv8, wv8, ea8, _, hw8, _⟩, hD8, nd8, nz8⟩ := id hS8
      have fW8 := lkW tv8 gv8 D wv8
      obtain ⟨H9, hH9⟩ : ∃ H9, H9 = upd H8 c (.ins CC dx (putF "loop" (.ref L2) [("kind", .str p.1.nm), ("first", .int p.2.1), ("period", .int p.2.2), ("stroll", .ref a), ("at_first", .ref D0), ("start", wv4), ("ahead", .ref D1)])) := ⟨_, rfl⟩
      have h9c : H9 c = some (.ins CC dx [("kind", .str p.1.nm), ("first", .int p.2.1), ("period", .int p.2.2), ("stroll", .ref a), ("at_first", .ref D0), ("start", wv4), ("ahead", .ref D1), ("loop", .ref L2)]) := by rw [hH9, upd_same, putF_to ["kind", "first", "period", "stroll", "at_first", "start", "ahead"] rfl (by decide +kernel) rfl]; rfl
      have k9 : KeepE [c] H8 H9 := by rw [hH9]; exact KeepE.put List.mem_cons_self
      have ea9 := k9 _ _ nac ea8
      obtain ⟨H10, hH10⟩ : ∃ H10, H10 = upd H9 c (.ins CC dx (putF "end" wv8 [("kind", .str p.1.nm), ("first", .int p.2.1), ("period", .int p.2.2), ("stroll", .ref a), ("at_first", .ref D0), ("start", wv4), ("ahead", .ref D1), ("loop", .ref L2)])) := ⟨_, rfl⟩
      have h10c : H10 c = some (.ins CC dx [("kind", .str p.1.nm), ("first", .int p.2.1), ("period", .int p.2.2), ("stroll", .ref a), ("at_first", .ref D0), ("start", wv4), ("ahead", .ref D1), ("loop", .ref L2), ("end", wv8)]) := by rw [hH10, upd_same, putF_to ["kind", "first", "period", "stroll", "at_first", "start", "ahead", "loop"] rfl (by decide +kernel) rfl]; rfl
      have k10 : KeepE [c] H8 H10 := k9.trans (by rw [hH10]; exact KeepE.put List.mem_cons_self)
      have t10 : TK H8 H10 := tkU (Soft.ins h8c) k10
      have f10 : ([("kind", .str p.1.nm), ("first", .int p.2.1), ("period", .int p.2.2), ("stroll", .ref a), ("at_first", .ref D0), ("start", wv4), ("ahead", .ref D1), ("loop", .ref L2), ("end", wv8)] : List (Str × V)).lookup ("loop" : Str) = some (.ref L2) := by simp only [List.lookup_cons, beq_self_eq_true, show (("loop" : Str) == "kind") = false by decide +kernel, show (("loop" : Str) == "first") = false by decide +kernel, show (("loop" : Str) == "period") = false by decide +kernel, show (("loop" : Str) == "stroll") = false by decide +kernel, show (("loop" : Str) == "at_first") = false by decide +kernel, show (("loop" : Str) == "start") = false by decide +kernel, show (("loop" : Str) == "ahead") = false by decide +kernel]
      have hL110 := k10 _ _ nLc hL18
      have hL210 := k10 _ _ nL2c' hL2
      have le2 : j ≤ p.2.2 := by have := he2.le; omega
      have lus : us1.length + us2.length ≤ sizeLine := Nat.le_of_lt (small3k (by omega))
      have ea9' := ea9
      have h9c' := h9c
      rw [hH9] at ea9' h9c'
      have h10c' := h10c
      have hL110' := hL110
      have hL210' := hL210
      rw [hH10, hH9] at h10c' hL110' hL210'
      walk_at "st"
      rw [← hH9, ← hH10]
      intro L3 nL3
      obtain ⟨wa8, rfl, hsw8⟩ := hw8.int4
      obtain ⟨wa4, rfl, hsw4⟩ := hw4.int4
      have nL3c : L3 ≠ c := (ne_of_none h10c nL3).symm
      obtain ⟨H11, hH11⟩ : ∃ H11, H11 = upd H10 L3 (.lst (us1 ++ us2)) := ⟨_, rfl⟩
      have s11 : Same H10 H11 := by rw [hH11]; exact Same.new nL3
      have hL311 : H11 L3 = some (.lst (us1 ++ us2)) := by rw [hH11]; exact upd_same
      have h11c := s11 _ _ h10c
      obtain ⟨H12, hH12⟩ : ∃ H12, H12 = upd H11 c (.ins CC dx (putF "steps" (.ref L3) [("kind", .str p.1.nm), ("first", .int p.2.1), ("period", .int p.2.2), ("stroll", .ref a), ("at_first", .ref D0), ("start", .ref wa4), ("ahead", .ref D1), ("loop", .ref L2), ("end", .ref wa8)])) := ⟨_, rfl⟩
      have h12c : H12 c = some (.ins CC dx [("kind", .str p.1.nm), ("first", .int p.2.1), ("period", .int p.2.2), ("stroll", .ref a), ("at_first", .ref D0), ("start", .ref wa4), ("ahead", .ref D1), ("loop", .ref L2), ("end", .ref wa8), ("steps", .ref L3)]) := by rw [hH12, upd_same, putF_to ["kind", "first", "period", "stroll", "at_first", "start", "ahead", "loop", "end"] rfl (by decide +kernel) rfl]; rfl
      have k12 : KeepE [c] H11 H12 := by rw [hH12]; exact KeepE.put List.mem_cons_self
      have t12 : TK H11 H12 := tkU (Soft.ins h11c) k12
      have t8_12 : TK H8 H12 := t10.trans ((Same.tk s11).trans t12)
      have t4_12 : TK H4 H12 := t5.trans ((Same.tk s6).trans (t7.trans ((k8.tk hS7.soft).trans t8_12)))
      have hs8 := t8_12.seqT hsw8
      have hs4 := t4_12.seqT hsw4
      have f12e : ([("kind", .str p.1.nm), ("first", .int p.2.1), ("period", .int p.2.2), ("stroll", .ref a), ("at_first", .ref D0), ("start", .ref wa4), ("ahead", .ref D1), ("loop", .ref L2), ("end", .ref wa8), ("steps", .ref L3)] : List (Str × V)).lookup ("end" : Str) = some (.ref wa8) := by simp only [List.lookup_cons, beq_self_eq_true, show (("end" : Str) == "kind") = false by decide +kernel, show (("end" : Str) == "first") = false by decide +kernel, show (("end" : Str) == "period") = false by decide +kernel, show (("end" : Str) == "stroll") = false by decide +kernel, show (("end" : Str) == "at_first") = false by decide +kernel, show (("end" : Str) == "start") = false by decide +kernel, show (("end" : Str) == "ahead") = false by decide +kernel, show (("end" : Str) == "loop") = false by decide +kernel]
      have f12s : ([("kind", .str p.1.nm), ("first", .int p.2.1), ("period", .int p.2.2), ("stroll", .ref a), ("at_first", .ref D0), ("start", .ref wa4), ("ahead", .ref D1), ("loop", .ref L2), ("end", .ref wa8), ("steps", .ref L3)] : List (Str × V)).lookup ("start" : Str) = some (.ref wa4) := by simp only [List.lookup_cons, beq_self_eq_true, show (("start" : Str) == "kind") = false by decide +kernel, show (("start" : Str) == "first") = false by decide +kernel, show (("start" : Str) == "period") = false by decide +kernel, show (("start" : Str) == "stroll") = false by decide +kernel, show (("start" : Str) == "at_first") = false by decide +kernel]
      have h11c' := h11c
      rw [hH11] at h11c'
      have h12c' := h12c
      have hs8' := hs8
      have hs4' := hs4
      rw [hH12, hH11] at h12c' hs8' hs4'
      walk_at "st"
      rw [← hH11, ← hH12]
      intro pm npm
      obtain ⟨H13, hH13⟩ : ∃ H13, H13 = upd H12 pm (.tup [.int (w2.1 - w1.1), .int (w2.2.1 - w1.2.1)]) := ⟨_, rfl⟩
      have s13 : Same H12 H13 := by rw [hH13]; exact Same.new npm
      have hpm : H13 pm = some (.tup [.int (w2.1 - w1.1), .int (w2.2.1 - w1.2.1)]) := by rw [hH13]; exact upd_same
      have h13c := s13 _ _ h12c
      have h13c' := h13c
      rw [hH13] at h13c'
      walk_at "st"
      rw [← hH13]
      obtain ⟨H14, hH14⟩ : ∃ H14, H14 = upd H13 c (.ins CC dx (putF "move" (.ref pm) [("kind", .str p.1.nm), ("first", .int p.2.1), ("period", .int p.2.2), ("stroll", .ref a), ("at_first", .ref D0), ("start", .ref wa4), ("ahead", .ref D1), ("loop", .ref L2), ("end", .ref wa8), ("steps", .ref L3)])) := ⟨_, rfl⟩
      have h14c : H14 c = some (.ins CC dx [("kind", .str p.1.nm), ("first", .int p.2.1), ("period", .int p.2.2), ("stroll", .ref a), ("at_first", .ref D0), ("start", .ref wa4), ("ahead", .ref D1), ("loop", .ref L2), ("end", .ref wa8), ("steps", .ref L3), ("move", .ref pm)]) := by rw [hH14, upd_same, putF_to ["kind", "first", "period", "stroll", "at_first", "start", "ahead", "loop", "end", "steps"] rfl (by decide +kernel) rfl]; rfl
      have k14 : KeepE [c] H13 H14 := by rw [hH14]; exact KeepE.put List.mem_cons_self
      have t14 : TK H13 H14 := tkU (Soft.ins h13c) k14
      rw [← hH14]
      show Q V.non H14
      have up : ∀ b o, b ∉ [c] → H8 b = some o → H14 b = some o := fun b o n e => k14 _ _ n (s13 _ _ (k12 _ _ n (s11 _ _ (k10 _ _ n e))))
      have t8 : TK H8 H14 := t8_12.trans ((Same.tk s13).trans t14)
      have t4_8 : TK H4 H8 := t5.trans ((Same.tk s6).trans (t7.trans (k8.tk hS7.soft)))
      have hL314 := k14 _ _ (fun z => nL3c (List.mem_singleton.mp z)) (s13 _ _ (k12 _ _ (fun z => nL3c (List.mem_singleton.mp z)) hL311))
      have hpm14 := k14 _ _ (fun z => ne_of_none h12c npm (List.mem_singleton.mp z).symm) hpm
      have m1 : ∀ b ∈ [c], b ∈ [c, a, D] := fun b hb => by
        rw [List.mem_singleton.mp hb]
        exact List.mem_cons_self
      have m2' : ∀ b ∈ [a, D], b ∈ [c, a, D] := fun b hb => List.mem_cons_of_mem _ hb
      refine q _ m2 w1 w2 i j H14 ⟨⟨dx, D0, D1, L2, L3, .ref wa4, .ref wa8, .ref pm, us2, us1 ++ us2, h14c, Tp.mono (t4_8.trans t8) _ _ hw4, Tp.mono t8 _ _ hw8, Tp.of_ints (ks := [_, _]) (SqT.of hpm14), up _ _ n0c hD08, up _ _ (fun z => nc1 (List.mem_singleton.mp z)) hD18, up _ _ nL2c' hL2, TpAll.mono t8 _ _ htl2, hvl2, hL314, TpAll.append (TpAll.mono (t4_8.trans t8) _ _ htl1) (TpAll.mono t8 _ _ htl2), by rw [List.length_append, hvl1, hvl2]⟩, hS8.mv t8 ((up _ _ nac ea8).trans ea8.symm) ((up _ _ nDc hD8).trans hD8.symm), he1, he2, nd1, nd4, nz1, nz4⟩ ?_
      exact ((k1.mono m1).trans ((Same.keepE s2).trans ((k3.mono m1).trans ((k4.mono m2').trans ((k5.mono m1).trans ((Same.keepE s6).trans ((k7.mono m1).trans ((k8.mono m2').trans ((k10.mono m1).trans ((Same.keepE s11).trans ((k12.mono m1).trans ((Same.keepE s13).trans (k14.mono m1)))))))))))))
end

section
variable {P : Program} {w : World} {K : PySem.W.Frag} {mg : Str → Option Value} {base : Heap}
theorem ok_Stroll_reading {C : Addr} (S : ClsS K mg C) (MCl : MCal P w K mg base C "colour_of" 1 ["self", "place"] (spColOf K C)) (M : MetAt K C "reading" "Stroll.reading" s_Stroll_reading ["self"]) : MCal P w K mg base C "reading" 2 ["self"] (spReading K C) := by
  obtain ⟨f, fd, me, F, b⟩ := M.meth
  refine ⟨f, fd, me, F.ok sc_Stroll_reading (fun vs H Q E h => ?_) (fun cdv A outer s H vs Q E hr h => ?_), b⟩
  · obtain ⟨a, D, T, m, wk, rfl, _⟩ := h
    rfl
  · obtain ⟨a, D, T, m, wk, rfl, hS, q⟩ := h
    refine ⟨_, (pss_one (ps_ret (pe_tup (pa_cons (pe_ix (k_ix_tup (K := K)) (k_fld (K := K) (pv 0) (by rfl)) pe_int (fun _ _ => rfl)) (pa_cons (pe_ownM MCl S.cl hr (by decide) (pv 0) (pa_cons (pe_slice (k_sl_tup (K := K)) (k_fld (K := K) (pv 0) (by rfl)) po_none (po_some pe_int)) pa_nil)) pa_nil))))), ?_⟩
    have cl := S.cl
    have nP := S.nP
    have nW := S.nW
    obtain ⟨⟨dx, tv, gv, wv, ha, ht, hw, hgr⟩, hD, nd, nz⟩ := id hS
    have fW := lkW tv gv D wv
    have noC := lkNo (n := "colour_of") tv gv D wv (by decide +kernel)
    obtain ⟨wa, rfl, hsw⟩ := hw.int4
    walk_at "st"
    intro p np
    have s1 : Same H (upd H p (.tup [.int wk.1, .int wk.2.1])) := Same.new np
    refine ⟨a, D, p, T, m, wk, wk.1, wk.2.1, rfl, hS.same s1, upd_same, ?_⟩
    walk_at "st"
    intro p2 np2
    exact q _ _ (Tp.of_ints (ks := [_, _]) (SqT.of upd_same)) (Same.trans s1 (Same.new np2))
end

section
variable {P : Program} {w : World} {K : PySem.W.Frag} {mg : Str → Option Value} {base : Heap}
theorem ok_Stroll_stopped {C : Addr} (S : ClsS K mg C) (MR : MCal P w K mg base C "reading" 2 ["self"] (spReading K C)) (M : MetAt K C "has_stopped" "Stroll.has_stopped" s_Stroll_has_stopped ["self"]) : MCal P w K mg base C "has_stopped" 3 ["self"] (spStopped K C) := by
  obtain ⟨f, fd, me, F, b⟩ := M.meth
  refine ⟨f, fd, me, F.ok sc_Stroll_has_stopped (fun vs H Q E h => ?_) (fun cdv A outer s H vs Q E hr h => ?_), b⟩
  · obtain ⟨a, D, T, m, wk, c, n, B, rfl, _⟩ := h
    rfl
  · obtain ⟨a, D, T, m, wk, c, n, B, rfl, hS, ok, fit, q⟩ := h
    refine ⟨_, (pss_cons (ps_asg (pe_ownM0 MR S.cl hr (by decide) (pv 0)) (pg_tup (by rfl) (pgs_cons (pg_name (i := 1) sc_Stroll_has_stopped.nd rfl (Or.inl rfl)) (pgs_cons (pg_name (i := 2) sc_Stroll_has_stopped.nd rfl (Or.inl rfl)) pgs_nil))))
      (pss_one (ps_ret (pe_cmpR op_isN (pe_ix (k_ix_tup (K := K)) (pe_ix (k_ix_tup (K := K)) (k_fld (K := K) (pv 0) (by rfl)) (pv 1) (fun _ _ => rfl)) (pv 2) (fun _ _ => rfl)) pe_non (nomark _))))), ?_⟩
    have cl := S.cl
    have nT := S.nT
    obtain ⟨dx, tv, gv, wv, ha, ht, hw, hgr⟩ := id hS.ob
    have fT := lkT tv gv D wv
    have noR := lkNo (n := "reading") tv gv D wv (by decide +kernel)
    have cb := fit.cols (wPt wk)
    walk_at "st"
    intro v H1 hv s1
    obtain ⟨ra, rfl, hsr⟩ := hv.int2
    have ha1 := s1 _ _ ha
    obtain ⟨ta, tvs, rb, rws, ev, rfl, h1, h2, h3, h4, h5⟩ := tab_get ok fit.st cb (Tp.mono (Same.tk s1) _ _ ht)
    walk_at "st"
    refine q _ _ ?_ s1
    cases he : entAt T wk.2.2.2 (col m (wPt wk)) with
    | none =>
      have h5 : Tp K _ ev (entD none) := he ▸ h5
      rw [h5.nonI]
      exact ⟨fun _ => step_none he, fun _ => rfl⟩
    | some e =>
      have h5 : Tp K _ ev (entD (some e)) := he ▸ h5
      obtain ⟨u, rfl, _⟩ := h5.int3
      refine ⟨fun z => ?_, fun z => ?_⟩
      · exact absurd (of_decide_eq_true z) (by intro z; cases z)
      · rw [step_some he] at z
        cases z
end

/-! ### a paper that is no street's holds -/
def spNo : Sp := fun _ _ _ _ => False
/-- a def that is never called -/
theorem DefAt.no {P : Program} {w : World} {K : PySem.W.Frag} {mg : Str → Option Value} {base : Heap} {x : Str} {st : Stmt} {N ps : List Str} (D : DefAt K mg x st ps) (S : FnScope N ps (defScope st)) : Cal P w K mg base CX0 x 1 ps spNo :=
  D.cal (k := 0) S (fun _ _ _ _ h => False.elim h) (fun _ _ _ _ _ _ _ _ _ _ h => False.elim h)
def HoldsNS (T : List (List Ent)) (p : Pap) (z1 z2 : WSt) (i j : Nat) : Prop := i = p.2.1 ∧ j = p.2.2 ∧ match p.1 with
  | .stops => stepW T z2 = none
  | .round => z2 = z1
  | .street => False
/-! ### the fields of a course -/
section
variable {kd sv ev mv : V} {f p : Int} {a D0 D1 L2 L3 : Addr}
theorem clk_kind : (crsF kd f p a D0 sv D1 L2 ev L3 mv).lookup ("kind" : Str) = some (kd) := by simp only [List.lookup_cons, beq_self_eq_true]
theorem clk_first : (crsF kd f p a D0 sv D1 L2 ev L3 mv).lookup ("first" : Str) = some (.int f) := by simp only [List.lookup_cons, beq_self_eq_true, show (("first" : Str) == "kind") = false by decide +kernel]
theorem clk_period : (crsF kd f p a D0 sv D1 L2 ev L3 mv).lookup ("period" : Str) = some (.int p) := by simp only [List.lookup_cons, beq_self_eq_true, show (("period" : Str) == "kind") = false by decide +kernel, show (("period" : Str) == "first") = false by decide +kernel]
theorem clk_stroll : (crsF kd f p a D0 sv D1 L2 ev L3 mv).lookup ("stroll" : Str) = some (.ref a) := by simp only [List.lookup_cons, beq_self_eq_true, show (("stroll" : Str) == "kind") = false by decide +kernel, show (("stroll" : Str) == "first") = false by decide +kernel, show (("stroll" : Str) == "period") = false by decide +kernel]
theorem clk_at_first : (crsF kd f p a D0 sv D1 L2 ev L3 mv).lookup ("at_first" : Str) = some (.ref D0) := by simp only [List.lookup_cons, beq_self_eq_true, show (("at_first" : Str) == "kind") = false by decide +kernel, show (("at_first" : Str) == "first") = false by decide +kernel, show (("at_first" : Str) == "period") = false by decide +kernel, show (("at_first" : Str) == "stroll") = false by decide +kernel]
theorem clk_start : (crsF kd f p a D0 sv D1 L2 ev L3 mv).lookup ("start" : Str) = some (sv) := by simp only [List.lookup_cons, beq_self_eq_true, show (("start" : Str) == "kind") = false by decide +kernel, show (("start" : Str) == "first") = false by decide +kernel, show (("start" : Str) == "period") = false by decide +kernel, show (("start" : Str) == "stroll") = false by decide +kernel, show (("start" : Str) == "at_first") = false by decide +kernel]
theorem clk_ahead : (crsF kd f p a D0 sv D1 L2 ev L3 mv).lookup ("ahead" : Str) = some (.ref D1) := by simp only [List.lookup_cons, beq_self_eq_true, show (("ahead" : Str) == "kind") = false by decide +kernel, show (("ahead" : Str) == "first") = false by decide +kernel, show (("ahead" : Str) == "period") = false by decide +kernel, show (("ahead" : Str) == "stroll") = false by decide +kernel, show (("ahead" : Str) == "at_first") = false by decide +kernel, show (("ahead" : Str) == "start") = false by decide +kernel]
theorem clk_loop : (crsF kd f p a D0 sv D1 L2 ev L3 mv).lookup ("loop" : Str) = some (.ref L2) := by simp only [List.lookup_cons, beq_self_eq_true, show (("loop" : Str) == "kind") = false by decide +kernel, show (("loop" : Str) == "first") = false by decide +kernel, show (("loop" : Str) == "period") = false by decide +kernel, show (("loop" : Str) == "stroll") = false by decide +kernel, show (("loop" : Str) == "at_first") = false by decide +kernel, show (("loop" : Str) == "start") = false by decide +kernel, show (("loop" : Str) == "ahead") = false by decide +kernel]
theorem clk_end : (crsF kd f p a D0 sv D1 L2 ev L3 mv).lookup ("end" : Str) = some (ev) := by simp only [List.lookup_cons, beq_self_eq_true, show (("end" : Str) == "kind") = false by decide +kernel, show (("end" : Str) == "first") = false by decide +kernel, show (("end" : Str) == "period") = false by decide +kernel, show (("end" : Str) == "stroll") = false by decide +kernel, show (("end" : Str) == "at_first") = false by decide +kernel, show (("end" : Str) == "start") = false by decide +kernel, show (("end" : Str) == "ahead") = false by decide +kernel, show (("end" : Str) == "loop") = false by decide +kernel]
theorem clk_steps : (crsF kd f p a D0 sv D1 L2 ev L3 mv).lookup ("steps" : Str) = some (.ref L3) := by simp only [List.lookup_cons, beq_self_eq_true, show (("steps" : Str) == "kind") = false by decide +kernel, show (("steps" : Str) == "first") = false by decide +kernel, show (("steps" : Str) == "period") = false by decide +kernel, show (("steps" : Str) == "stroll") = false by decide +kernel, show (("steps" : Str) == "at_first") = false by decide +kernel, show (("steps" : Str) == "start") = false by decide +kernel, show (("steps" : Str) == "ahead") = false by decide +kernel, show (("steps" : Str) == "loop") = false by decide +kernel, show (("steps" : Str) == "end") = false by decide +kernel]
theorem clk_move : (crsF kd f p a D0 sv D1 L2 ev L3 mv).lookup ("move" : Str) = some (mv) := by simp only [List.lookup_cons, beq_self_eq_true, show (("move" : Str) == "kind") = false by decide +kernel, show (("move" : Str) == "first") = false by decide +kernel, show (("move" : Str) == "period") = false by decide +kernel, show (("move" : Str) == "stroll") = false by decide +kernel, show (("move" : Str) == "at_first") = false by decide +kernel, show (("move" : Str) == "start") = false by decide +kernel, show (("move" : Str) == "ahead") = false by decide +kernel, show (("move" : Str) == "loop") = false by decide +kernel, show (("move" : Str) == "end") = false by decide +kernel, show (("move" : Str) == "steps") = false by decide +kernel]
theorem clk_no {n : Str} (h : (n == "kind" || (n == "first" || (n == "period" || (n == "stroll" || (n == "at_first" || (n == "start" || (n == "ahead" || (n == "loop" || (n == "end" || (n == "steps" || (n == "move"))))))))))) = false) : (crsF kd f p a D0 sv D1 L2 ev L3 mv).lookup n = none := by
  simp only [Bool.or_eq_false_iff] at h
  simp only [List.lookup_cons, List.lookup_nil, h.1, h.2.1, h.2.2.1, h.2.2.2.1, h.2.2.2.2.1, h.2.2.2.2.2.1, h.2.2.2.2.2.2.1, h.2.2.2.2.2.2.2.1, h.2.2.2.2.2.2.2.2.1, h.2.2.2.2.2.2.2.2.2.1, h.2.2.2.2.2.2.2.2.2.2]
end
def spHoldsNS (K : PySem.W.Frag) (CC CS : Addr) : Sp := fun vs H Q _ => ∃ (c a D : Addr) (T : List (List Ent)) (p : Pap) (m0 m1 m2 : CM) (w0 w1 w2 : Wk) (i j cc n : Nat) (B : Int), vs = [.ref c] ∧ CrsAt K CC CS H c a D T p m0 m1 m2 w0 w1 w2 i j ∧ p.1 ≠ .street ∧ PapOk p ∧ TabOk cc n T ∧ Fit cc n B (col m2, w2) ∧
  ∀ (b : Bool) (H' : Hp), (b = true ↔ HoldsNS T p (col m1, w1) (col m2, w2) i j) → Same H H' → Q (.bl b) H'
theorem dict_same {m1 m2 : CM} (n1 : (m1.map (·.1)).Nodup) (n2 : (m2.map (·.1)).Nodup) (z1 : ∀ e ∈ m1, e.2 ≠ 0) (z2 : ∀ e ∈ m2, e.2 ≠ 0) : ((cellK m2).length = (cellK m1).length ∧ ∀ p ∈ cellK m2, valV (cellK m1) p.1 = some p.2) ↔ col m2 = col m1 := by
  constructor
  · rintro ⟨hl, h⟩
    rw [cell_len, cell_len] at hl
    have sub : ∀ e ∈ m2, e ∈ m1 := fun e he => by
      have z := h (ptK e.1, V.int e.2) (List.mem_map.mpr ⟨e, he, rfl⟩)
      have z : valV (cellK m1) (ptK e.1) = some (V.int e.2) := z
      rw [cell_val] at z
      cases q : look m1 e.1 with
      | none =>
        rw [q] at z
        cases z
      | some c =>
        rw [q] at z
        have : c = e.2 := by
          have := Option.some.inj z
          injection this
        have := look_mem q
        subst c
        exact this
    funext p
    unfold col
    cases q : look m2 p with
    | some c =>
      have e1 := sub _ (look_mem q)
      rw [mem_look n1 e1]
    | none =>
      cases q1 : look m1 p with
      | none => rfl
      | some c =>
        exfalso
        have e1 := look_mem q1
        -- the keys of m2 are as many, all among those of m1
        have ks : ∀ k ∈ m2.map (·.1), k ∈ m1.map (·.1) := fun k hk => by
          obtain ⟨e, he, rfl⟩ := List.mem_map.mp hk
          exact List.mem_map.mpr ⟨e, sub e he, rfl⟩
        have hp1 : p ∈ m1.map (·.1) := List.mem_map.mpr ⟨_, e1, rfl⟩
        have hp2 : p ∉ m2.map (·.1) := fun z => by
          obtain ⟨e, he, ee⟩ := List.mem_map.mp z
          have := mem_look n2 (show (e.1, e.2) ∈ m2 from he)
          rw [ee, q] at this
          cases this
        have nd3 : (p :: m2.map (·.1)).Nodup := List.nodup_cons.mpr ⟨hp2, n2⟩
        have sub3 : ∀ k ∈ p :: m2.map (·.1), k ∈ m1.map (·.1) := fun k hk => by
          rcases List.mem_cons.mp hk with rfl | hk
          · exact hp1
          · exact ks k hk
        have := nodup_sub nd3 sub3
        rw [List.length_cons, List.length_map, List.length_map] at this
        omega
  · intro h
    have eqv : ∀ p, look m2 p = look m1 p := fun p => by
      have z := congrFun h p
      unfold col at z
      cases q : look m2 p with
      | none =>
        cases q1 : look m1 p with
        | none => rfl
        | some c =>
          rw [q, q1] at z
          exact absurd z.symm (z1 _ (look_mem q1))
      | some c =>
        cases q1 : look m1 p with
        | none =>
          rw [q, q1] at z
          exact absurd z (z2 _ (look_mem q))
        | some d =>
          rw [q, q1] at z
          rw [show c = d from z]
    have sub : ∀ {a b : CM}, (a.map (·.1)).Nodup → (∀ p, look a p = look b p) → ∀ k ∈ a.map (·.1), k ∈ b.map (·.1) := fun na e k hk => by
      obtain ⟨x, hx, rfl⟩ := List.mem_map.mp hk
      have := mem_look na (show (x.1, x.2) ∈ _ from hx)
      rw [e] at this
      exact List.mem_map.mpr ⟨_, look_mem this, rfl⟩
    refine ⟨?_, fun p hp => ?_⟩
    · rw [cell_len, cell_len]
      have l1 := nodup_sub n2 (sub n2 eqv)
      have l2 := nodup_sub n1 (sub n1 fun p => (eqv p).symm)
      rw [List.length_map, List.length_map] at l1 l2
      omega
    · obtain ⟨e, he, rfl⟩ := List.mem_map.mp hp
      show valV (cellK m1) (ptK e.1) = some (V.int e.2)
      rw [cell_val, ← eqv, mem_look n2 (show (e.1, e.2) ∈ m2 from he)]
      rfl
theorem shp_wk (w : Wk) : SeqAt.shaped (wkD w) = true := by
  have f : flatT 2 (wkD w) := fun d hd => by
    obtain ⟨k, _, rfl⟩ := List.mem_map.mp (show d ∈ [w.1, w.2.1, w.2.2.1, w.2.2.2].map PyData.int from hd)
    trivial
  exact (f.shp (by decide)).1
theorem eqv_wk (a b : Wk) : PyData.eqv (wkD a) (wkD b) = true ↔ a = b := by
  obtain ⟨a1, a2, a3, a4⟩ := a
  obtain ⟨b1, b2, b3, b4⟩ := b
  simp [wkD, PyData.eqv, PyData.eqvAll]
section
variable {P : Program} {w : World} {K : PySem.W.Frag} {mg : Str → Option Value} {base : Heap}
local macro_rules | `(tactic| walk_at "cl") => `(tactic| first | (refine le_only ?_; omega) | (refine lt_only ?_; omega) | assumption)
theorem ok_Course_holdsNS (T : Txt K mg) {CC CS : Addr} (SS : ClsS K mg CS) (S : ClsC K mg CC) (MH : MCal P w K mg base CS "has_stopped" 3 ["self"] (spStopped K CS)) (M : MetAt K CC "holds" "Course.holds" s_Course_holds ["self"]) (C_repeats_for_ever : Cal P w K mg base CX0 "_repeats_for_ever" 1 ["painted", "loop", "move", "ground"] spNo) : MCal P w K mg base CC "holds" 4 ["self"] (spHoldsNS K CC CS) := by
  obtain ⟨f, fd, me, F, b⟩ := M.meth
  refine ⟨f, fd, me, F.ok sc_Course_holds (fun vs H Q E h => ?_) (fun cdv A outer s H vs Q E hr h => ?_), b⟩
  · obtain ⟨c, a, D, T, p, m0, m1, m2, w0, w1, w2, i, j, cc, n, B, rfl, _⟩ := h
    rfl
  · obtain ⟨c, a, D, Tb, p, m0, m1, m2, w0, w1, w2, i, j, cc, n, B, rfl, hC, hns, pok, ok, fit, q⟩ := h
    refine ⟨_, (pss_cons (ps_if (pt_cmpR op_lt (pe_callB (k_len_l (K := K)) (by rfl) T.m_len (by decide +kernel) (pa_cons (k_fld (K := K) (pv 0) (by rfl)) pa_nil)) (pe_op op_add (k_fld (K := K) (pv 0) (by rfl)) (k_fld (K := K) (pv 0) (by rfl))) (nomark _)) (pss_one (ps_ret pe_bl)) pss_nil)
      (pss_cons (ps_if (pt_cmpR op_eq (k_fld (K := K) (pv 0) (by rfl)) pe_str (nomark _)) (pss_one (ps_ret (pe_ownM0 MH SS.cl hr (by decide) (k_fld (K := K) (pv 0) (by rfl))))) pss_nil)
      (pss_cons (ps_if (pt_cmpR op_eq (k_fld (K := K) (pv 0) (by rfl)) pe_str (nomark _)) (pss_one (ps_ret (pe_and (pe_cmpR (k_eqD (K := K) hr.units) (k_fld (K := K) (pv 0) (by rfl)) (k_fld (K := K) (pv 0) (by rfl)) (nomark _)) (pe_one (pe_cmpR (op_eqT hr.units) (k_fld (K := K) (k_fld (K := K) (pv 0) (by rfl)) (by rfl)) (k_fld (K := K) (pv 0) (by rfl)) (nomark _)))))) pss_nil)
      (pss_cons (ps_if (PW.pt (pw_or (pt_cmpR (k_eqD (K := K) hr.units) (k_fld (K := K) (pv 0) (by rfl)) (pe_tup (pa_cons pe_int (pa_cons pe_int pa_nil))) (nomark _)) (pw_or1 (pt_cmpR (k_neD (K := K) hr.units) (pe_slice (k_sl_tup (K := K)) (k_fld (K := K) (pv 0) (by rfl)) (po_some pe_int) po_none) (pe_slice (k_sl_tup (K := K)) (k_fld (K := K) (pv 0) (by rfl)) (po_some pe_int) po_none) (nomark _))))) (pss_one (ps_ret pe_bl)) pss_nil)
      (pss_one (ps_ret (pe_own C_repeats_for_ever hr (by first | decide | omega) (pa_cons (k_fld (K := K) (pv 0) (by rfl)) (pa_cons (k_fld (K := K) (pv 0) (by rfl)) (pa_cons (k_fld (K := K) (pv 0) (by rfl)) (pa_cons (k_fld (K := K) (k_fld (K := K) (pv 0) (by rfl)) (by rfl)) pa_nil))))))))))), ?_⟩
    have cl := S.cl
    have cs := SS.cl
    have n2 := S.n2
    have n3 := S.n3
    have n1 := S.n1
    have n4 := S.n4
    have n6 := S.n6
    have n7 := S.n7
    have n9 := S.n9
    have n10 := S.n10
    have nP := SS.nP
    obtain ⟨⟨dx, D0, D1, L2, L3, sv, ev, mv, us2, us3, hc, hsv, hev, hmv, hD0, hD1, hL2, htl2, hl2, hL3, htl3, hl3⟩, hS, he1, he2, nd0, nd1, nz0, nz1⟩ := hC
    obtain ⟨⟨dxs, tv, gv, wv, ea, _, hw, _⟩, hD, nd2, nz2⟩ := id hS
    have fP := lkP tv gv D wv
    have g1 := clk_kind (kd := .str p.1.nm) (f := p.2.1) (p := p.2.2) (a := a) (D0 := D0) (sv := sv) (D1 := D1) (L2 := L2) (ev := ev) (L3 := L3) (mv := mv)
    have g2 := clk_first (kd := .str p.1.nm) (f := p.2.1) (p := p.2.2) (a := a) (D0 := D0) (sv := sv) (D1 := D1) (L2 := L2) (ev := ev) (L3 := L3) (mv := mv)
    have g3 := clk_period (kd := .str p.1.nm) (f := p.2.1) (p := p.2.2) (a := a) (D0 := D0) (sv := sv) (D1 := D1) (L2 := L2) (ev := ev) (L3 := L3) (mv := mv)
    have g4 := clk_stroll (kd := .str p.1.nm) (f := p.2.1) (p := p.2.2) (a := a) (D0 := D0) (sv := sv) (D1 := D1) (L2 := L2) (ev := ev) (L3 := L3) (mv := mv)
    have g6 := clk_start (kd := .str p.1.nm) (f := p.2.1) (p := p.2.2) (a := a) (D0 := D0) (sv := sv) (D1 := D1) (L2 := L2) (ev := ev) (L3 := L3) (mv := mv)
    have g7 := clk_ahead (kd := .str p.1.nm) (f := p.2.1) (p := p.2.2) (a := a) (D0 := D0) (sv := sv) (D1 := D1) (L2 := L2) (ev := ev) (L3 := L3) (mv := mv)
    have g9 := clk_end (kd := .str p.1.nm) (f := p.2.1) (p := p.2.2) (a := a) (D0 := D0) (sv := sv) (D1 := D1) (L2 := L2) (ev := ev) (L3 := L3) (mv := mv)
    have g10 := clk_steps (kd := .str p.1.nm) (f := p.2.1) (p := p.2.2) (a := a) (D0 := D0) (sv := sv) (D1 := D1) (L2 := L2) (ev := ev) (L3 := L3) (mv := mv)
    have noH : (strF tv gv D wv).lookup ("has_stopped" : Str) = none := lkNo _ _ _ _ (by decide +kernel)
    have le1 : i ≤ p.2.1 := he1.le
    have le2 : j ≤ p.2.2 := he2.le
    walk_at "st"
    refine ite2 (fun e => ?_) (fun e => ?_)
    · have e := of_decide_eq_true e
      refine q false _ (⟨(fun z => absurd z Bool.false_ne_true), (fun z => ?_)⟩ : _ ↔ _) (Same.refl H)
      exfalso
      have z1 := z.1
      have z2 := z.2.1
      omega
    · have e : ¬ _ := fun z => e (decide_eq_true z)
      have ei : i = p.2.1 := by omega
      have ej : j = p.2.2 := by omega
      obtain ⟨kd, fp, pp⟩ := p
      cases kd with
      | street => exact absurd rfl hns
      | stops =>
        walk_at "st"
        intro b H' hb s1
        exact q b H' ⟨fun z => ⟨ei, ej, hb.mp z⟩, fun z => hb.mpr z.2.2⟩ s1
      | round =>
        have d1 := Tp.dp _ _ hev
        have d2 := Tp.dp _ _ hsv
        have sh2 := shp_wk w2
        have sh1 := shp_wk w1
        have iv : ∀ m : CM, ∀ p ∈ cellK m, ∃ i, p.2 = V.int i := fun m p hp => by
          obtain ⟨e, _, rfl⟩ := List.mem_map.mp hp
          exact ⟨_, rfl⟩
        have iv2 := iv m2
        have iv1 := iv m1
        have ds := dict_same nd1 nd2 nz1 nz2
        walk_at "st"
        refine ite2 (fun e => ?_) (fun e => ?_)
        · have e := (eqv_wk _ _).mp e
          walk_at "st"
          intro r hr'
          refine q r H ⟨fun z => ⟨ei, ej, ?_⟩, fun z => ?_⟩ (Same.refl H)
          · show (col m2, w2) = (col m1, w1)
            rw [ds.mp (hr'.mp z), e]
          · exact hr'.mpr (ds.mpr (congrArg Prod.fst z.2.2))
        · refine q false H (⟨(fun z => absurd z Bool.false_ne_true), (fun z => ?_)⟩ : _ ↔ _) (Same.refl H)
          exact absurd ((eqv_wk _ _).mpr (congrArg Prod.snd z.2.2)) e
end

/-! ### is_paper, shows_paper -/
def spIsPap (K : PySem.W.Frag) : Sp := fun vs H Q _ => ∃ (v : V) (p : Pap), vs = [v] ∧ Tp K H v (papD p) ∧ PapOk p ∧ ∀ H', Same H H' → Q (.bl true) H'
def spShowsNS (K : PySem.W.Frag) : Sp := fun vs H Q _ => ∃ (tv fv wv pv : V) (c n : Nat) (T : List (List Ent)) (F : List Sq) (w : Wk) (p : Pap), vs = [tv, fv, wv, pv] ∧ Tp K H tv (tabD T) ∧ Tp K H fv (floorD F) ∧ Tp K H wv (wkD w) ∧ StandOk c n FarI T F w ∧ F.length ≤ 1000 ∧ Tp K H pv (papD p) ∧ PapOk p ∧ p.1 ≠ .street ∧ F.length + p.2.1 + p.2.2 ≤ 3000 ∧
  ∀ (b : Bool) (z1 z2 : WSt) (i j : Nat) H', Ends T (colF F, w) p.2.1 i z1 → Ends T z1 p.2.2 j z2 → (b = true ↔ HoldsNS T p z1 z2 i j) → Same H H' → Q (.bl b) H'
section
variable {P : Program} {w : World} {K : PySem.W.Frag} {mg : Str → Option Value} {base : Heap}
local macro_rules | `(tactic| walk_at "cl") => `(tactic| first | (refine le_only ?_; omega) | (refine lt_only ?_; omega) | assumption | exact .inr (SqT.of upd_same))
theorem ok_is_paper (T : Txt K mg) (D : DefAt K mg "is_paper" s_is_paper ["value"]) (C_is_whole : Cal P w K mg base CX0 "is_whole" 1 ["value", "least", "greatest"] spWhole) : Cal P w K mg base CX0 "is_paper" 2 ["value"] (spIsPap K) := by
  refine D.cal sc_is_paper (fun vs H Q E h => ?_) (fun f cdv A outer s H vs Q E hr h => ?_)
  · obtain ⟨v, p, rfl, _⟩ := h
    rfl
  · obtain ⟨vv, p, rfl, hv, pok, q⟩ := h
    refine ⟨_, (pss_cons (ps_if (PW.pt (pw_or (pt_not (pt_val (pe_callB (k_isN (K := K)) (by rfl) T.m_isinstance (by decide +kernel) (pa_cons (pv 0) (pa_cons (pe_ty "tuple" (by rfl) T.m_tuple (by decide +kernel)) pa_nil))))) (pw_or (pt_cmpR op_notIn_seq (pe_callB (k_len_t (K := K)) (by rfl) T.m_len (by decide +kernel) (pa_cons (pv 0) pa_nil)) (pe_tup (pa_cons pe_int (pa_cons pe_int pa_nil))) (by rfl)) (pw_or1 (pt_not (pt_val (pe_own C_is_whole hr (by first | decide | omega) (pa_cons (pe_ix (k_ix_tup (K := K)) (pv 0) pe_int (fun _ _ => rfl)) (pa_cons pe_int (pa_cons (pe_gint (by rfl) T.most_steps) pa_nil)))))))))) (pss_one (ps_ret pe_bl)) pss_nil)
      (pss_cons (ps_if (pt_cmpR op_eq (pe_callB (k_len_t (K := K)) (by rfl) T.m_len (by decide +kernel) (pa_cons (pv 0) pa_nil)) pe_int (nomark _)) (pss_one (ps_ret (pe_cmpR op_eq (pe_ix (k_ix_tup (K := K)) (pv 0) pe_int (fun _ _ => rfl)) pe_str (nomark _)))) pss_nil)
      (pss_one (ps_ret (pe_and (pe_cmpR op_in_seq (pe_ix (k_ix_tup (K := K)) (pv 0) pe_int (fun _ _ => rfl)) (pe_tup (pa_cons pe_str (pa_cons pe_str pa_nil))) (by rfl)) (pe_one (pe_own C_is_whole hr (by first | decide | omega) (pa_cons (pe_ix (k_ix_tup (K := K)) (pv 0) pe_int (fun _ _ => rfl)) (pa_cons pe_int (pa_cons (pe_gint (by rfl) T.longest_period) pa_nil)))))))))), ?_⟩
    have hf := pok.f
    have hp2 := pok.p2
    have hp1 := pok.p1
    obtain ⟨pa, rfl, hpc⟩ := papI hv pok
    obtain ⟨kd, fp, pp⟩ := p
    cases kd with
    | stops =>
      rcases hpc with ⟨_, h0, hpa⟩ | ⟨hk, _⟩
      · have hf : (fp : Int) ≤ 100000 := by
          have : fp ≤ 100000 := hf
          omega
        walk_at "st"
        intro t nt
        have hpa1 := TK.seqT (TK.new (o := .tup [.int 2, .int 3]) nt) hpa
        walk_at "st"
        refine ite2 (fun z => absurd z (by rw [Bool.not_eq_true]; simp <;> omega)) (fun _ => ?_)
        walk_at "st"
        exact q _ (Same.new nt)
      · exact absurd rfl hk
    | round =>
      rcases hpc with ⟨hk, _⟩ | ⟨_, hpa⟩
      · cases hk
      · have hf : (fp : Int) ≤ 100000 := by
          have : fp ≤ 100000 := hf
          omega
        have h1 : 1 ≤ (pp : Int) := by
          have : 1 ≤ pp := hp1 (by intro z; cases z)
          omega
        have h2 : (pp : Int) ≤ 2000 := by
          have : pp ≤ 2000 := hp2
          omega
        walk_at "st"
        intro t nt
        have hpa1 := TK.seqT (TK.new (o := .tup [.int 2, .int 3]) nt) hpa
        walk_at "st"
        refine ite2 (fun z => absurd z (by rw [Bool.not_eq_true]; simp <;> omega)) (fun _ => ?_)
        walk_at "st"
        intro t2 nt2
        have hpa2 := TK.seqT (TK.new (o := .tup [.str "round", .str "street"]) nt2) hpa1
        walk_at "st"
        rw [in_dec h1 h2]
        exact q _ (Same.trans (Same.new nt) (Same.new nt2))
    | street =>
      rcases hpc with ⟨hk, _⟩ | ⟨_, hpa⟩
      · cases hk
      · have hf : (fp : Int) ≤ 100000 := by
          have : fp ≤ 100000 := hf
          omega
        have h1 : 1 ≤ (pp : Int) := by
          have : 1 ≤ pp := hp1 (by intro z; cases z)
          omega
        have h2 : (pp : Int) ≤ 2000 := by
          have : pp ≤ 2000 := hp2
          omega
        walk_at "st"
        intro t nt
        have hpa1 := TK.seqT (TK.new (o := .tup [.int 2, .int 3]) nt) hpa
        walk_at "st"
        refine ite2 (fun z => absurd z (by rw [Bool.not_eq_true]; simp <;> omega)) (fun _ => ?_)
        walk_at "st"
        intro t2 nt2
        have hpa2 := TK.seqT (TK.new (o := .tup [.str "round", .str "street"]) nt2) hpa1
        walk_at "st"
        rw [in_dec h1 h2]
        exact q _ (Same.trans (Same.new nt) (Same.new nt2))
theorem ok_shows_paperNS (T : Txt K mg) {C CC : Addr} (S : ClsS K mg C) (SC : ClsC K mg CC) (mkS : PySem.W.makesIn K C = true) (kpS : PySem.W.keepIn K (.ref C) = true) (mkC : PySem.W.makesIn K CC = true) (kpC : PySem.W.keepIn K (.ref CC) = true) (MI : MCalD P w K mg base C "__init__" 2 ["self", "table", "floor", "walker", "ground"] (spInit3 K C)) (MC : MCal P w K mg base CC "__init__" 4 ["self", "stroll", "paper"] (spCrs K CC C)) (MHo : MCal P w K mg base CC "holds" 4 ["self"] (spHoldsNS K CC C))
    (D : DefAt K mg "shows_paper" s_shows_paper ["table", "floor", "walker", "value"]) (C_check_stand : Cal P w K mg base CX0 "check_stand" 5 ["table", "floor", "walker"] (spStand K)) (C_is_paper : Cal P w K mg base CX0 "is_paper" 2 ["value"] (spIsPap K)) : Cal P w K mg base CX0 "shows_paper" 6 ["table", "floor", "walker", "value"] (spShowsNS K) := by
  refine D.cal sc_shows_paper (fun vs H Q E h => ?_) (fun f cdv A outer s H vs Q E hr h => ?_)
  · obtain ⟨tv, fv, wv, pv, c, n, T, F, wk, p, rfl, _⟩ := h
    rfl
  · obtain ⟨tv, fv, wv, ppv, cc, n, Tb, Fl, wk, p, rfl, ht, hf, hw, hs, hl, hp, pok, hns, hlen, q⟩ := h
    refine ⟨_, (pss_cons (ps_expr (pe_own C_check_stand hr (by first | decide | omega) (pa_cons (pv 0) (pa_cons (pv 1) (pa_cons (pv 2) pa_nil)))))
      (pss_one (ps_ret (pe_and (pe_own C_is_paper hr (by first | decide | omega) (pa_cons (pv 3) pa_nil)) (pe_one (pe_ownM0 MHo SC.cl hr (by decide) (pe_ownMk MC mkC kpC hr (by decide) SC.mgC (pa_cons (pe_ownMkD MI mkS kpS hr (by decide) S.mgC (pa_cons (pv 0) (pa_cons (pv 1) (pa_cons (pv 2) pa_nil)))) (pa_cons (pv 3) pa_nil))))))))), ?_⟩
    have cl := S.cl
    have clC := SC.cl
    walk_at "st"
    intro H1 s1
    have hp1 := Tp.mono (Same.tk s1) _ _ hp
    walk_at "st"
    intro H2 s2
    have s02 := Same.trans s1 s2
    walk_at "st"
    intro x dx nx ndx nex
    have s3 : Same H2 (upd (upd H2 dx (.own x)) x (.ins C dx [])) := fun b o e => by
      rw [upd_ne (ne_of_none e nx), upd_ne (ne_of_none e ndx)]
      exact e
    have hx : (upd (upd H2 dx (.own x)) x (.ins C dx [])) x = some (.ins C dx []) := upd_same
    generalize hH3 : upd (upd H2 dx (.own x)) x (.ins C dx []) = H3 at s3 hx
    have s03 := Same.trans s02 s3
    have asc := hs.fl.asc
    have nz : ∀ s ∈ Fl, s.2.2 ≠ 0 := fun s h => by
      have := (hs.fl.sq s h).2
      omega
    refine ⟨x, dx, tv, fv, wv, Tb, Fl, wk, rfl, hx, Tp.mono (Same.tk s03) _ _ ht, Tp.mono (Same.tk s03) _ _ hf, Tp.mono (Same.tk s03) _ _ hw, asc, nz, hl, fun D H4 nD hS k4 => ⟨rfl, ?_⟩⟩
    have nx0 : H x = none := Same.back s02 nx
    have s4 : Same H H4 := (KeepE.trans (Same.keepE s03) k4).same fun b hb => by
      rw [List.mem_singleton.mp hb]
      exact nx0
    have nD0 : H D = none := Same.back s03 nD
    have hp4 := Tp.mono (Same.tk s4) _ _ hp
    walk_at "st"
    intro c dc nc ndc nec
    have s5 : Same H4 (upd (upd H4 dc (.own c)) c (.ins CC dc [])) := fun b o e => by
      rw [upd_ne (ne_of_none e nc), upd_ne (ne_of_none e ndc)]
      exact e
    have hc : (upd (upd H4 dc (.own c)) c (.ins CC dc [])) c = some (.ins CC dc []) := upd_same
    generalize hH5 : upd (upd H4 dc (.own c)) c (.ins CC dc []) = H5 at s5 hc
    have nc0 : H c = none := Same.back s4 nc
    have lc : (cellsOf Fl).length = Fl.length := List.length_map _
    refine ⟨c, dc, x, D, ppv, Tb, p, cellsOf Fl, wk, cc, n, FarI, rfl, hc, Tp.mono (Same.tk s5) _ _ hp4, pok, hS.same s5, hs.tab, hs.fit, by omega, fun m1 m2 w1 w2 i j H6 hC k6 => ⟨rfl, ?_⟩⟩
    have s6 : Same H H6 := fun b o e => by
      have e5 := s5 _ _ (s4 _ _ e)
      refine k6 _ _ (fun z => ?_) e5
      rcases List.mem_cons.mp z with z | z
      · rw [z, nc0] at e
        cases e
      · rcases List.mem_cons.mp z with z | z
        · rw [z, nx0] at e
          cases e
        · rw [List.mem_singleton.mp z, nD0] at e
          cases e
    obtain ⟨dx6, D0, D1, L2, L3, sv, ev, mv, us2, us3, hc6, _⟩ := id hC.ob
    have noH : (crsF (.str p.1.nm) p.2.1 p.2.2 x D0 sv D1 L2 ev L3 mv).lookup ("holds" : Str) = none := clk_no (by decide +kernel)
    have fit2 := (hs.fit.run hs.tab hC.e1.run).run hs.tab hC.e2.run
    have tab := hs.tab
    walk_at "st"
    intro b H7 hb s7
    exact q b _ _ i j H7 hC.e1 hC.e2 hb (Same.trans s6 s7)
end

/-! ### colour_rounds, bound_stand -/
def sqF (c : Int) : List Sq := if c = 0 then [] else [(0, 0, c), (0, 1, c), (1, 0, c), (1, 1, c)]
def sqW (t : Int) : Wk := (0, 0, if t = 1 then 0 else 3, 0)
def spSqSt (K : PySem.W.Frag) : Sp := fun vs H Q _ => ∃ c t : Int, vs = [.int c, .int t] ∧ ∀ v H', Tp K H' v (stepD (sqF c) (sqW t)) → Same H H' → Q v H'
def spCR (K : PySem.W.Frag) : Sp := spRounds K
def standOf (L : List Pt) (R : List Nat) : List Sq × Wk := (sqF (R.headD 0 : Nat), sqW (tuOf L (R.headD 0)))
def spBound (K : PySem.W.Frag) : Sp := fun vs H Q _ => ∃ (tv : V) (L : List Pt), vs = [tv] ∧ Tp K H tv (tabD [tRow L]) ∧ TurnL L ∧ ∀ (v : V) (H' : Hp) (Rs : List (List Nat)), RoundsOk L Rs → Rnd L L.length Rs → (Rs.all (bothB L) = true → v = .non) →
  (∀ R, Rs.find? (fun R => !bothB L R) = some R → Tp K H' v (stepD (standOf L R).1 (standOf L R).2)) → Same H H' → Q v H'
theorem tp_new {K : PySem.W.Frag} {H : Hp} {p : Addr} {xs : List V} {ds : List PyData} (n : H p = none) (h : TpAll K H xs ds) : Tp K (upd H p (.tup xs)) (.ref p) (.tuple ds) := .tup (SqT.of upd_same) (TpAll.mono (TK.new n) _ _ h)
section
variable {P : Program} {w : World} {K : PySem.W.Frag} {mg : Str → Option Value} {base : Heap}
local macro_rules | `(tactic| walk_at "cl") => `(tactic| first | (refine le_only ?_; omega) | (refine lt_only ?_; omega))
theorem ok_colour_rounds (T : Txt K mg) (D : DefAt K mg "colour_rounds" s_colour_rounds ["table"]) (C_check_turning : Cal P w K mg base CX0 "_check_turning" 5 ["table"] (spCheckTu K)) (C_rounds : Cal P w K mg base CX0 "_rounds" 1 ["table"] (spRounds K)) : Cal P w K mg base CX0 "colour_rounds" 6 ["table"] (spCR K) := by
  refine D.cal sc_colour_rounds (fun vs H Q E h => ?_) (fun f cdv A outer s H vs Q E hr h => ?_)
  · obtain ⟨tv, L, rfl, _⟩ := h
    rfl
  · obtain ⟨tv, L, rfl, ht, hL, q⟩ := h
    refine ⟨_, (pss_cons (ps_expr (pe_own C_check_turning hr (by first | decide | omega) (pa_cons (pv 0) pa_nil)))
      (pss_one (ps_ret (pe_own C_rounds hr (by first | decide | omega) (pa_cons (pv 0) pa_nil))))), ?_⟩
    walk_at "st"
    intro H1 s1
    have ht1 := Tp.mono (Same.tk s1) _ _ ht
    walk_at "st"
    intro v H2 Rs ok hRn hv s2
    exact q v H2 Rs ok hRn hv (Same.trans s1 s2)
theorem ok_u_square_stand (T : Txt K mg) (D : DefAt K mg "_square_stand" s_u_square_stand ["colour", "turn"]) : Cal P w K mg base CX0 "_square_stand" 1 ["colour", "turn"] (spSqSt K) := by
  refine D.cal sc_u_square_stand (fun vs H Q E h => ?_) (fun f cdv A outer s H vs Q E hr h => ?_)
  · obtain ⟨c, t, rfl, _⟩ := h
    rfl
  · obtain ⟨c, t, rfl, q⟩ := h
    refine ⟨_, (pss_cons (ps_set (i := 2) sc_u_square_stand.nd rfl (Or.inl rfl) (pe_ifExp (pt_cmpR op_eq (pv 1) (pe_gint (by rfl) T.right) (nomark _)) pe_int pe_int))
      (pss_cons (ps_if (pt_cmpR op_eq (pv 0) pe_int (nomark _)) (pss_one (ps_ret (pe_tup (pa_cons (pe_tup pa_nil) (pa_cons (pe_tup (pa_cons pe_int (pa_cons pe_int (pa_cons (pv 2) (pa_cons pe_int pa_nil))))) pa_nil))))) pss_nil)
      (pss_one (ps_ret (pe_tup (pa_cons (pe_tup (pa_cons (pe_tup (pa_cons pe_int (pa_cons pe_int (pa_cons (pv 0) pa_nil)))) (pa_cons (pe_tup (pa_cons pe_int (pa_cons pe_int (pa_cons (pv 0) pa_nil)))) (pa_cons (pe_tup (pa_cons pe_int (pa_cons pe_int (pa_cons (pv 0) pa_nil)))) (pa_cons (pe_tup (pa_cons pe_int (pa_cons pe_int (pa_cons (pv 0) pa_nil)))) pa_nil))))) (pa_cons (pe_tup (pa_cons pe_int (pa_cons pe_int (pa_cons (pv 2) (pa_cons pe_int pa_nil))))) pa_nil))))))), ?_⟩
    have fin : ∀ hd : Int, (if t = 1 then (0 : Int) else 3) = hd → ∀ v H', Tp K H' v (stepD (sqF c) (0, 0, hd, 0)) → Same H H' → Q v H' := fun hd e v H' h1 h2 => by
      refine q v H' ?_ h2
      unfold sqW
      rw [e]
      exact h1
    walk_at "st"
    refine ite2 (fun e => ?_) (fun e => ?_)
    · have fin := fin 0 (if_pos (eq_tr e))
      walk_at "st"
      refine ite2 (fun e2 => ?_) (fun e2 => ?_)
      · have e2 := eq_tr e2
        walk_at "st"
        intro p1 n1
        have h1 := tp_new (K := K) n1 .nil
        walk_at "st"
        intro p2 n2
        have h2 := tp_new (K := K) n2 (.cons (.int 0) (.cons (.int 0) (.cons (.int 0) (.cons (.int 0) .nil))))
        walk_at "st"
        intro p3 n3
        have h3 := tp_new (K := K) n3 (.cons (Tp.mono (TK.new n2) _ _ h1) (.cons h2 .nil))
        refine fin _ _ ?_ (Same.trans (Same.new n1) (Same.trans (Same.new n2) (Same.new n3)))
        unfold sqF
        rw [if_pos e2]
        exact h3
      · have e2 := eq_fl e2
        walk_at "st"
        intro a1 na1
        have f1 := tp_new (K := K) na1 (.cons (.int 0) (.cons (.int 0) (.cons (.int c) .nil)))
        walk_at "st"
        intro a2 na2
        have f2 := tp_new (K := K) na2 (.cons (.int 0) (.cons (.int 1) (.cons (.int c) .nil)))
        walk_at "st"
        intro a3 na3
        have f3 := tp_new (K := K) na3 (.cons (.int 1) (.cons (.int 0) (.cons (.int c) .nil)))
        walk_at "st"
        intro a4 na4
        have f4 := tp_new (K := K) na4 (.cons (.int 1) (.cons (.int 1) (.cons (.int c) .nil)))
        have g3 := Tp.mono (TK.new (o := .tup [.int 1, .int 1, .int c]) na4) _ _ f3
        have g2 := Tp.mono (TK.new (o := .tup [.int 1, .int 1, .int c]) na4) _ _ (Tp.mono (TK.new (o := .tup [.int 1, .int 0, .int c]) na3) _ _ f2)
        have g1 := Tp.mono (TK.new (o := .tup [.int 1, .int 1, .int c]) na4) _ _ (Tp.mono (TK.new (o := .tup [.int 1, .int 0, .int c]) na3) _ _ (Tp.mono (TK.new (o := .tup [.int 0, .int 1, .int c]) na2) _ _ f1))
        have s14 := Same.trans (Same.new (o := .tup [.int 0, .int 0, .int c]) na1) (Same.trans (Same.new (o := .tup [.int 0, .int 1, .int c]) na2) (Same.trans (Same.new (o := .tup [.int 1, .int 0, .int c]) na3) (Same.new (o := .tup [.int 1, .int 1, .int c]) na4)))
        walk_at "st"
        intro p1 n1
        have h1 := tp_new (K := K) n1 (.cons g1 (.cons g2 (.cons g3 (.cons f4 .nil))))
        walk_at "st"
        intro p2 n2
        have h2 := tp_new (K := K) n2 (.cons (.int 0) (.cons (.int 0) (.cons (.int 0) (.cons (.int 0) .nil))))
        walk_at "st"
        intro p3 n3
        have h3 := tp_new (K := K) n3 (.cons (Tp.mono (TK.new n2) _ _ h1) (.cons h2 .nil))
        refine fin _ _ ?_ (Same.trans s14 (Same.trans (Same.new n1) (Same.trans (Same.new n2) (Same.new n3))))
        unfold sqF
        rw [if_neg e2]
        exact h3
    · have fin := fin 3 (if_neg (eq_fl e))
      walk_at "st"
      refine ite2 (fun e2 => ?_) (fun e2 => ?_)
      · have e2 := eq_tr e2
        walk_at "st"
        intro p1 n1
        have h1 := tp_new (K := K) n1 .nil
        walk_at "st"
        intro p2 n2
        have h2 := tp_new (K := K) n2 (.cons (.int 0) (.cons (.int 0) (.cons (.int 3) (.cons (.int 0) .nil))))
        walk_at "st"
        intro p3 n3
        have h3 := tp_new (K := K) n3 (.cons (Tp.mono (TK.new n2) _ _ h1) (.cons h2 .nil))
        refine fin _ _ ?_ (Same.trans (Same.new n1) (Same.trans (Same.new n2) (Same.new n3)))
        unfold sqF
        rw [if_pos e2]
        exact h3
      · have e2 := eq_fl e2
        walk_at "st"
        intro a1 na1
        have f1 := tp_new (K := K) na1 (.cons (.int 0) (.cons (.int 0) (.cons (.int c) .nil)))
        walk_at "st"
        intro a2 na2
        have f2 := tp_new (K := K) na2 (.cons (.int 0) (.cons (.int 1) (.cons (.int c) .nil)))
        walk_at "st"
        intro a3 na3
        have f3 := tp_new (K := K) na3 (.cons (.int 1) (.cons (.int 0) (.cons (.int c) .nil)))
        walk_at "st"
        intro a4 na4
        have f4 := tp_new (K := K) na4 (.cons (.int 1) (.cons (.int 1) (.cons (.int c) .nil)))
        have g3 := Tp.mono (TK.new (o := .tup [.int 1, .int 1, .int c]) na4) _ _ f3
        have g2 := Tp.mono (TK.new (o := .tup [.int 1, .int 1, .int c]) na4) _ _ (Tp.mono (TK.new (o := .tup [.int 1, .int 0, .int c]) na3) _ _ f2)
        have g1 := Tp.mono (TK.new (o := .tup [.int 1, .int 1, .int c]) na4) _ _ (Tp.mono (TK.new (o := .tup [.int 1, .int 0, .int c]) na3) _ _ (Tp.mono (TK.new (o := .tup [.int 0, .int 1, .int c]) na2) _ _ f1))
        have s14 := Same.trans (Same.new (o := .tup [.int 0, .int 0, .int c]) na1) (Same.trans (Same.new (o := .tup [.int 0, .int 1, .int c]) na2) (Same.trans (Same.new (o := .tup [.int 1, .int 0, .int c]) na3) (Same.new (o := .tup [.int 1, .int 1, .int c]) na4)))
        walk_at "st"
        intro p1 n1
        have h1 := tp_new (K := K) n1 (.cons g1 (.cons g2 (.cons g3 (.cons f4 .nil))))
        walk_at "st"
        intro p2 n2
        have h2 := tp_new (K := K) n2 (.cons (.int 0) (.cons (.int 0) (.cons (.int 3) (.cons (.int 0) .nil))))
        walk_at "st"
        intro p3 n3
        have h3 := tp_new (K := K) n3 (.cons (Tp.mono (TK.new n2) _ _ h1) (.cons h2 .nil))
        refine fin _ _ ?_ (Same.trans s14 (Same.trans (Same.new n1) (Same.trans (Same.new n2) (Same.new n3))))
        unfold sqF
        rw [if_neg e2]
        exact h3
theorem ok_bound_stand (T : Txt K mg) (D : DefAt K mg "bound_stand" s_bound_stand ["table"]) (C_check_turning : Cal P w K mg base CX0 "_check_turning" 5 ["table"] (spCheckTu K)) (C_rounds : Cal P w K mg base CX0 "_rounds" 1 ["table"] (spRounds K)) (C_turns_both_ways : Cal P w K mg base CX0 "_turns_both_ways" 1 ["table", "colours"] (spBoth K)) (C_square_stand : Cal P w K mg base CX0 "_square_stand" 1 ["colour", "turn"] (spSqSt K)) : Cal P w K mg base CX0 "bound_stand" 6 ["table"] (spBound K) := by
  refine D.cal sc_bound_stand (fun vs H Q E h => ?_) (fun f cdv A outer s H vs Q E hr h => ?_)
  · obtain ⟨tv, L, rfl, _⟩ := h
    rfl
  · obtain ⟨tv, L, rfl, ht, hL, q⟩ := h
    refine ⟨_, (pss_cons (ps_expr (pe_own C_check_turning hr (by first | decide | omega) (pa_cons (pv 0) pa_nil)))
      (pss_cons (ps_for PassesOwn.never rfl (k_pi_tup (K := K) (pe_own C_rounds hr (by first | decide | omega) (pa_cons (pv 0) pa_nil))) (pg_name (i := 1) sc_bound_stand.nd rfl (Or.inl rfl))
      (pss_one (ps_if (pt_not (pt_val (pe_own C_turns_both_ways hr (by first | decide | omega) (pa_cons (pv 0) (pa_cons (pv 1) pa_nil))))) (pss_one (ps_ret (pe_own C_square_stand hr (by first | decide | omega) (pa_cons (pe_ix (k_ix_tup (K := K)) (pv 1) pe_int (fun _ _ => rfl)) (pa_cons (pe_ix (k_ix_tup (K := K)) (pe_ix (k_ix_tup (K := K)) (pe_ix (k_ix_tup (K := K)) (pv 0) pe_int (fun _ _ => rfl)) (pe_ix (k_ix_tup (K := K)) (pv 1) pe_int (fun _ _ => rfl)) (fun _ _ => rfl)) pe_int (fun _ _ => rfl)) pa_nil))))) pss_nil)))
      (pss_one (ps_ret pe_non)))), ?_⟩
    walk_at "st"
    intro H1 s1
    have ht1 := Tp.mono (Same.tk s1) _ _ ht
    walk_at "st"
    intro v H2 Rs ok hRn hv s2
    have ht2 := Tp.mono (Same.tk s2) _ _ ht1
    obtain ⟨e, us, rfl, he, hus⟩ := hv.tupI
    have lus : us.length = Rs.length := by rw [TpAll.length hus, List.length_map]
    have l6 := ok.len
    walk_at "st"
    refine for_it (walk_tup (K := K) (a := e) (xs := us)) (fun i σ H3 => Ok (∃ y : Option V, σ = [some tv, y] ∧ Same H2 H3 ∧ ∀ R ∈ Rs.take i, bothB L R = true)) ⟨_, rfl, Same.refl _, fun R hR => absurd hR (by simp)⟩ (fun i σ H3 _ ⟨_, _, s3, _⟩ => TK.seqT (Same.tk s3) he) ?_ ?_
    · rintro i y σ H3 H4 hi ⟨y1, rfl, s3, all⟩ ⟨rfl, hx⟩
      have hj : i < Rs.length := by omega
      have htk := take_more (List.getElem?_eq_getElem hj)
      obtain ⟨u, eu, hu⟩ := hus.get (i := i) (d := rnD Rs[i]) (by rw [List.getElem?_map, List.getElem?_eq_getElem hj]; rfl)
      rw [hx] at eu
      cases eu
      have mR := List.getElem_mem hj
      have rl := ok.lt _ mR
      obtain ⟨st, hst, cyc⟩ := hRn.cyc _ mR
      have spl : Rs = Rs.take i ++ Rs[i] :: Rs.drop (i + 1) := by rw [List.getElem_cons_drop, List.take_append_drop]
      generalize hR : Rs[i] = R at *
      have hu3 := Tp.mono (Same.tk s3) _ _ hu
      have ht3 := Tp.mono (Same.tk s3) _ _ ht2
      have lt3 := rl.2
      have l3 : R.length ≤ 100 := by omega
      walk_at "st"
      intro H5 s5
      refine ⟨_, rfl, ite2 (fun e1 => ?_) (fun e1 => ?_)⟩
      · have e1 : (!bothB L R) = true := e1
        have R0 := cyc.pos
        obtain ⟨b2, us2, rfl, hb2, hus2⟩ := (show Tp K H4 y (.tuple (R.map fun k : Nat => PyData.int (k : Int))) from hu3).tupI
        have eus := ints_tp hus2
        subst eus
        have h0 : R.headD 0 = R[0] := by
          cases R with
          | nil => exact absurd R0 (Nat.lt_irrefl 0)
          | cons x r => rfl
        have hat : atI (R.map fun k : Nat => V.int (k : Int)) (0 : Int) = some (.int ((R[0] : Nat) : Int)) := atI_nat (j := 0) (by rw [List.getElem?_map, List.getElem?_eq_getElem R0]; rfl)
        have iL := lt3 _ (List.getElem_mem R0)
        obtain ⟨a, b, ws, rfl, ha, hb, lw, hws⟩ := tab1 (Tp.mono (Same.tk s5) _ _ ht3)
        obtain ⟨ev, eev, hev⟩ := hws.get (i := R[0]) (d := entD (some (L[R[0]].1, L[R[0]].2, 0))) (by rw [List.getElem?_map, tRow_at iL]; rfl)
        obtain ⟨b3, rfl, hb3⟩ := (show Tp K H5 ev (.tuple [.int L[R[0]].1, .int L[R[0]].2, .int 0]) from hev).int3
        have hat2 : atI ws ((R[0] : Nat) : Int) = some (.ref b3) := atI_nat eev
        have hb25 := TK.seqT (Same.tk s5) hb2
        have eT : tuOf L R[0] = L[R[0]].2 := by
          unfold tuOf
          rw [List.getElem?_eq_getElem iL]
          rfl
        walk_at "st"
        intro v H6 hv6 s6
        refine q v H6 Rs ok hRn (fun z => ?_) (fun R' hR' => ?_) (Same.trans (Same.trans s1 s2) (Same.trans s3 (Same.trans s5 s6)))
        · have z := List.all_eq_true.mp z R mR
          rw [z] at e1
          cases e1
        · have fR : Rs.find? (fun R => !bothB L R) = some R := List.find?_eq_some_iff_append.mpr ⟨e1, Rs.take i, Rs.drop (i + 1), spl, fun a ha => by rw [all a ha]; rfl⟩
          rw [fR] at hR'
          obtain rfl := Option.some.inj hR'
          unfold standOf
          rw [h0, eT]
          exact hv6
      · have e1 : ¬ (!bothB L R) = true := e1
        have e2 : bothB L R = true := by
          cases e3 : bothB L R with
          | true => rfl
          | false =>
            rw [e3] at e1
            exact absurd rfl e1
        refine ⟨_, rfl, Same.trans s3 s5, fun R' hR' => ?_⟩
        rw [htk] at hR'
        rcases List.mem_append.mp hR' with z | z
        · exact all R' z
        · rw [List.mem_singleton.mp z]
          exact e2
    · rintro σ H3 ⟨y1, rfl, s3, all⟩
      walk_at "st"
      have all : ∀ R ∈ Rs, bothB L R = true := by
        rw [lus, List.take_length] at all
        exact all
      refine q .non H3 Rs ok hRn (fun _ => rfl) (fun R hR => ?_) (Same.trans (Same.trans s1 s2) s3)
      have z := List.find?_some hR
      rw [all R (List.mem_of_find?_eq_some hR)] at z
      cases z
end

/-! ### as many stands as there are -/
def wordsN (n : Nat) : Nat → List (List Nat)
  | 0 => [[]]
  | b + 1 => (wordsN n b).flatMap fun w => (List.range n).map fun c => c :: w
theorem wordsN_len (n : Nat) : ∀ b, (wordsN n b).length = n ^ b
  | 0 => rfl
  | b + 1 => by
    unfold wordsN
    rw [List.length_flatMap]
    simp only [List.length_map, List.length_range]
    rw [List.map_const', List.sum_replicate_nat, wordsN_len n b, Nat.pow_succ]
theorem wordsN_mem {n : Nat} : ∀ {b : Nat} {w : List Nat}, w.length = b → (∀ c ∈ w, c < n) → w ∈ wordsN n b
  | 0, [], _, _ => List.mem_singleton.mpr rfl
  | 0, _ :: _, h, _ => nomatch h
  | b + 1, [], h, _ => nomatch h
  | b + 1, c :: w, h, q => by
    unfold wordsN
    refine List.mem_flatMap.mpr ⟨w, wordsN_mem (by simpa using h) fun x hx => q x (List.mem_cons_of_mem _ hx), ?_⟩
    exact List.mem_map.mpr ⟨c, List.mem_range.mpr (q c List.mem_cons_self), rfl⟩
abbrev StN := List Nat × Nat × Nat × Nat
def standsN (n b w h : Nat) : List StN := (wordsN n b).flatMap fun c => (List.range 4).flatMap fun d => (List.range w).flatMap fun x => (List.range h).map fun y => (c, d, x, y)
theorem standsN_len (n b w h : Nat) : (standsN n b w h).length = n ^ b * (4 * (w * h)) := by
  unfold standsN
  simp only [List.length_flatMap, List.length_map, List.length_range, List.map_const', List.sum_replicate_nat, wordsN_len]
theorem standsN_mem {n b w h : Nat} {c : List Nat} {d x y : Nat} (lc : c.length = b) (hc : ∀ k ∈ c, k < n) (hd : d < 4) (hx : x < w) (hy : y < h) : (c, d, x, y) ∈ standsN n b w h :=
  List.mem_flatMap.mpr ⟨c, wordsN_mem lc hc, List.mem_flatMap.mpr ⟨d, List.mem_range.mpr hd, List.mem_flatMap.mpr ⟨x, List.mem_range.mpr hx, List.mem_map.mpr ⟨y, List.mem_range.mpr hy, rfl⟩⟩⟩⟩
/-- more pigeons than holes -/
theorem pigeon {α : Type} [DecidableEq α] {N : Nat} {A : List α} (f : Nat → α) (h : ∀ k, k < N → f k ∈ A) (l : A.length < N) : ∃ i j, i < j ∧ j < N ∧ f i = f j := by
  refine Classical.byContradiction fun no => ?_
  have nd : ((List.range N).map f).Nodup := by
    refine List.pairwise_map.mpr ?_
    have : (List.range N).Pairwise (· < ·) := List.pairwise_lt_range
    refine List.Pairwise.imp_of_mem ?_ this
    intro i j hi hj lt e
    exact no ⟨i, j, lt, List.mem_range.mp hj, e⟩
  have sub : ∀ x ∈ (List.range N).map f, x ∈ A := fun x hx => by
    obtain ⟨k, hk, rfl⟩ := List.mem_map.mp hx
    exact h k (List.mem_range.mp hk)
  have := nodup_sub nd sub
  rw [List.length_map, List.length_range] at this
  omega
def inBox (w h : Int) (p : Pt) : Prop := (0 ≤ p.1 ∧ p.1 < w) ∧ (0 ≤ p.2 ∧ p.2 < h)
/-- a stand in a box, as numbers -/
def codeN (ps : List Pt) (z : WSt) : StN := (ps.map fun p => (z.1 p).toNat, z.2.2.2.1.toNat, z.2.1.toNat, z.2.2.1.toNat)
theorem TurnL.leaves {L : List Pt} (hL : TurnL L) (b : BothL L) {B : Int} {z : WSt} (g : Fit L.length 1 B z) {w h : Nat} {ps : List Pt} (hps : ∀ p, p ∈ ps ↔ inBox w h p) (lps : ps.length = w * h) {N : Nat} (hN : L.length ^ (w * h) * (4 * (w * h)) < N)
    (all : ∀ k, k < N → inBox w h (wPt (itT [tRow L] z k).2)) : False := by
  have fitK : ∀ k, ∃ B', Fit L.length 1 B' (itT [tRow L] z k) := hL.turning.fit hL.tab g
  have frame : ∀ k, k ≤ N → ∀ p, p ∉ ps → (itT [tRow L] z k).1 p = z.1 p := by
    intro k
    induction k with
    | zero => exact fun _ _ _ => rfl
    | succ k ih =>
      intro lk p hp
      obtain ⟨B', g'⟩ := fitK k
      show (oneT [tRow L] (itT [tRow L] z k)).1 p = _
      rw [hL.turning.one g']
      show dab _ _ _ p = _
      unfold dab
      have : p ≠ wPt (itT [tRow L] z k).2 := fun e => hp ((hps p).mpr (by rw [e]; exact all k (by omega)))
      rw [if_neg this]
      exact ih (by omega) p hp
  obtain ⟨i, j, lt, lj, e⟩ := pigeon (N := N) (A := standsN L.length (w * h) w h) (fun k => codeN ps (itT [tRow L] z k)) (fun k lk => by
    obtain ⟨B', g'⟩ := fitK k
    have bx := all k lk
    have hd := g'.hd
    have b1 := bx.1
    have b2 := bx.2
    refine standsN_mem (by rw [List.length_map, lps]) (fun c hc => ?_) (by omega) ?_ ?_
    · obtain ⟨p, _, rfl⟩ := List.mem_map.mp hc
      have := g'.cols p
      omega
    · have : (itT [tRow L] z k).2.1 < (w : Int) := b1.2
      have : 0 ≤ (itT [tRow L] z k).2.1 := b1.1
      omega
    · have : (itT [tRow L] z k).2.2.1 < (h : Int) := b2.2
      have : 0 ≤ (itT [tRow L] z k).2.2.1 := b2.1
      omega) (by rw [standsN_len]; exact hN)
  obtain ⟨Bi, gi⟩ := fitK i
  obtain ⟨Bj, gj⟩ := fitK j
  have bi := all i (by omega)
  have bj := all j lj
  unfold codeN at e
  obtain ⟨e1, e2⟩ := Prod.mk.inj e
  obtain ⟨e2, e3⟩ := Prod.mk.inj e2
  obtain ⟨e3, e4⟩ := Prod.mk.inj e3
  have hz : itT [tRow L] z i = itT [tRow L] z j := by
    refine Prod.ext ?_ ?_
    · funext p
      by_cases hp : p ∈ ps
      · obtain ⟨n, ln, en⟩ := List.getElem_of_mem hp
        have q := congrArg (fun l => l[n]?) e1
        simp only [List.getElem?_map, List.getElem?_eq_getElem ln, Option.map_some, en] at q
        have q := Option.some.inj q
        have c1 := gi.cols p
        have c2 := gj.cols p
        omega
      · rw [frame i (by omega) p hp, frame j (by omega) p hp]
    · have hi := gi.hd
      have hj := gj.hd
      have si := gi.st
      have sj := gj.st
      have i1 : 0 ≤ (itT [tRow L] z i).2.1 := bi.1.1
      have j1 : 0 ≤ (itT [tRow L] z j).2.1 := bj.1.1
      have i2 : 0 ≤ (itT [tRow L] z i).2.2.1 := bi.2.1
      have j2 : 0 ≤ (itT [tRow L] z j).2.2.1 := bj.2.1
      refine Prod.ext (by omega) (Prod.ext (by omega) (Prod.ext (by omega) (by omega)))
  obtain ⟨p, hp⟩ : ∃ p, j = i + p ∧ 0 < p := ⟨j - i, by omega, by omega⟩
  refine hL.no_twice b gi hp.2 ?_
  rw [← it_add, ← hp.1]
  exact hz.symm

/-! ### powers -/
def spPower : Sp := fun vs H Q _ => ∃ a b : Int, vs = [.int a, .int b] ∧ 0 ≤ a ∧ a < 2 ^ 40 ∧ -1000 ≤ b ∧ b ≤ 1000 ∧ Q (.int (a ^ b.toNat)) H
section
variable {P : Program} {w : World} {K : PySem.W.Frag} {mg : Str → Option Value} {base : Heap}
local macro_rules | `(tactic| walk_at "cl") => `(tactic| first | (refine le_only ?_; omega) | (refine lt_only ?_; omega))
theorem ok_law_power (T : Txt K mg) (D : DefAt K mg "_law_power" s_law_power ["number", "many"]) : Cal P w K mg base CX0 "_law_power" 1 ["number", "many"] spPower := by
  refine D.cal sc_law_power (fun vs H Q E h => ?_) (fun f cdv A outer s H vs Q E hr h => ?_)
  · obtain ⟨a, b, rfl, _⟩ := h
    rfl
  · obtain ⟨a, b, rfl, a0, a1, b0, b1, q⟩ := h
    refine ⟨_, (pss_cons (ps_set (i := 2) sc_law_power.nd rfl (Or.inl rfl) pe_int)
      (pss_cons (ps_for PassesOwn.never rfl (pi_range1 (by rfl) T.m_range (pa_cons (pv 1) pa_nil)) (pg_name (i := 3) sc_law_power.nd rfl (Or.inl rfl))
      (pss_one (ps_set (i := 2) sc_law_power.nd rfl (Or.inl rfl) (pe_op op_mul (pv 2) (pv 0)))))
      (pss_one (ps_ret (pv 2))))), ?_⟩
    have m4 : ∀ i, CMul i a := fun i => .inr ⟨by omega, by omega⟩
    walk_at "st"
    refine for_range (lo := 0) (n := b.toNat) (fun i σ H' => Ok (∃ y : Option V, σ = [some (.int a), some (.int b), some (.int (a ^ i)), y] ∧ H' = H)) ⟨_, by rw [Int.pow_zero]; rfl, rfl⟩ ?_ ?_
    · rintro i σ H' hi ⟨y, rfl, rfl⟩
      walk_at "st"
      rw [show a ^ (i + 1) = a ^ i * a from Int.pow_succ _ _]
      exact ⟨_, rfl, rfl⟩
    · rintro σ H' ⟨y, rfl, rfl⟩
      walk_at "st"
      exact q
end

/-! ### the law's floors and walkers -/
def spSigned (K : PySem.W.Frag) : Sp := fun vs H Q _ => ∃ (r : Addr) (most : Int), vs = [.ref r, .int most] ∧ Row K H r ∧ 0 ≤ most ∧ most < 2 ^ 200 ∧ ∀ (v : Int) (H' : Hp), -most ≤ v → v ≤ most → Row K H' r → KeepB r H H' → Q (.int v) H'
def spLWalker (K : PySem.W.Frag) : Sp := fun vs H Q _ => ∃ (r : Addr) (tv : V) (T : List (List Ent)), vs = [.ref r, tv] ∧ Row K H r ∧ Tp K H tv (tabD T) ∧ 1 ≤ T.length ∧ T.length ≤ 10 ∧ ∀ (v : V) (H' : Hp) (w : Wk), InB 3 (wPt w) → (0 ≤ w.2.2.1 ∧ w.2.2.1 < 4) → (0 ≤ w.2.2.2 ∧ w.2.2.2 < T.length) → Tp K H' v (wkD w) → Row K H' r → KeepB r H H' → Q v H'
def spLAhead (K : PySem.W.Frag) : Sp := fun vs H Q _ => ∃ (b : Addr) (x y h : Int), vs = [.ref b, .int h] ∧ SqT K H b [.int x, .int y] ∧ 0 ≤ h ∧ h < 4 ∧ ∀ p H', H' p = some (.tup [.int (x + dxI h), .int (y + dyI h)]) → Same H H' → Q (.ref p) H'
theorem dx_at {h : Int} (h0 : 0 ≤ h) (h1 : h < 4) : atI ([.int 0, .int 1, .int 0, .int (-1)] : List V) h = some (.int (dxI h)) ∧ atI ([.int (-1), .int 0, .int 1, .int 0] : List V) h = some (.int (dyI h)) := by
  obtain ⟨n, rfl⟩ := Int.eq_ofNat_of_zero_le h0
  have c : n = 0 ∨ n = 1 ∨ n = 2 ∨ n = 3 := by omega
  rcases c with rfl | rfl | rfl | rfl
  · exact ⟨at0, at0⟩
  · exact ⟨at1, at1⟩
  · exact ⟨at2, at2⟩
  · exact ⟨at3, at3⟩
section
variable {P : Program} {w : World} {K : PySem.W.Frag} {mg : Str → Option Value} {base : Heap}
theorem ok_law_ahead (T : Txt K mg) (D : DefAt K mg "_law_ahead" s_law_ahead ["place", "heading"]) : Cal P w K mg base CX0 "_law_ahead" 1 ["place", "heading"] (spLAhead K) := by
  refine D.cal sc_law_ahead (fun vs H Q E h => ?_) (fun f cdv A outer s H vs Q E hr h => ?_)
  · obtain ⟨b, x, y, hd, rfl, _⟩ := h
    rfl
  · obtain ⟨b, x, y, hd, rfl, hs, h0, h4, q⟩ := h
    refine ⟨_, (pss_one (ps_ret (pe_tup (pa_cons (pe_op op_add (pe_ix (k_ix_tup (K := K)) (pv 0) pe_int (fun _ _ => rfl)) (pe_ix (k_ix_list (K := K)) (pe_lst (pa_cons pe_int (pa_cons pe_int (pa_cons pe_int (pa_cons (pe_un un_neg pe_int) pa_nil))))) (pv 1) (fun _ _ => rfl))) (pa_cons (pe_op op_add (pe_ix (k_ix_tup (K := K)) (pv 0) pe_int (fun _ _ => rfl)) (pe_ix (k_ix_list (K := K)) (pe_lst (pa_cons (pe_un un_neg pe_int) (pa_cons pe_int (pa_cons pe_int (pa_cons pe_int pa_nil))))) (pv 1) (fun _ _ => rfl))) pa_nil))))), ?_⟩
    obtain ⟨ax, ay⟩ := dx_at h0 h4
    walk_at "st"
    intro p np
    have hs1 := TK.seqT (TK.new (o := .lst [.int 0, .int 1, .int 0, .int (-1)]) np) hs
    walk_at "st"
    intro p2 np2
    walk_at "st"
    intro p3 np3
    exact q p3 _ upd_same (Same.trans (Same.trans (Same.new np) (Same.new np2)) (Same.new np3))
end

theorem TK.dT {H : Hp} {p : Addr} {kvs : List (List Key × V)} {o : HO} (h : H p = some (.dT kvs)) : TK H (upd H p o) := KeepE.tk (E := [p]) (KeepE.put List.mem_cons_self) fun b hb => by
  rw [List.mem_singleton.mp hb]
  exact Soft.dT h

/-! ### the law's own floors -/
theorem sorted_keys {m : CM} {bs : List (Addr × List Int)} (nd : (m.map (·.1)).Nodup) (pm : (bs.map (·.2)).Perm (m.map fun e => [e.1.1, e.1.2])) (pw : bs.Pairwise fun x y => ltZ y.2 x.2 = false) :
    ∃ ps : List Pt, bs.map (·.2) = ps.map (fun p => [p.1, p.2]) ∧ ps.Pairwise ltP ∧ (∀ p, p ∈ ps ↔ p ∈ m.map (·.1)) ∧ ps.length = m.length := by
  have pm2 : (bs.map (·.2)).Perm ((m.map (·.1)).map fun p : Pt => [p.1, p.2]) := by
    rw [List.map_map]
    exact pm
  obtain ⟨ps, pp, ep⟩ := perm_lift (fun p : Pt => [p.1, p.2]) pm2 _ rfl
  have pwp : ps.Pairwise fun a b => ltZ [b.1, b.2] [a.1, a.2] = false := by
    have z : (bs.map (·.2)).Pairwise fun x y => ltZ y x = false := List.pairwise_map.mpr pw
    rw [← ep] at z
    exact List.pairwise_map.mp z
  have ndp : ps.Pairwise fun a b => a ≠ b := pp.nodup_iff.mpr nd
  refine ⟨ps, ep.symm, List.Pairwise.imp₂ (fun a b h1 h2 => ?_) pwp ndp, fun p => pp.mem_iff, by rw [pp.length_eq, List.length_map]⟩
  have h3 : ¬ (b.1 < a.1 ∨ (¬ a.1 < b.1 ∧ b.2 < a.2)) := fun z => by
    have e : ltZ [b.1, b.2] [a.1, a.2] = true := by
      show (decide (b.1 < a.1) || (!decide (a.1 < b.1) && (decide (b.2 < a.2) || (!decide (a.2 < b.2) && ltZ [] [])))) = true
      rcases z with z | ⟨z1, z2⟩
      · rw [decide_eq_true z]
        rfl
      · rw [decide_eq_false z1, decide_eq_true z2, Bool.or_eq_true]
        exact .inr rfl
    rw [e] at h1
    cases h1
  have h4 : ¬ (a.1 = b.1 ∧ a.2 = b.2) := fun z => h2 (Prod.ext z.1 z.2)
  show a.1 < b.1 ∨ (a.1 = b.1 ∧ a.2 < b.2)
  omega
def sqAt (m : CM) (p : Pt) : Sq := (p.1, p.2, col m p)
def fltF (m : CM) (ps : List Pt) : List Sq := (ps.filter fun p => decide (0 < col m p)).map (sqAt m)
theorem flt_floor {m : CM} {ps : List Pt} (asc : ps.Pairwise ltP) (mem : ∀ p, p ∈ ps ↔ p ∈ m.map (·.1)) (nn : ∀ p, 0 ≤ col m p) : FloorOf (col m) (fltF m ps) := by
  refine ⟨List.pairwise_map.mpr (asc.sublist (List.filter_sublist)), fun s => ?_⟩
  unfold fltF
  rw [List.mem_map]
  constructor
  · rintro ⟨p, hp, rfl⟩
    have h1 := of_decide_eq_true (List.mem_filter.mp hp).2
    refine ⟨rfl, ?_⟩
    show col m p ≠ 0
    omega
  · rintro ⟨h1, h2⟩
    refine ⟨s.pt, List.mem_filter.mpr ⟨(mem _).mpr ?_, decide_eq_true ?_⟩, ?_⟩
    · refine Classical.byContradiction fun z => ?_
      have e := look_none.mpr z
      unfold col at h1
      rw [e] at h1
      exact h2 h1
    · have := nn s.pt
      rw [h1] at h2
      omega
    · obtain ⟨x, y, k⟩ := s
      show (x, y, col m (x, y)) = (x, y, k)
      rw [show k = col m (x, y) from h1]
theorem flt_snoc (m : CM) (l : List Pt) (p : Pt) : fltF m (l ++ [p]) = fltF m l ++ (if 0 < col m p then [sqAt m p] else []) := by
  unfold fltF
  rw [List.filter_append, List.map_append]
  by_cases h : 0 < col m p
  · rw [if_pos h, show ([p].filter fun p => decide (0 < col m p)) = [p] from List.filter_cons_of_pos (decide_eq_true h)]
    rfl
  · rw [if_neg h, show ([p].filter fun p => decide (0 < col m p)) = [] from List.filter_cons_of_neg (fun z => h (of_decide_eq_true z))]
    rfl
theorem catA_of {K : PySem.W.Frag} {H : Hp} {a b : Addr} {xs ys : List V} {Q : VK} (ha : SqT K H a xs) (hb : SqT K H b ys) (h1 : xs ≠ []) (h2 : ys ≠ []) (hz : xs.length + ys.length ≤ sizeLine) (q : ∀ p, H p = none → Q (.ref p) (upd H p (.tup (xs ++ ys)))) : rCatA K (.ref a) (.ref b) H Q :=
  ⟨a, b, xs, ys, rfl, rfl, ha, hb, hz, fun z => absurd z h1, fun _ z => absurd z h2, fun _ _ => q⟩
theorem put_mem2 : ∀ {m : CM} {p : Pt} {c : Int} {e : Pt × Int}, e ∈ putM m p c → e ∈ m ∨ e = (p, c)
  | [], p, c, e, h => .inr (List.mem_singleton.mp h)
  | a :: r, p, c, e, h => by
    unfold putM at h
    by_cases q : a.1 = p
    · rw [if_pos q] at h
      rcases List.mem_cons.mp h with z | z
      · exact .inr (by rw [z, q])
      · exact .inl (List.mem_cons_of_mem _ z)
    · rw [if_neg q] at h
      rcases List.mem_cons.mp h with z | z
      · exact .inl (z ▸ List.mem_cons_self)
      · exact (put_mem2 z).imp (List.mem_cons_of_mem _) id
def spLFloor (K : PySem.W.Frag) : Sp := fun vs H Q _ => ∃ (c : Addr) (m : CM), vs = [.ref c] ∧ H c = some (.dT (cellK m)) ∧ (m.map (·.1)).Nodup ∧ (∀ p, 0 ≤ col m p) ∧ m.length ≤ 900 ∧ ∀ v H' F, FloorOf (col m) F → Tp K H' v (floorD F) → Same H H' → Q v H'
def spSomeFloor (K : PySem.W.Frag) : Sp := fun vs H Q _ => ∃ (r : Addr) (c : Nat) (mo : Int), vs = [.ref r, .int c, .int mo] ∧ Row K H r ∧ 2 ≤ c ∧ c ≤ 6 ∧ 0 ≤ mo ∧ mo ≤ 9 ∧ ∀ v H' F, FlOk c 3 F → F.length ≤ mo.toNat → Tp K H' v (floorD F) → Row K H' r → KeepB r H H' → Q v H'
theorem cell_keys (m : CM) : (cellK m).map (·.1) = (m.map fun e => [e.1.1, e.1.2]).map fun k : List Int => k.map Sum.inl := by
  unfold cellK
  rw [List.map_map, List.map_map]
  rfl
theorem look_some {m : CM} {p : Pt} (h : p ∈ m.map (·.1)) : look m p = some (col m p) := by
  unfold col
  cases e : look m p with
  | none => exact absurd h (look_none.mp e)
  | some x => rfl

theorem put_col (m : CM) (p : Pt) (c : Int) : col (putM m p c) = dab (col m) p c := by
  funext q
  unfold col dab
  rw [look_put]
  split <;> rfl

/-! ### the law's own walk -/
def spLStep (K : PySem.W.Frag) : Sp := fun vs H Q _ => ∃ (tv wv : V) (D : Addr) (T : List (List Ent)) (m : CM) (w : Wk) (c n : Nat) (B : Int), vs = [tv, .ref D, wv] ∧ Tp K H tv (tabD T) ∧ Tp K H wv (wkD w) ∧ H D = some (.dT (cellK m)) ∧ (m.map (·.1)).Nodup ∧ m.length ≤ 900 ∧ TabOk c n T ∧ Fit c n B (col m, w) ∧
  (stepW T (col m, w) = none → ∀ H', Same H H' → Q .non H') ∧ (∀ z, stepW T (col m, w) = some z → ∀ v H' m', col m' = z.1 → (m'.map (·.1)).Nodup → m'.length ≤ m.length + 1 → (wPt w ∈ m.map (·.1) → m'.map (·.1) = m.map (·.1)) → H' D = some (.dT (cellK m')) → Tp K H' v (wkD z.2) → KeepE [D] H H' → Q v H')
theorem put_keys : ∀ {m : CM} {p : Pt} {c : Int}, p ∈ m.map (·.1) → (putM m p c).map (·.1) = m.map (·.1)
  | [], _, _, h => absurd h List.not_mem_nil
  | e :: r, p, c, h => by
    unfold putM
    by_cases z : e.1 = p
    · rw [if_pos z]
      rfl
    · rw [if_neg z, List.map_cons, List.map_cons, put_keys ((List.mem_cons.mp h).resolve_left fun q => z q.symm)]
section
variable {P : Program} {w : World} {K : PySem.W.Frag} {mg : Str → Option Value} {base : Heap}
theorem ok_law_step (T : Txt K mg) (D : DefAt K mg "_law_step" s_law_step ["table", "cells", "walker"]) (C_law_ahead : Cal P w K mg base CX0 "_law_ahead" 1 ["place", "heading"] (spLAhead K)) : Cal P w K mg base CX0 "_law_step" 2 ["table", "cells", "walker"] (spLStep K) := by
  refine D.cal sc_law_step (fun vs H Q E h => ?_) (fun f cdv A outer s H vs Q E hr h => ?_)
  · obtain ⟨tv, wv, D, T, m, wk, c, n, B, rfl, _⟩ := h
    rfl
  · obtain ⟨tv, wv, D, Tb, m, wk, c, n, B, rfl, ht, hw, hD, nd, lm, ok, fit, q0, q1⟩ := h
    refine ⟨_, (pss_cons (ps_set (i := 3) sc_law_step.nd rfl (Or.inl rfl) (pe_slice (k_sl_tup (K := K)) (pv 2) po_none (po_some pe_int)))
      (pss_cons (ps_set (i := 4) sc_law_step.nd rfl (Or.inl rfl) (pe_ix (k_ix_tup (K := K)) (pe_ix (k_ix_tup (K := K)) (pv 0) (pe_ix (k_ix_tup (K := K)) (pv 2) pe_int (fun _ _ => rfl)) (fun _ _ => rfl)) (pe_dget2 (hu_of hr) (pv 1) (pv 3) pe_int (by exact ⟨rfl, rfl, rfl, rfl⟩)) (fun _ _ => rfl)))
      (pss_cons (ps_if (pt_cmpR op_isN (pv 4) pe_non (nomark _)) (pss_one (ps_ret pe_non)) pss_nil)
      (pss_cons (ps_dput (hu_of hr) (pv 1) (pv 3) (pe_ix (k_ix_tup (K := K)) (pv 4) pe_int (fun _ _ => rfl)) (by rfl))
      (pss_cons (ps_set (i := 5) sc_law_step.nd rfl (Or.inl rfl) (pe_op op_mod (pe_callTy call_int_i (by rfl) T.m_int (by decide +kernel) (pa_cons (pe_op op_add (pe_ix (k_ix_tup (K := K)) (pv 2) pe_int (fun _ _ => rfl)) (pe_ix (k_ix_tup (K := K)) (pv 4) pe_int (fun _ _ => rfl))) pa_nil)) pe_int))
      (pss_one (ps_ret (pe_op (k_catA (K := K)) (pe_own C_law_ahead hr (by first | decide | omega) (pa_cons (pv 3) (pa_cons (pv 5) pa_nil))) (pe_tup (pa_cons (pv 5) (pa_cons (pe_ix (k_ix_tup (K := K)) (pv 4) pe_int (fun _ _ => rfl)) pa_nil))))))))))), ?_⟩
    obtain ⟨wa, rfl, hsw⟩ := hw.int4
    have cg := col_get m (wPt wk)
    have cb := fit.cols (wPt wk)
    have stb := fit.st
    have dD := isD_dT hD
    walk_at "st"
    intro p np
    have s1 : Same H (upd H p (.tup [.int wk.1, .int wk.2.1])) := Same.new np
    have hp1 : (upd H p (.tup [.int wk.1, .int wk.2.1])) p = some (.tup [.int wk.1, .int wk.2.1]) := upd_same
    have hg : DGet (upd H p (.tup [.int wk.1, .int wk.2.1])) D (.ref p) (valV (cellK m) (ptK (wPt wk))) := DGet.t (s1 _ _ hD) upd_same
    generalize hH1 : upd H p (.tup [.int wk.1, .int wk.2.1]) = H1 at s1 hp1 hg
    rw [show (upd H p (.tup (cutV [.int wk.1, .int wk.2.1, .int wk.2.2.1, .int wk.2.2.2] none (some 2)))) = H1 from hH1]
    have hD1 := s1 _ _ hD
    have hsw1 := TK.seqT (Same.tk s1) hsw
    have dD1 := isD_dT hD1
    obtain ⟨ta, tvs, rb, rws, ev, rfl, h1, h2, h3, h4, h5⟩ := tab_get ok stb cb (Tp.mono (Same.tk s1) _ _ ht)
    rw [cell_val] at hg
    walk_at "st"
    cases he : entAt Tb wk.2.2.2 (col m (wPt wk)) with
    | none =>
      have h5 : Tp K H1 ev (entD none) := he ▸ h5
      obtain rfl := h5.nonI
      walk_at "st"
      exact q0 (step_none he) _ s1
    | some e =>
      have h5 : Tp K H1 ev (entD (some e)) := he ▸ h5
      obtain ⟨u, rfl, hse⟩ := h5.int3
      have hsz : (cellK m).length < sizeLine := by
        rw [cell_len]
        exact small1000 (by omega)
      have hw2 : DPut H1 D (.ref p) (.int e.1) (upd H1 D (.dT (putK (cellK m) (ptK (wPt wk)) (.int e.1)))) := DPut.t hD1 hp1 hsz
      have t2 : TK H1 (upd H1 D (.dT (putK (cellK m) (ptK (wPt wk)) (.int e.1)))) := TK.dT hD1
      have hsw2 := t2.seqT hsw1
      have hse2 := t2.seqT hse
      have npD : p ≠ D := ne_of hp1 hD1 (by intro z; cases z)
      have hp2 : SqT K (upd H1 D (.dT (putK (cellK m) (ptK (wPt wk)) (.int e.1)))) p [.int wk.1, .int wk.2.1] := SqT.of (by rw [upd_ne npD]; exact hp1)
      have hD2 : (upd H1 D (.dT (putK (cellK m) (ptK (wPt wk)) (.int e.1)))) D = some (.dT (cellK (putM m (wPt wk) e.1))) := by rw [upd_same, cell_put _ _ nd]
      have k2 : KeepE [D] H (upd H1 D (.dT (putK (cellK m) (ptK (wPt wk)) (.int e.1)))) := (Same.keepE s1).trans (KeepE.put List.mem_cons_self)
      have g0 : 0 ≤ (wk.2.2.1 + e.2.1) % 4 := Int.emod_nonneg _ (by decide)
      have g1 : (wk.2.2.1 + e.2.1) % 4 < 4 := Int.emod_lt_of_pos _ (by decide)
      walk_at "st"
      intro pa H3 hpa s3
      have hD3 := s3 _ _ hD2
      have hse3 := TK.seqT (Same.tk s3) hse2
      walk_at "st"
      intro t nt
      have s4 : Same H3 (upd H3 t (.tup [.int ((wk.2.2.1 + e.2.1) % 4), .int e.2.2])) := Same.new nt
      refine catA_of (SqT.of (s4 _ _ hpa)) (SqT.of upd_same) (by intro z; cases z) (by intro z; cases z) (by show 4 ≤ sizeLine; decide) fun u2 nu2 => ?_
      have s5 := Same.trans s4 (Same.new (o := .tup ([.int (wk.1 + dxI ((wk.2.2.1 + e.2.1) % 4)), .int (wk.2.1 + dyI ((wk.2.2.1 + e.2.1) % 4))] ++ [.int ((wk.2.2.1 + e.2.1) % 4), .int e.2.2])) nu2)
      exact q1 _ (step_some he) (.ref u2) _ (putM m (wPt wk) e.1) (put_col _ _ _) (nd_put _ _ nd) (len_put _ _ _) put_keys (s5 _ _ hD3) (Tp.of_ints (ks := [_, _, _, _]) (SqT.of upd_same)) (k2.trans (Same.keepE (Same.trans s3 s5)))
end

/-! ### the law's walker leaves the box -/
def spLeaves (K : PySem.W.Frag) : Sp := fun vs H Q _ => ∃ (tv wv : V) (D : Addr) (L : List Pt) (m : CM) (wk : Wk) (B : Int) (wd hg : Nat), vs = [tv, .ref D, wv, .int (wd : Int), .int (hg : Int)] ∧ Tp K H tv (tabD [tRow L]) ∧ TurnL L ∧ BothL L ∧ Tp K H wv (wkD wk) ∧ H D = some (.dT (cellK m)) ∧ (m.map (·.1)).Nodup ∧ (∀ p, p ∈ m.map (·.1) ↔ inBox wd hg p) ∧ m.length = wd * hg ∧ wd ≤ 3 ∧ hg ≤ 3 ∧ wd * hg ≤ 6 ∧ Fit L.length 1 B (col m, wk) ∧ inBox wd hg (wPt wk) ∧
  ∀ H', KeepE [D] H H' → Q (.bl true) H'
section
variable {P : Program} {w : World} {K : PySem.W.Frag} {mg : Str → Option Value} {base : Heap}
local macro_rules | `(tactic| walk_at "cl") => `(tactic| first | (refine le_only ?_; omega) | (refine lt_only ?_; omega))
theorem ok_law_leaves (T : Txt K mg) (D : DefAt K mg "_law_leaves" s_law_leaves ["table", "cells", "walker", "wide", "high"]) (C_law_power : Cal P w K mg base CX0 "_law_power" 1 ["number", "many"] spPower) (C_law_step : Cal P w K mg base CX0 "_law_step" 2 ["table", "cells", "walker"] (spLStep K)) : Cal P w K mg base CX0 "_law_leaves" 3 ["table", "cells", "walker", "wide", "high"] (spLeaves K) := by
  refine D.cal sc_law_leaves (fun vs H Q E h => ?_) (fun f cdv A outer s H vs Q E hr h => ?_)
  · obtain ⟨tv, wv, D, L, m, wk, B, wd, hg, rfl, _⟩ := h
    rfl
  · obtain ⟨tv, wv, D, L, m, wk, B, wd, hg, rfl, ht, hL, hB, hw, hD, nd, keys, lm, w3, h3, wh, fit, ins, q⟩ := h
    refine ⟨_, (pss_cons (ps_for PassesOwn.never rfl (pi_range1 (by rfl) T.m_range (pa_cons (pe_op op_add (pe_op op_mul (pe_op op_mul (pe_op op_mul pe_int (pv 3)) (pv 4)) (pe_own C_law_power hr (by first | decide | omega) (pa_cons (pe_callB (k_len_t (K := K)) (by rfl) T.m_len (by decide +kernel) (pa_cons (pe_ix (k_ix_tup (K := K)) (pv 0) pe_int (fun _ _ => rfl)) pa_nil)) (pa_cons (pe_op op_mul (pv 3) (pv 4)) pa_nil)))) pe_int) pa_nil)) (pg_name (i := 5) sc_law_leaves.nd rfl (Or.inl rfl))
      (pss_cons (ps_set (i := 2) sc_law_leaves.nd rfl (Or.inl rfl) (pe_own C_law_step hr (by first | decide | omega) (pa_cons (pv 0) (pa_cons (pv 1) (pa_cons (pv 2) pa_nil)))))
      (pss_one (ps_if (pt_not (PW.pt (pw_and (pt_chain op_le op_lt pe_int (pe_ix (k_ix_tup (K := K)) (pv 2) pe_int (fun _ _ => rfl)) (pv 3)) (pw_and1 (pt_chain op_le op_lt pe_int (pe_ix (k_ix_tup (K := K)) (pv 2) pe_int (fun _ _ => rfl)) (pv 4)))))) (pss_one (ps_ret pe_bl)) pss_nil))))
      (pss_one (ps_ret pe_bl))), ?_⟩
    obtain ⟨a, b, ws, rfl, ha, hb, lw, hws⟩ := tab1 ht
    have l6 := hL.l6
    have mu1 : CMul 4 (wd : Int) := .inl ⟨by decide, by decide⟩
    have mu2 : CMul (4 * (wd : Int)) (hg : Int) := .inl ⟨by omega, by omega⟩
    have mu3 : CMul (wd : Int) (hg : Int) := .inl ⟨by omega, by omega⟩
    have wh' : (wd : Int) * (hg : Int) ≤ 6 := by
      have : ((wd * hg : Nat) : Int) ≤ 6 := by omega
      rw [Int.natCast_mul] at this
      exact this
    have wh0 : 0 ≤ (wd : Int) * (hg : Int) := Int.mul_nonneg (by omega) (by omega)
    have mu4 : CMul (4 * (wd : Int) * (hg : Int)) ((ws.length : Int) ^ ((wd : Int) * (hg : Int)).toNat) := .inl (by
      have : 4 * (wd : Int) * (hg : Int) = 4 * ((wd : Int) * (hg : Int)) := Int.mul_assoc _ _ _
      rw [this]
      omega)
    have lw0 : 0 ≤ (ws.length : Int) := by omega
    have lw6 : (ws.length : Int) < 2 ^ 40 := by omega
    obtain ⟨M, hM⟩ : ∃ M : Nat, ((wd * hg : Nat) : Int).toNat = M ∧ M = wd * hg := ⟨_, rfl, by omega⟩
    have eM : ((wd : Int) * (hg : Int)).toNat = wd * hg := by
      rw [← Int.natCast_mul]
      omega
    have pw : (ws.length : Int) ^ ((wd : Int) * (hg : Int)).toNat = ((L.length ^ (wd * hg) : Nat) : Int) := by
      rw [eM, lw]
      exact (Int.natCast_pow _ _).symm
    have pwb : L.length ^ (wd * hg) ≤ 46656 := Nat.le_trans (Nat.pow_le_pow_left l6 _) (Nat.le_trans (Nat.pow_le_pow_right (by decide) wh) (by decide))
    have eN : 4 * (wd : Int) * (hg : Int) * (ws.length : Int) ^ ((wd : Int) * (hg : Int)).toNat + 1 = ((L.length ^ (wd * hg) * (4 * (wd * hg)) + 1 : Nat) : Int) := by
      rw [pw]
      push_cast
      rw [Int.mul_assoc 4, Int.mul_comm]
    have bN : L.length ^ (wd * hg) * (4 * (wd * hg)) ≤ 46656 * 24 := Nat.mul_le_mul pwb (by omega)
    have hN0 : -2 ^ 62 ≤ 4 * (wd : Int) * (hg : Int) * (ws.length : Int) ^ ((wd : Int) * (hg : Int)).toNat + 1 := by rw [eN]; omega
    have hN1 : 4 * (wd : Int) * (hg : Int) * (ws.length : Int) ^ ((wd : Int) * (hg : Int)).toNat + 1 < 2 ^ 62 := by rw [eN]; omega
    have c1 : -1000 ≤ (wd : Int) * (hg : Int) := by omega
    have c2 : (wd : Int) * (hg : Int) ≤ 1000 := by omega
    iterate 48 (first | (apply And.intro; (· walk_at "cl")) | apply Exists.intro)
    refine ⟨mu4, ?_⟩
    refine ⟨_, _, rfl, rfl, ?_⟩
    refine ⟨_, rfl, hN0, hN1, ?_⟩
    have hNt : (4 * (wd : Int) * (hg : Int) * (ws.length : Int) ^ ((wd : Int) * (hg : Int)).toNat + 1).toNat = L.length ^ (wd * hg) * (4 * (wd * hg)) + 1 := by rw [eN]; omega
    refine for_range (lo := 0) (n := (4 * (wd : Int) * (hg : Int) * (ws.length : Int) ^ ((wd : Int) * (hg : Int)).toNat + 1).toNat) (fun i σ H' => Ok (∃ (y : Option V) (v : V) (m' : CM), σ = [some (.ref a), some (.ref D), some v, some (.int (wd : Int)), some (.int (hg : Int)), y] ∧ Tp K H' v (wkD (itT [tRow L] (col m, wk) i).2) ∧ H' D = some (.dT (cellK m')) ∧ col m' = (itT [tRow L] (col m, wk) i).1 ∧ m'.map (·.1) = m.map (·.1) ∧ KeepE [D] H H' ∧ ∀ k, k ≤ i → inBox wd hg (wPt (itT [tRow L] (col m, wk) k).2))) ?_ ?_ ?_
    · refine ⟨_, wv, m, rfl, hw, hD, rfl, rfl, KeepE.refl _ _, fun k hk => ?_⟩
      rw [show k = 0 by omega]
      exact ins
    · rintro i σ H' hi ⟨y, v, m', rfl, hv, hD', ec, ek, kp, all⟩
      clear eN hN0 hN1 mu4 pw
      have tk : TK H H' := kp.tk fun b hb => by
        rw [List.mem_singleton.mp hb]
        exact Soft.dT hD
      have ht' := Tp.mono tk _ _ ht
      obtain ⟨B', g'⟩ := hL.turning.fit hL.tab fit i
      have one := hL.turning.some g'
      have nd' : (m'.map (·.1)).Nodup := by rw [ek]; exact nd
      have lm' : m'.length ≤ 900 := by
        have z := congrArg List.length ek
        rw [List.length_map, List.length_map] at z
        omega
      have tab := hL.tab
      have g'' : Fit L.length 1 B' (col m', (itT [tRow L] (col m, wk) i).2) := by rw [ec]; exact g'
      have one' : stepW [tRow L] (col m', (itT [tRow L] (col m, wk) i).2) = some (itT [tRow L] (col m, wk) (i + 1)) := by rw [ec]; exact one
      walk_at "st"
      refine ⟨fun z => (by rw [one'] at z; cases z), fun z hz v2 H2 m2 e2 nd2 lm2 ks2 hD2 hv2 k2 => ?_⟩
      rw [one'] at hz
      obtain rfl := Option.some.inj hz
      obtain ⟨wa, rfl, hsw⟩ := hv2.int4
      have bi := all i (Nat.le_refl i)
      have km := ks2 (by rw [ek]; exact (keys _).mpr bi)
      walk_at "st"
      have fin := q H2 (kp.trans k2)
      have out : ∀ b : Bool, ¬ b = true → b = false := fun b h => by
        cases b with
        | true => exact absurd rfl h
        | false => rfl
      refine ite2 (fun c1 => ?_) (fun c1 => ?_)
      · walk_at "st"
        cases c2 : decide ((itT [tRow L] (col m, wk) (i + 1)).2.1 < (wd : Int)) with
        | false =>
          walk_at "st"
          exact fin
        | true =>
          walk_at "st"
          refine ite2 (fun c3 => ?_) (fun c3 => ?_)
          · walk_at "st"
            cases c4 : decide ((itT [tRow L] (col m, wk) (i + 1)).2.2.1 < (hg : Int)) with
            | false =>
              walk_at "st"
              exact fin
            | true =>
              walk_at "st"
              have c1 := of_decide_eq_true c1
              have c2 := of_decide_eq_true c2
              have c3 := of_decide_eq_true c3
              have c4 := of_decide_eq_true c4
              refine ⟨_, _, m2, rfl, hv2, hD2, e2, km.trans ek, kp.trans k2, fun k hk => ?_⟩
              rcases Nat.lt_or_ge k (i + 1) with l | l
              · exact all k (by omega)
              · rw [show k = i + 1 by omega]
                exact ⟨⟨c1, c2⟩, c3, c4⟩
          · walk_at "st"
            exact fin
      · walk_at "st"
        exact fin
    · rintro σ H' ⟨y, v, m', rfl, hv, hD', ec, ek, kp, all⟩
      rw [hNt] at all
      exact absurd (hL.leaves hB fit keys (by rw [List.length_map]; exact lm) (Nat.lt_succ_self _) fun k hk => all k (by omega)) id
end

/-! ### four squares of one colour: round and round -/
theorem TurnL.tu13 {L : List Pt} (hL : TurnL L) {k : Nat} (hk : k < L.length) : tuOf L k = 1 ∨ tuOf L k = 3 := by
  have := hL.tu _ (List.getElem_mem hk)
  unfold tuOf
  rw [List.getElem?_eq_getElem hk]
  exact this
def four (c : Int) : Pt → Int := fun p => if p = (0, 0) ∨ p = (0, 1) ∨ p = (1, 0) ∨ p = (1, 1) then c else 0
theorem four_at {c : Int} {p : Pt} (h : p = (0, 0) ∨ p = (0, 1) ∨ p = (1, 0) ∨ p = (1, 1)) : four c p = c := if_pos h
theorem dab_ne {f : Pt → Int} {p q : Pt} {c : Int} (h : q ≠ p) : dab f p c q = f q := if_neg h
theorem dab_eq {f : Pt → Int} {p : Pt} {c : Int} : dab f p c p = c := if_pos rfl
theorem four_dab (c c' : Int) : dab (dab (dab (dab (four c) (0, 0) c') (1, 0) c') (1, 1) c') (0, 1) c' = four c' := by
  funext p
  unfold dab four
  by_cases h1 : p = (0, 1)
  · simp [h1]
  · by_cases h2 : p = (1, 1)
    · simp [h2]
    · by_cases h3 : p = (1, 0)
      · simp [h3]
      · by_cases h4 : p = (0, 0)
        · simp [h4]
        · simp [h1, h2, h3, h4]
theorem four_dab2 (c c' : Int) : dab (dab (dab (dab (four c) (0, 0) c') (0, 1) c') (1, 1) c') (1, 0) c' = four c' := by
  funext p
  unfold dab four
  by_cases h1 : p = (0, 1)
  · simp [h1]
  · by_cases h2 : p = (1, 1)
    · simp [h2]
    · by_cases h3 : p = (1, 0)
      · simp [h3]
      · by_cases h4 : p = (0, 0)
        · simp [h4]
        · simp [h1, h2, h3, h4]
theorem TurnL.ent {L : List Pt} (hL : TurnL L) {k : Nat} (hk : k < L.length) : entAt [tRow L] 0 (k : Int) = some ((paN L k : Int), tuOf L k, 0) := by
  have := (hL.turning (k : Int) (by omega) (by omega)).1
  exact this
theorem TurnL.four4 {L : List Pt} (hL : TurnL L) {k : Nat} (hk : k < L.length) {t : Int} (ht : tuOf L k = t) : runW [tRow L] 4 (four (k : Int), sqW t) = some (four (paN L k : Int), sqW t) := by
  have en := hL.ent hk
  rw [ht] at en
  have t13 := hL.tu13 hk
  rw [ht] at t13
  have st : ∀ (f : Pt → Int) (x y h : Int), f (x, y) = (k : Int) → stepW [tRow L] (f, (x, y, h, 0)) = some (dab f (x, y) (paN L k), (x + dxI ((h + t) % 4), y + dyI ((h + t) % 4), (h + t) % 4, 0)) := fun f x y h e => by
    have e1 : entAt [tRow L] ((f, (x, y, h, (0 : Int))) : WSt).2.2.2.2 (((f, (x, y, h, (0 : Int))) : WSt).1 (wPt ((f, (x, y, h, (0 : Int))) : WSt).2)) = some ((paN L k : Int), t, 0) := by
      show entAt [tRow L] 0 (f (x, y)) = _
      rw [e, en]
    rw [step_some e1]
    rfl
  rcases t13 with rfl | rfl
  · have s1 := st (four k) 0 0 0 (four_at (.inl rfl))
    have s2 := st (dab (four k) (0, 0) (paN L k)) 1 0 1 (by rw [dab_ne (by decide)]; exact four_at (.inr (.inr (.inl rfl))))
    have s3 := st (dab (dab (four k) (0, 0) (paN L k)) (1, 0) (paN L k)) 1 1 2 (by rw [dab_ne (by decide), dab_ne (by decide)]; exact four_at (.inr (.inr (.inr rfl))))
    have s4 := st (dab (dab (dab (four k) (0, 0) (paN L k)) (1, 0) (paN L k)) (1, 1) (paN L k)) 0 1 3 (by rw [dab_ne (by decide), dab_ne (by decide), dab_ne (by decide)]; exact four_at (.inr (.inl rfl)))
    show (((stepW [tRow L] (four (k : Int), (0, 0, 0, 0))).bind (stepW [tRow L])).bind (stepW [tRow L])).bind (stepW [tRow L]) = _
    rw [s1]
    show (((stepW [tRow L] (dab (four k) (0, 0) (paN L k), (1, 0, 1, 0))).bind (stepW [tRow L])).bind (stepW [tRow L])) = _
    rw [s2]
    show ((stepW [tRow L] (dab (dab (four k) (0, 0) (paN L k)) (1, 0) (paN L k), (1, 1, 2, 0))).bind (stepW [tRow L])) = _
    rw [s3]
    show stepW [tRow L] (dab (dab (dab (four k) (0, 0) (paN L k)) (1, 0) (paN L k)) (1, 1) (paN L k), (0, 1, 3, 0)) = _
    rw [s4, four_dab]
    rfl
  · have s1 := st (four k) 0 0 3 (four_at (.inl rfl))
    have s2 := st (dab (four k) (0, 0) (paN L k)) 0 1 2 (by rw [dab_ne (by decide)]; exact four_at (.inr (.inl rfl)))
    have s3 := st (dab (dab (four k) (0, 0) (paN L k)) (0, 1) (paN L k)) 1 1 1 (by rw [dab_ne (by decide), dab_ne (by decide)]; exact four_at (.inr (.inr (.inr rfl))))
    have s4 := st (dab (dab (dab (four k) (0, 0) (paN L k)) (0, 1) (paN L k)) (1, 1) (paN L k)) 1 0 0 (by rw [dab_ne (by decide), dab_ne (by decide), dab_ne (by decide)]; exact four_at (.inr (.inr (.inl rfl))))
    show (((stepW [tRow L] (four (k : Int), (0, 0, 3, 0))).bind (stepW [tRow L])).bind (stepW [tRow L])).bind (stepW [tRow L]) = _
    rw [s1]
    show (((stepW [tRow L] (dab (four k) (0, 0) (paN L k), (0, 1, 2, 0))).bind (stepW [tRow L])).bind (stepW [tRow L])) = _
    rw [s2]
    show ((stepW [tRow L] (dab (dab (four k) (0, 0) (paN L k)) (0, 1) (paN L k), (1, 1, 1, 0))).bind (stepW [tRow L])) = _
    rw [s3]
    show stepW [tRow L] (dab (dab (dab (four k) (0, 0) (paN L k)) (0, 1) (paN L k)) (1, 1) (paN L k), (1, 0, 0, 0)) = _
    rw [s4, four_dab2]
    rfl
theorem TurnL.four_run {L : List Pt} (hL : TurnL L) {s : Nat} (hs : s < L.length) {t : Int} (ht : ∀ j, tuOf L (itN L j s) = t) : ∀ q, runW [tRow L] (4 * q) (four (s : Int), sqW t) = some (four (itN L q s : Nat), sqW t)
  | 0 => rfl
  | q + 1 => by
    rw [show 4 * (q + 1) = 4 * q + 4 from rfl, runW_add, hL.four_run hs ht q]
    exact hL.four4 (hL.it_lt hs q) (ht q)
theorem col_sqF (c : Int) : colF (sqF c) = four c := by
  funext p
  by_cases h : c = 0
  · subst h
    show colF [] p = four 0 p
    unfold four
    split <;> rfl
  · have e : sqF c = [(0, 0, c), (0, 1, c), (1, 0, c), (1, 1, c)] := if_neg h
    rw [e]
    unfold four
    by_cases h1 : p = (0, 0)
    · rw [if_pos (.inl h1), h1]
      rfl
    · by_cases h2 : p = (0, 1)
      · rw [if_pos (.inr (.inl h2)), h2]
        rfl
      · by_cases h3 : p = (1, 0)
        · rw [if_pos (.inr (.inr (.inl h3))), h3]
          rfl
        · by_cases h4 : p = (1, 1)
          · rw [if_pos (.inr (.inr (.inr h4))), h4]
            rfl
          · rw [if_neg (by rintro (z | z | z | z) <;> contradiction)]
            unfold colF cellsOf
            simp [col, look, Sq.pt, Ne.symm h1, Ne.symm h2, Ne.symm h3, Ne.symm h4]
theorem TurnL.sqOk {L : List Pt} (hL : TurnL L) {k : Nat} (hk : k < L.length) (t : Int) : StandOk L.length 1 FarI [tRow L] (sqF (k : Int)) (sqW t) := by
  refine ⟨hL.tab, hL.good, Nat.le_refl 1, by omega, ⟨?_, fun s hs => ?_⟩, ?_, ?_, ?_⟩
  · unfold sqF
    split
    · exact .nil
    · have q : ∀ {x y x' y' a b : Int}, (x < x' ∨ (x = x' ∧ y < y')) → ltP (Sq.pt (x, y, a)) (Sq.pt (x', y', b)) := fun h => h
      refine .cons (fun s hs => ?_) (.cons (fun s hs => ?_) (.cons (fun s hs => ?_) (.cons (fun s hs => ?_) .nil)))
      · simp only [List.mem_cons, List.not_mem_nil, or_false] at hs
        rcases hs with rfl | rfl | rfl <;> exact q (by decide)
      · simp only [List.mem_cons, List.not_mem_nil, or_false] at hs
        rcases hs with rfl | rfl <;> exact q (by decide)
      · rw [List.mem_singleton.mp hs]
        exact q (by decide)
      · exact absurd hs List.not_mem_nil
  · unfold sqF at hs
    split at hs
    · exact absurd hs List.not_mem_nil
    · rename_i h
      have far : ∀ x y : Int, 0 ≤ x → x ≤ 1 → 0 ≤ y → y ≤ 1 → InB FarI (x, y) := fun x y a b c d => by
        unfold InB FarI
        dsimp only
        omega
      simp only [List.mem_cons, List.not_mem_nil, or_false] at hs
      rcases hs with rfl | rfl | rfl | rfl
      · exact ⟨far 0 0 (by decide) (by decide) (by decide) (by decide), by show 1 ≤ (k : Int) ∧ (k : Int) < L.length; omega⟩
      · exact ⟨far 0 1 (by decide) (by decide) (by decide) (by decide), by show 1 ≤ (k : Int) ∧ (k : Int) < L.length; omega⟩
      · exact ⟨far 1 0 (by decide) (by decide) (by decide) (by decide), by show 1 ≤ (k : Int) ∧ (k : Int) < L.length; omega⟩
      · exact ⟨far 1 1 (by decide) (by decide) (by decide) (by decide), by show 1 ≤ (k : Int) ∧ (k : Int) < L.length; omega⟩
  · unfold InB FarI sqW wPt
    dsimp only
    omega
  · unfold sqW
    dsimp only
    split <;> omega
  · exact ⟨Int.le_refl 0, (by decide : (0 : Int) < 1)⟩
/-- of a round with one turn alone the turns are those of each of its colours -/
theorem tsOne {L : List Pt} (hL : TurnL L) {R : List Nat} (lt : ∀ k ∈ R, k < L.length) (nb : bothB L R = false) {k : Nat} (hk : k ∈ R) {j : Nat} (hj : j ∈ R) : tuOf L j = tuOf L k := by
  rcases hL.tu13 (lt k hk) with e | e <;> rcases hL.tu13 (lt j hj) with e2 | e2
  · rw [e, e2]
  · exfalso
    have : bothB L R = true := by
      unfold bothB
      rw [Bool.and_eq_true, decide_eq_true_eq, decide_eq_true_eq]
      exact ⟨List.mem_map.mpr ⟨k, hk, e⟩, List.mem_map.mpr ⟨j, hj, e2⟩⟩
    rw [nb] at this
    cases this
  · exfalso
    have : bothB L R = true := by
      unfold bothB
      rw [Bool.and_eq_true, decide_eq_true_eq, decide_eq_true_eq]
      exact ⟨List.mem_map.mpr ⟨j, hj, e2⟩, List.mem_map.mpr ⟨k, hk, e⟩⟩
    rw [nb] at this
    cases this
  · rw [e, e2]
/-- the round of four squares is right -/
theorem round_right {L : List Pt} (hL : TurnL L) {s : Nat} (hs : s < L.length) {R : List Nat} (c : IsCyc L s R) (lt : ∀ k ∈ R, k < L.length) (nb : bothB L R = false) {z1 z2 : WSt} {i j : Nat} (e1 : Ends [tRow L] (colF (sqF (s : Int)), sqW (tuOf L s)) 0 i z1) (e2 : Ends [tRow L] z1 (4 * R.length) j z2) : HoldsNS [tRow L] (.round, 0, 4 * R.length) z1 z2 i j := by
  have s0 : s ∈ R := c.mem (j := 0) c.pos
  have all : ∀ j, tuOf L (itN L j s) = tuOf L s := fun j => by
    have per : ∀ m, itN L (m * R.length) s = s := fun m => by
      induction m with
      | zero => rw [Nat.zero_mul]; rfl
      | succ m ih => rw [Nat.succ_mul, itN_add, c.closes hL hs, ih]
    have lt2 := Nat.mod_lt j c.pos
    have e : itN L j s = itN L (j % R.length) s := by
      have := itN_add (L := L) s (j / R.length * R.length) (j % R.length)
      rw [per] at this
      rw [← this]
      congr 1
      have := Nat.div_add_mod j R.length
      rw [Nat.mul_comm] at this
      omega
    rw [e]
    exact tsOne hL lt nb s0 (c.mem lt2)
  have i0 : i = 0 := Nat.le_zero.mp e1.le
  subst i0
  have ez1 : (colF (sqF (s : Int)), sqW (tuOf L s)) = z1 := Option.some.inj e1.run
  subst ez1
  have run := hL.four_run hs all R.length
  rw [c.closes hL hs, ← col_sqF] at run
  obtain ⟨ej, ez⟩ := e2.uniq ⟨run, Nat.le_refl _, .inl rfl⟩
  exact ⟨rfl, ej, ez⟩

/-! ### equal, and of the same structure -/
def okD : Nat → PyData → Prop
  | 0, _ => False
  | n + 1, .list ds => ds.length ≤ 5000 ∧ ∀ d ∈ ds, okD n d
  | n + 1, .tuple ds => ds.length ≤ 5000 ∧ ∀ d ∈ ds, okD n d
  | _ + 1, .dict _ => False
  | _ + 1, _ => True
def spAlike (K : PySem.W.Frag) (n : Nat) : Sp := fun vs H Q _ => ∃ (u v : V) (d : PyData), vs = [u, v] ∧ Dp K H u d ∧ Dp K H v d ∧ okD n d ∧ ∀ H', Same H H' → Q (.bl true) H'
section
variable {K : PySem.W.Frag} {H : Hp}
theorem DpAll.length : ∀ {vs : List V} {ds : List PyData}, DpAll K H vs ds → vs.length = ds.length
  | [], [], _ => rfl
  | _ :: _, [], h => by cases h
  | [], _ :: _, h => by cases h
  | v :: vs, d :: ds, h => by
    cases h with
    | cons h1 h2 =>
      show vs.length + 1 = ds.length + 1
      rw [DpAll.length h2]
theorem DpAll.get : ∀ {vs : List V} {ds : List PyData} {i : Nat} {d : PyData}, DpAll K H vs ds → ds[i]? = some d → ∃ v, vs[i]? = some v ∧ Dp K H v d
  | [], [], _, _, _, e => by simp at e
  | _ :: _, [], _, _, h, _ => by cases h
  | [], _ :: _, _, _, h, _ => by cases h
  | v :: vs, d :: ds, 0, _, h, e => by
    cases h with
    | cons h1 h2 =>
      have e : d = _ := Option.some.inj e
      subst e
      exact ⟨v, rfl, h1⟩
  | v :: vs, d :: ds, i + 1, _, h, e => by
    cases h with
    | cons h1 h2 => exact DpAll.get (i := i) h2 e
theorem SqA.same {H' : Hp} {a : Addr} {xs : List V} (s : Same H H') (h : SqL K H a xs ∨ SqT K H a xs) : SqL K H' a xs ∨ SqT K H' a xs := by
  rcases h with h | h
  · exact .inl (s.seq h)
  · exact .inr (TK.seqT (Same.tk s) h)
end
section
variable {P : Program} {w : World} {K : PySem.W.Frag} {mg : Str → Option Value} {base : Heap}
theorem ok_law_alike (T : Txt K mg) (D : DefAt K mg "_law_alike" s_law_alike ["found", "due"]) : ∀ n : Nat, Cal P w K mg base CX0 "_law_alike" (n + 1) ["found", "due"] (spAlike K n)
  | 0 => by
    refine D.cal sc_law_alike (fun vs H Q E h => ?_) (fun f cdv A outer s H vs Q E hr h => ?_)
    · obtain ⟨u, v, d, _, _, _, z, _⟩ := h
      exact z.elim
    · obtain ⟨u, v, d, _, _, _, z, _⟩ := h
      exact z.elim
  | n + 1 => by
    have C_law_alike := ok_law_alike T D n
    refine D.cal sc_law_alike (fun vs H Q E h => ?_) (fun f cdv A outer s H vs Q E hr h => ?_)
    · obtain ⟨u, v, d, rfl, _⟩ := h
      rfl
    · obtain ⟨u, v, d, rfl, hu, hv, hd, q⟩ := h
      refine ⟨_, (pss_cons (ps_if (pt_val (pe_callB (k_isT2 (K := K)) (by rfl) T.m_isinstance (by decide +kernel) (pa_cons (pv 1) (pa_cons (pe_tup (pa_cons (pe_ty "tuple" (by rfl) T.m_tuple (by decide +kernel)) (pa_cons (pe_ty "list" (by rfl) T.m_list (by decide +kernel)) pa_nil))) pa_nil)))) (pss_cons (ps_if (PW.pt (pw_or (pt_not (pt_val (pe_callB (k_isT2 (K := K)) (by rfl) T.m_isinstance (by decide +kernel) (pa_cons (pv 0) (pa_cons (pe_tup (pa_cons (pe_ty "tuple" (by rfl) T.m_tuple (by decide +kernel)) (pa_cons (pe_ty "list" (by rfl) T.m_list (by decide +kernel)) pa_nil))) pa_nil))))) (pw_or1 (pt_cmpR op_ne (pe_callB (k_isN (K := K)) (by rfl) T.m_isinstance (by decide +kernel) (pa_cons (pv 0) (pa_cons (pe_ty "list" (by rfl) T.m_list (by decide +kernel)) pa_nil))) (pe_callB (k_isN (K := K)) (by rfl) T.m_isinstance (by decide +kernel) (pa_cons (pv 1) (pa_cons (pe_ty "list" (by rfl) T.m_list (by decide +kernel)) pa_nil))) (nomark _))))) (pss_one (ps_ret pe_bl)) pss_nil)
        (pss_cons (ps_if (pt_cmpR op_ne (pe_callB (k_len_seq (K := K)) (by rfl) T.m_len (by decide +kernel) (pa_cons (pv 0) pa_nil)) (pe_callB (k_len_seq (K := K)) (by rfl) T.m_len (by decide +kernel) (pa_cons (pv 1) pa_nil)) (nomark _)) (pss_one (ps_ret pe_bl)) pss_nil)
        (pss_one (ps_ret (pe_cmpR (k_eqD (K := K) hr.units) (pe_lc (own := [("k", 2)]) (g := gName 2) rfl sc_law_alike.nd (pi_range1 (by rfl) T.m_range (pa_cons (pe_callB (k_len_seq (K := K)) (by rfl) T.m_len (by decide +kernel) (pa_cons (pv 1) pa_nil)) pa_nil)) (blkOk_by (by rfl)) (fun _ _ _ _ _ => (pg_name (i := 2) sc_law_alike.nd rfl (Or.inl rfl))) (fun _ _ _ _ _ => pts_one (pt_not (pt_val (pe_own C_law_alike hr (by first | decide | omega) (pa_cons (pe_ix (k_ix_seq (K := K)) (pv 0) (pv 2) (fun _ _ => rfl)) (pa_cons (pe_ix (k_ix_seq (K := K)) (pv 1) (pv 2) (fun _ _ => rfl)) pa_nil)))))) (fun _ _ _ _ _ => (pv 2))) (pe_lst pa_nil) (nomark _)))))) pss_nil)
        (pss_cons (ps_if (PW.pt (pw_or (pt_cmpR op_isN (pv 1) pe_non (nomark _)) (pw_or1 (pt_val (pe_callB (k_isN (K := K)) (by rfl) T.m_isinstance (by decide +kernel) (pa_cons (pv 1) (pa_cons (pe_ty "str" (by rfl) T.m_str (by decide +kernel)) pa_nil))))))) (pss_one (ps_ret (pe_and (pe_cmpR op_eq (pv 0) (pv 1) (nomark _)) (pe_one (pe_cmpR op_eq (pe_callB (k_isN (K := K)) (by rfl) T.m_isinstance (by decide +kernel) (pa_cons (pv 0) (pa_cons (pe_ty "str" (by rfl) T.m_str (by decide +kernel)) pa_nil))) (pe_callB (k_isN (K := K)) (by rfl) T.m_isinstance (by decide +kernel) (pa_cons (pv 1) (pa_cons (pe_ty "str" (by rfl) T.m_str (by decide +kernel)) pa_nil))) (nomark _)))))) pss_nil)
        (pss_one (ps_ret (pe_and (pe_callB (k_isN (K := K)) (by rfl) T.m_isinstance (by decide +kernel) (pa_cons (pv 0) (pa_cons (pe_ty "int" (by rfl) T.m_int (by decide +kernel)) pa_nil))) (pe_and (pe_cmpR op_eq (pe_callB (k_isN (K := K)) (by rfl) T.m_isinstance (by decide +kernel) (pa_cons (pv 0) (pa_cons (pe_ty "bool" (by rfl) T.m_bool (by decide +kernel)) pa_nil))) (pe_callB (k_isN (K := K)) (by rfl) T.m_isinstance (by decide +kernel) (pa_cons (pv 1) (pa_cons (pe_ty "bool" (by rfl) T.m_bool (by decide +kernel)) pa_nil))) (nomark _)) (pe_one (pe_cmpR op_eq (pv 0) (pv 1) (nomark _))))))))), ?_⟩
      cases d with
      | dict _ => exact hd.elim
      | none =>
        cases hu
        cases hv
        walk_at "st"
        intro p np
        walk_at "st"
        exact q _ (Same.new np)
      | bool b =>
        cases hu
        cases hv
        walk_at "st"
        intro p np
        cases b
        · walk_at "st"
          exact q _ (Same.new np)
        · walk_at "st"
          exact q _ (Same.new np)
      | int i =>
        cases hu
        cases hv
        walk_at "st"
        intro p np
        walk_at "st"
        have q' := q _ (Same.new (o := .tup [.ty "tuple", .ty "list"]) np)
        rw [show true = decide (V.int i = V.int i) from (decide_eq_true rfl).symm] at q'
        exact q'
      | str x =>
        cases hu
        cases hv
        walk_at "st"
        intro p np
        walk_at "st"
        refine ite2 (fun _ => ?_) (fun e => absurd (decide_eq_true rfl) e)
        walk_at "st"
        exact q _ (Same.new np)
      | list ds =>
        cases hu with
        | @lst a us _ hsu hau =>
          cases hv with
          | @lst b ws _ hsv hav =>
            have hlu := DpAll.length hau
            have hlv := DpAll.length hav
            walk_at "st"
            intro p np
            have s1 : Same H (upd H p (.tup [.ty "tuple", .ty "list"])) := Same.new np
            have hsu1 := SqA.same s1 (Or.inl hsu)
            have hsv1 := SqA.same s1 (Or.inl hsv)
            have tu1 := tyx_lst (s1.seq hsu)
            have tv1 := tyx_lst (s1.seq hsv)
            walk_at "st"
            intro p2 np2
            have s2 : Same H (upd (upd H p (.tup [.ty "tuple", .ty "list"])) p2 (.tup [.ty "tuple", .ty "list"])) := Same.trans s1 (Same.new np2)
            have hsu2 := SqA.same s2 (Or.inl hsu)
            have hsv2 := SqA.same s2 (Or.inl hsv)
            have tu2 := tyx_lst (s2.seq hsu)
            have tv2 := tyx_lst (s2.seq hsv)
            obtain ⟨H2, hH2⟩ : ∃ H2, H2 = (upd (upd H p (.tup [.ty "tuple", .ty "list"])) p2 (.tup [.ty "tuple", .ty "list"])) := ⟨_, rfl⟩
            walk_at "st"
            refine ite2 (fun e => absurd (by rw [hlu, hlv]) (ne_tr e)) (fun _ => ?_)
            have hln := hd.1
            walk_at "st"
            intro L nL
            refine lc_range (lo := 0) (n := (ws.length : Int).toNat) (fun i H' => Ok (Same H H' ∧ H' L = some (.lst []))) ⟨Same.trans s2 (Same.new nL), upd_same⟩ ?_ ?_
            · rintro i H' hi ⟨s3, hL⟩
              have hi' : i < ds.length := by omega
              obtain ⟨x, ex, hx⟩ := DpAll.get hau (List.getElem?_eq_getElem hi')
              obtain ⟨y, ey, hy⟩ := DpAll.get hav (List.getElem?_eq_getElem hi')
              have hsu3 := SqA.same s3 (Or.inl hsu)
              have hsv3 := SqA.same s3 (Or.inl hsv)
              have ax := atI_nat ex
              have ay := atI_nat ey
              rw [← Int.zero_add ((i : Nat) : Int)] at ax ay
              have hx3 := Dp.mono s3 _ _ hx
              have hy3 := Dp.mono s3 _ _ hy
              have hdi := hd.2 _ (List.getElem_mem hi')
              walk_at "st"
              intro H4 s4
              walk_at "st"
              exact ⟨Same.trans s3 s4, s4 _ _ hL⟩
            · rintro H' ⟨s3, hL⟩
              walk_at "st"
              intro M nM
              have z : PyData.eqv (.list []) (.list []) = true := rfl
              have q' := q _ (Same.trans s3 (Same.new (o := .lst []) nM))
              have hL2 : (upd H' M (.lst [])) L = some (.lst []) := Same.new nM _ _ hL
              exact ⟨.list [], .list [], .lst (SqL.of hL2) .nil, .lst (SqL.of upd_same) .nil, rfl, rfl, by rw [z]; exact q'⟩
      | tuple ds =>
        cases hu with
        | @tup a us _ hsu hau =>
          cases hv with
          | @tup b ws _ hsv hav =>
            have hlu := DpAll.length hau
            have hlv := DpAll.length hav
            walk_at "st"
            intro p np
            have s1 : Same H (upd H p (.tup [.ty "tuple", .ty "list"])) := Same.new np
            have hsu1 := SqA.same s1 (Or.inr hsu)
            have hsv1 := SqA.same s1 (Or.inr hsv)
            have tu1 := tyx_tup (TK.seqT (Same.tk s1) hsu)
            have tv1 := tyx_tup (TK.seqT (Same.tk s1) hsv)
            walk_at "st"
            intro p2 np2
            have s2 : Same H (upd (upd H p (.tup [.ty "tuple", .ty "list"])) p2 (.tup [.ty "tuple", .ty "list"])) := Same.trans s1 (Same.new np2)
            have hsu2 := SqA.same s2 (Or.inr hsu)
            have hsv2 := SqA.same s2 (Or.inr hsv)
            have tu2 := tyx_tup (TK.seqT (Same.tk s2) hsu)
            have tv2 := tyx_tup (TK.seqT (Same.tk s2) hsv)
            obtain ⟨H2, hH2⟩ : ∃ H2, H2 = (upd (upd H p (.tup [.ty "tuple", .ty "list"])) p2 (.tup [.ty "tuple", .ty "list"])) := ⟨_, rfl⟩
            walk_at "st"
            refine ite2 (fun e => absurd (by rw [hlu, hlv]) (ne_tr e)) (fun _ => ?_)
            have hln := hd.1
            walk_at "st"
            intro L nL
            refine lc_range (lo := 0) (n := (ws.length : Int).toNat) (fun i H' => Ok (Same H H' ∧ H' L = some (.lst []))) ⟨Same.trans s2 (Same.new nL), upd_same⟩ ?_ ?_
            · rintro i H' hi ⟨s3, hL⟩
              have hi' : i < ds.length := by omega
              obtain ⟨x, ex, hx⟩ := DpAll.get hau (List.getElem?_eq_getElem hi')
              obtain ⟨y, ey, hy⟩ := DpAll.get hav (List.getElem?_eq_getElem hi')
              have hsu3 := SqA.same s3 (Or.inr hsu)
              have hsv3 := SqA.same s3 (Or.inr hsv)
              have ax := atI_nat ex
              have ay := atI_nat ey
              rw [← Int.zero_add ((i : Nat) : Int)] at ax ay
              have hx3 := Dp.mono s3 _ _ hx
              have hy3 := Dp.mono s3 _ _ hy
              have hdi := hd.2 _ (List.getElem_mem hi')
              walk_at "st"
              intro H4 s4
              walk_at "st"
              exact ⟨Same.trans s3 s4, s4 _ _ hL⟩
            · rintro H' ⟨s3, hL⟩
              walk_at "st"
              intro M nM
              have z : PyData.eqv (.list []) (.list []) = true := rfl
              have q' := q _ (Same.trans s3 (Same.new (o := .lst []) nM))
              have hL2 : (upd H' M (.lst [])) L = some (.lst []) := Same.new nM _ _ hL
              exact ⟨.list [], .list [], .lst (SqL.of hL2) .nil, .lst (SqL.of upd_same) .nil, rfl, rfl, by rw [z]; exact q'⟩
end

/-! ### what the laws want -/
def spLaw (K : PySem.W.Frag) : Sp := fun vs H Q _ => ∃ (a : Addr) (ns : List Int), vs = [.ref a] ∧ Scr K H a ns ∧ ∀ H', Q (.bl true) H'
theorem sl41 {a b c d : V} : ¬ (HT.sIx ([a, b, c, d] : List V).length 0 (some 1) = 0 ∧ HT.sIx ([a, b, c, d] : List V).length ([a, b, c, d] : List V).length none = ([a, b, c, d] : List V).length) := by
  show ¬ (HT.sIx 4 0 (some 1) = 0 ∧ HT.sIx 4 4 none = 4)
  decide
theorem sl44 {a b c d : V} : ¬ (HT.sIx ([a, b, c, d] : List V).length 0 (some 2) = 0 ∧ HT.sIx ([a, b, c, d] : List V).length ([a, b, c, d] : List V).length none = ([a, b, c, d] : List V).length) := by
  show ¬ (HT.sIx 4 0 (some 2) = 0 ∧ HT.sIx 4 4 none = 4)
  decide
theorem eq_only {α : Sort u} {a b : α} (h : a = b) : a = b := h
local macro_rules | `(tactic| walk_at "cl") => `(tactic| first | exact sl41 | exact sl44)
local macro_rules | `(tactic| walk_at "cl") => `(tactic| first | (refine eq_only ?_; exact rfl) | assumption | exact SqT.of (by assumption) | exact SqL.of (by assumption) | exact SqT.of upd_same | exact SqL.of upd_same | exact upd_same | exact at0 | exact at1 | exact at2 | exact at3)
theorem kit_self {K : PySem.W.Frag} {v : Value} : PySem.W.kitOne K v v = some true := if_pos (beq_self_eq_true v)
theorem okD_ints (n : Nat) (ks : List Int) (h : ks.length ≤ 5000) : okD (n + 2) (.tuple (ks.map PyData.int)) := by
  refine ⟨by rw [List.length_map]; exact h, fun d hd => ?_⟩
  obtain ⟨k, _, rfl⟩ := List.mem_map.mp hd
  trivial
theorem okD_floor (n : Nat) {F : List Sq} (h : F.length ≤ 5000) : okD (n + 3) (floorD F) := by
  refine ⟨by rw [List.length_map]; exact h, fun d hd => ?_⟩
  obtain ⟨s, _, rfl⟩ := List.mem_map.mp hd
  exact okD_ints n [s.1, s.2.1, s.2.2] (by show 3 ≤ 5000; decide)
theorem okD_wk (n : Nat) (w : Wk) : okD (n + 2) (wkD w) := okD_ints n [w.1, w.2.1, w.2.2.1, w.2.2.2] (by show 4 ≤ 5000; decide)
theorem okD_step {F : List Sq} (w : Wk) (h : F.length ≤ 5000) : okD 5 (stepD F w) := by
  refine ⟨by show 2 ≤ 5000; decide, fun d hd => ?_⟩
  rcases List.mem_cons.mp hd with rfl | hd
  · exact okD_floor 1 h
  · rw [List.mem_singleton.mp hd]
    exact okD_wk 2 w
theorem okD_walk {F : List Sq} (w : Wk) (i : Nat) (h : F.length ≤ 5000) : okD 5 (walkD F w i) := by
  refine ⟨by show 3 ≤ 5000; decide, fun d hd => ?_⟩
  rcases List.mem_cons.mp hd with rfl | hd
  · exact okD_floor 1 h
  · rcases List.mem_cons.mp hd with rfl | hd
    · exact okD_wk 2 w
    · rw [List.mem_singleton.mp hd]
      trivial
theorem next_seq {t u : TS} {D : L2.Ends} {rt : VK} {bk ct : L2.St → Hp → Prop} {σ : L2.St} {H : Hp} (h : tSeq t u D σ H) : tNext { nx := tSeq t u D, rt := rt, bk := bk, ct := ct } σ H := h
theorem seq_asg_c {v : V} {i : Nat} {u : TS} {D : L2.Ends} {σ : L2.St} {H : Hp} (h : u D (σ.set i (some v)) H) : tSeq (tAsg (tC v) (gName i)) u D σ H := h
theorem gname_seq {i : Nat} {v : V} {t u : TS} {D : L2.Ends} {rt : VK} {bk ct : L2.St → Hp → Prop} {σ : L2.St} {H : Hp} (h : tSeq t u D (σ.set i (some v)) H) : gName i v σ H ({ nx := tSeq t u D, rt := rt, bk := bk, ct := ct } : L2.Ends).nx := h
theorem asg_c {v : V} {i : Nat} {D : L2.Ends} {σ : L2.St} {H : Hp} (h : D.nx (σ.set i (some v)) H) : tAsg (tC v) (gName i) D σ H := h
theorem gname_of {i : Nat} {v : V} {σ : L2.St} {H : Hp} {k : L2.St → Hp → Prop} (h : k (σ.set i (some v)) H) : gName i v σ H k := h
/-- what stands behind a statement, told once for all its ways out -/
theorem seq_cut {t u : TS} {D : L2.Ends} {σ : L2.St} {H : Hp} (Pm : L2.St → Hp → Prop) (h2 : ∀ σ H, Pm σ H → u D σ H) (h1 : (∀ σ H, Pm σ H → u D σ H) → t { D with nx := u D } σ H) : tSeq t u D σ H := h1 h2
theorem flat_ints (n : Nat) (ks : List Int) : flatT (n + 2) (.tuple (ks.map PyData.int)) := fun d hd => by
  obtain ⟨k, _, rfl⟩ := List.mem_map.mp hd
  trivial
theorem flat_floor (n : Nat) (F : List Sq) : flatT (n + 3) (floorD F) := fun d hd => by
  obtain ⟨s, _, rfl⟩ := List.mem_map.mp hd
  exact flat_ints n [s.1, s.2.1, s.2.2]
theorem flat_wk (n : Nat) (w : Wk) : flatT (n + 2) (wkD w) := flat_ints n [w.1, w.2.1, w.2.2.1, w.2.2.2]
theorem flat_step (F : List Sq) (w : Wk) : flatT 5 (stepD F w) := fun d hd => by
  rcases List.mem_cons.mp hd with rfl | hd
  · exact flat_floor 1 F
  · rw [List.mem_singleton.mp hd]
    exact flat_wk 2 w
theorem ne_same {K : PySem.W.Frag} {H : Hp} {x y : V} {d : PyData} {n : Nat} {Q : VK} (h1 : Tp K H x d) (h2 : Tp K H y d) (f : flatT n d) (l : n ≤ 64) (q : Q (.bl false) H) : rNeD K x y H Q := by
  obtain ⟨s, e⟩ := f.shp l
  exact ⟨d, d, Tp.dp _ _ h1, Tp.dp _ _ h2, s, s, by rw [e]; exact q⟩
theorem eq_same {K : PySem.W.Frag} {H : Hp} {x y : V} {d : PyData} {n : Nat} {Q : VK} (h1 : Tp K H x d) (h2 : Tp K H y d) (f : flatT n d) (l : n ≤ 64) (q : Q (.bl true) H) : rEqD K x y H Q := by
  obtain ⟨s, e⟩ := f.shp l
  exact ⟨d, d, Tp.dp _ _ h1, Tp.dp _ _ h2, s, s, by rw [e]; exact q⟩
theorem Tp.walkI {K : PySem.W.Frag} {H : Hp} {v : V} {F : List Sq} {w : Wk} {i : Nat} (h : Tp K H v (walkD F w i)) : ∃ a x y, v = .ref a ∧ SqT K H a [x, y, .int i] ∧ Tp K H x (floorD F) ∧ Tp K H y (wkD w) := by
  obtain ⟨a, xs, rfl, hs, h⟩ := h.tupI
  obtain ⟨x, xs, rfl, h1, h⟩ := h.consI
  obtain ⟨y, xs, rfl, h2, h⟩ := h.consI
  obtain ⟨z, xs, rfl, h3, h⟩ := h.consI
  obtain rfl := h.nilI
  obtain rfl := h3.intI
  exact ⟨a, x, y, rfl, hs, h1, h2⟩
theorem stepTp {K : PySem.W.Frag} {H : Hp} {p : Addr} {x y : V} {F : List Sq} {w : Wk} (h : SqT K H p [x, y]) (h1 : Tp K H x (floorD F)) (h2 : Tp K H y (wkD w)) : Tp K H (.ref p) (stepD F w) := .tup h (.cons h1 (.cons h2 .nil))
theorem k_sl_tupA {K : PySem.W.Frag} {X : Cx} (hK : X.K = K := by rfl) : SlR X (rSlA K) := hK ▸ sl_tupA
/-- t[:1] -/
def rSl1 (K : PySem.W.Frag) : V → Option Int → Option Int → Hp → VK → Prop := fun x lo hi H Q => ∃ a u ur, x = .ref a ∧ lo = none ∧ hi = some 1 ∧ SqT K H a (u :: ur) ∧ ∀ p H', Same H H' → SqT K H' p [u] → Q (.ref p) H'
theorem rSl1_A {K : PySem.W.Frag} {x : V} {lo hi : Option Int} {H : Hp} {Q : VK} (h : rSl1 K x lo hi H Q) : rSlA K x lo hi H Q := by
  obtain ⟨a, u, ur, rfl, rfl, rfl, hs, q⟩ := h
  have l : (u :: ur).length = ur.length + 1 := rfl
  have e : HT.sIx (u :: ur).length (u :: ur).length (some ((1 : Nat) : Int)) = 1 := by rw [HT.sIx_nat, l]; omega
  refine ⟨a, u :: ur, rfl, hs, fun hw => ?_, fun _ p np => ?_⟩
  · have e2 : HT.sIx (u :: ur).length (u :: ur).length (some ((1 : Nat) : Int)) = (u :: ur).length := hw.2
    have e3 : ur = [] := List.eq_nil_of_length_eq_zero (by omega)
    subst e3
    exact q a H (Same.refl H) hs
  · have e4 : cutV (u :: ur) none (some 1) = [u] := by
      show ((u :: ur).drop 0).take (HT.sIx (u :: ur).length (u :: ur).length (some ((1 : Nat) : Int)) - 0) = [u]
      rw [e]
      rfl
    rw [e4]
    exact q p _ (Same.new np) (SqT.of upd_same)
theorem k_sl_one {K : PySem.W.Frag} {X : Cx} (hK : X.K = K := by rfl) : SlR X (rSl1 K) := by
  subst hK
  intro pins s σ H x v vl vu lo hi sl Q I rx hs pl pu h
  exact sl_tupA pins s σ H x v vl vu lo hi sl Q I rx hs pl pu (rSl1_A h)

/-! ### the law -/
theorem shp_ll (ts : List (List Int)) : SeqAt.shaped (.list (ts.map fun t => .list (t.map PyData.int))) = true := by
  have one : ∀ t : List Int, PyData.canLay0 (.list (t.map PyData.int)) = true ∧ PyData.depth (.list (t.map PyData.int)) ≤ 2 := fun t => by
    have a : PyData.canLayAll0 (t.map PyData.int) = true := layAll fun d hd => by
      obtain ⟨k, _, rfl⟩ := List.mem_map.mp hd
      simp [PyData.canLay0]
    have b : PyData.depthAll (t.map PyData.int) ≤ 1 := depAll fun d hd => by
      obtain ⟨k, _, rfl⟩ := List.mem_map.mp hd
      simp [PyData.depth]
    refine ⟨by simp only [PyData.canLay0]; exact a, by simp only [PyData.depth]; omega⟩
  have a : PyData.canLayAll0 (ts.map fun t => .list (t.map PyData.int)) = true := layAll fun d hd => by
    obtain ⟨t, _, rfl⟩ := List.mem_map.mp hd
    exact (one t).1
  have b : PyData.depthAll (ts.map fun t => .list (t.map PyData.int)) ≤ 2 := depAll fun d hd => by
    obtain ⟨t, _, rfl⟩ := List.mem_map.mp hd
    exact (one t).2
  unfold SeqAt.shaped
  rw [Bool.and_eq_true, decide_eq_true_eq]
  refine ⟨by simp only [PyData.canLay0]; exact a, by simp only [PyData.depth]; omega⟩
theorem eqv_ints : ∀ (l m : List Int), PyData.eqvAll (l.map PyData.int) (m.map PyData.int) = decide (l = m)
  | [], [] => by simp [PyData.eqvAll]
  | [], _ :: _ => by simp [PyData.eqvAll]
  | _ :: _, [] => by simp [PyData.eqvAll]
  | a :: l, b :: m => by
    have ih := eqv_ints l m
    simp only [List.map_cons, PyData.eqvAll, ih]
    by_cases e : a = b
    · subst e
      simp [PyData.eqv]
    · simp [PyData.eqv, e]
theorem eqv_lint (l m : List Int) : PyData.eqv (.list (l.map PyData.int)) (.list (m.map PyData.int)) = decide (l = m) := by
  rw [← eqv_ints]
  simp [PyData.eqv]
theorem eqv_nil (ds : List PyData) : PyData.eqv (.list ds) (.list []) = decide (ds = []) := by
  cases ds <;> simp [PyData.eqv, PyData.eqvAll]
/-- lists of ints at places -/
def LsAt (H : Hp) : List Addr → List (List Int) → Prop := Paired fun b t => H b = some (.lst (t.map V.int))
theorem LsAt.same {H H' : Hp} (s : Same H H') {bs : List Addr} {ts : List (List Int)} (h : LsAt H bs ts) : LsAt H' bs ts := Paired.mapP h fun _ _ e => s _ _ e
theorem LsAt.put {H : Hp} {D : Addr} {o : HO} : ∀ {bs : List Addr} {ts : List (List Int)}, LsAt H bs ts → (∀ b ∈ bs, b ≠ D) → LsAt (upd H D o) bs ts
  | _, _, .nil, _ => .nil
  | _, _, .cons e t, n => .cons (by rw [upd_ne (n _ List.mem_cons_self)]; exact e) (LsAt.put t fun b hb => n b (List.mem_cons_of_mem _ hb))
theorem LsAt.get {H : Hp} : ∀ {bs : List Addr} {ts : List (List Int)} {k : Nat} {t : List Int}, LsAt H bs ts → ts[k]? = some t → ∃ b, bs[k]? = some b ∧ H b = some (.lst (t.map V.int))
  | _, _, _, _, .nil, e => by simp at e
  | _, _, 0, _, .cons h r, e => by
    have e := Option.some.inj e
    subst e
    exact ⟨_, rfl, h⟩
  | _, _, k + 1, _, .cons h r, e => LsAt.get (k := k) r e
theorem LsAt.dp {K : PySem.W.Frag} {H : Hp} : ∀ {bs : List Addr} {ts : List (List Int)}, LsAt H bs ts → DpAll K H (bs.map V.ref) (ts.map fun t => .list (t.map PyData.int))
  | _, _, .nil => .nil
  | _, _, .cons h r => .cons (.lst (SqL.of h) (dp_ints _)) (LsAt.dp r)
def tsOf (L : List Pt) (R : List Nat) : List Int := if bothB L R = true then [1, 3] else if (1 : Int) ∈ R.map (tuOf L) then [1] else [3]
theorem lt_uniq {l l' : List Int} (h : l.Pairwise (· < ·)) (h' : l'.Pairwise (· < ·)) (m : ∀ k, k ∈ l ↔ k ∈ l') : l = l' := by
  have nd : l.Nodup := h.imp fun {a b} e => by omega
  have nd' : l'.Nodup := h'.imp fun {a b} e => by omega
  refine ((List.perm_ext_iff_of_nodup nd nd').mpr m).eq_of_pairwise (le := (· ≤ ·)) (fun a b _ _ h1 h2 => by omega) (h.imp fun {a b} e => by omega) (h'.imp fun {a b} e => by omega)
theorem ts_sorted {L : List Pt} (hL : TurnL L) {R : List Nat} (ne : R ≠ []) (lt : ∀ k ∈ R, k < L.length) {ns : List Int} (so : ns.Pairwise (· < ·)) (m : ∀ k, k ∈ ns ↔ k ∈ R.map (tuOf L)) : ns = tsOf L R := by
  have t13 : ∀ x ∈ R.map (tuOf L), x = 1 ∨ x = 3 := fun x hx => by
    obtain ⟨k, hk, rfl⟩ := List.mem_map.mp hx
    exact hL.tu13 (lt k hk)
  have e0 : ∃ x, x ∈ R.map (tuOf L) := by
    cases R with
    | nil => exact absurd rfl ne
    | cons a r => exact ⟨_, List.mem_cons_self⟩
  unfold tsOf
  by_cases b : bothB L R = true
  · rw [if_pos b]
    unfold bothB at b
    rw [Bool.and_eq_true, decide_eq_true_eq, decide_eq_true_eq] at b
    refine lt_uniq so (by decide) fun k => ?_
    rw [m]
    constructor
    · intro h
      rcases t13 k h with rfl | rfl <;> simp
    · intro h
      simp only [List.mem_cons, List.not_mem_nil, or_false] at h
      rcases h with rfl | rfl
      · exact b.1
      · exact b.2
  · rw [if_neg b]
    unfold bothB at b
    rw [Bool.and_eq_true, decide_eq_true_eq, decide_eq_true_eq] at b
    by_cases h1 : (1 : Int) ∈ R.map (tuOf L)
    · rw [if_pos h1]
      refine lt_uniq so (by decide) fun k => ?_
      rw [m, List.mem_singleton]
      constructor
      · intro h
        rcases t13 k h with e | e
        · exact e
        · subst e
          exact absurd ⟨h1, h⟩ b
      · intro e
        rw [e]
        exact h1
    · rw [if_neg h1]
      refine lt_uniq so (by decide) fun k => ?_
      rw [m, List.mem_singleton]
      constructor
      · intro h
        rcases t13 k h with e | e
        · subst e
          exact absurd h h1
        · exact e
      · intro e
        obtain ⟨x, hx⟩ := e0
        rcases t13 x hx with z | z
        · subst z
          exact absurd hx h1
        · rw [e, ← z]
          exact hx
local macro_rules | `(tactic| walk_at "cl") => `(tactic| first | (refine le_only ?_; omega) | (refine lt_only ?_; omega))
/-- every round turns both ways exactly if no turns are unlike [1, 3] -/
theorem good_ts (L : List Pt) (Rs : List (List Nat)) : decide (((Rs.map (tsOf L)).filter fun t => !decide (t = [1, 3])) = []) = Rs.all (bothB L) := by
  have one : ∀ R, tsOf L R = [1, 3] ↔ bothB L R = true := fun R => by
    unfold tsOf
    by_cases b : bothB L R = true
    · rw [if_pos b]
      exact ⟨fun _ => b, fun _ => rfl⟩
    · rw [if_neg b]
      split
      · exact ⟨fun z => by simp at z, fun z => absurd z b⟩
      · exact ⟨fun z => by simp at z, fun z => absurd z b⟩
  rw [Bool.eq_iff_iff, decide_eq_true_eq, List.filter_eq_nil_iff, List.all_eq_true]
  constructor
  · intro h R hR
    have z := h _ (List.mem_map.mpr ⟨R, hR, rfl⟩)
    rw [Bool.not_eq_true, Bool.not_eq_false', decide_eq_true_eq] at z
    exact (one R).mp z
  · intro h t ht
    obtain ⟨R, hR, rfl⟩ := List.mem_map.mp ht
    rw [Bool.not_eq_true, Bool.not_eq_false', decide_eq_true_eq]
    exact (one R).mpr (h R hR)
theorem sqF_tp1 {K : PySem.W.Frag} {H : Hp} {v : V} {c : Int} (h : c ≠ 0) (t : Tp K H v (.tuple [.tuple [.int 0, .int 0, .int c], .tuple [.int 0, .int 1, .int c], .tuple [.int 1, .int 0, .int c], .tuple [.int 1, .int 1, .int c]])) : Tp K H v (floorD (sqF c)) := by
  unfold sqF
  rw [if_neg h]
  exact t
theorem sqF_tp0 {K : PySem.W.Frag} {H : Hp} {v : V} {c : Int} (h : c = 0) (t : Tp K H v (.tuple [])) : Tp K H v (floorD (sqF c)) := by
  unfold sqF
  rw [if_pos h]
  exact t
/-- the box so far: whole columns, and the first squares of the next -/
def boxTo (hg : Nat) (i j : Nat) (p : Pt) : Prop := (0 ≤ p.1 ∧ p.1 < (i : Int) ∧ 0 ≤ p.2 ∧ p.2 < (hg : Int)) ∨ (p.1 = (i : Int) ∧ 0 ≤ p.2 ∧ p.2 < (j : Int))
structure CellsTo (c hg i j : Nat) (m : CM) : Prop where
  nd : (m.map (·.1)).Nodup
  mem : ∀ p, p ∈ m.map (·.1) ↔ boxTo hg i j p
  val : ∀ e ∈ m, 0 ≤ e.2 ∧ e.2 < c
  len : m.length = i * hg + j
theorem CellsTo.more {c hg i j : Nat} {m : CM} (h : CellsTo c hg i j m) {v : Int} (v0 : 0 ≤ v) (v1 : v < c) : CellsTo c hg i (j + 1) (putM m ((i : Int), (j : Int)) v) := by
  have no : (((i : Int), (j : Int)) : Pt) ∉ m.map (·.1) := fun z => by
    have q := (h.mem _).mp z
    unfold boxTo at q
    rcases q with q | q
    · have := q.2.1
      dsimp only at this
      omega
    · have := q.2.2
      dsimp only at this
      omega
  refine ⟨nd_put _ _ h.nd, fun p => ?_, fun e he => ?_, ?_⟩
  · rw [put_fresh v no, List.map_append, List.mem_append, h.mem]
    unfold boxTo
    show _ ∨ p ∈ [((i : Int), (j : Int))] ↔ _
    rw [List.mem_singleton]
    constructor
    · rintro ((q | q) | q)
      · exact .inl q
      · exact .inr ⟨q.1, q.2.1, by have := q.2.2; omega⟩
      · rw [q]
        exact .inr ⟨rfl, by dsimp only; omega, by dsimp only; omega⟩
    · rintro (q | q)
      · exact .inl (.inl q)
      · by_cases z : p.2 = (j : Int)
        · exact .inr (Prod.ext q.1 z)
        · exact .inl (.inr ⟨q.1, q.2.1, by have := q.2.2; omega⟩)
  · rcases put_mem2 he with z | z
    · exact h.val e z
    · rw [z]
      exact ⟨v0, v1⟩
  · rw [put_fresh v no, List.length_append, h.len]
    show i * hg + j + 1 = _
    omega
theorem CellsTo.next {c hg i : Nat} {m : CM} (h : CellsTo c hg i hg m) : CellsTo c hg (i + 1) 0 m := by
  refine ⟨h.nd, fun p => ?_, h.val, by rw [h.len, Nat.succ_mul]; rfl⟩
  rw [h.mem]
  unfold boxTo
  constructor
  · rintro (q | q)
    · exact .inl ⟨q.1, by have := q.2.1; omega, q.2.2⟩
    · exact .inl ⟨by rw [q.1]; omega, by rw [q.1]; omega, q.2⟩
  · rintro (q | q)
    · by_cases z : p.1 = (i : Int)
      · exact .inr ⟨z, q.2.2⟩
      · exact .inl ⟨q.1, by have := q.2.1; omega, q.2.2⟩
    · have := q.2
      omega
theorem CellsTo.box {c hg wd : Nat} {m : CM} (h : CellsTo c hg wd 0 m) : ∀ p, p ∈ m.map (·.1) ↔ inBox wd hg p := fun p => by
  rw [h.mem]
  unfold boxTo inBox
  constructor
  · rintro (q | q)
    · exact ⟨⟨q.1, q.2.1⟩, q.2.2⟩
    · have := q.2
      omega
  · intro q
    exact .inl ⟨q.1.1, q.1.2, q.2⟩
theorem CellsTo.fit {c hg wd : Nat} {m : CM} (h : CellsTo c hg wd 0 m) (c1 : 1 ≤ c) (w3 : wd ≤ 3) (h3 : hg ≤ 3) {w : Wk} (hw : inBox wd hg (wPt w)) (hd : 0 ≤ w.2.2.1 ∧ w.2.2.1 < 4) (hs : w.2.2.2 = 0) : Fit c 1 5 (col m, w) := by
  have at_ : ∀ p, col m p = 0 ∨ ∃ e ∈ m, e.1 = p ∧ e.2 = col m p := fun p => by
    unfold col
    cases q : look m p with
    | none => exact .inl rfl
    | some k => exact .inr ⟨(p, k), look_mem q, rfl, rfl⟩
  have a1 := hw.1
  have a2 := hw.2
  unfold wPt at a1 a2
  dsimp only at a1 a2
  refine ⟨fun p => ?_, fun p hp => ?_, ⟨⟨?_, ?_⟩, ?_, ?_⟩, hd, ?_, ?_⟩
  · show 0 ≤ col m p ∧ col m p < c
    rcases at_ p with z | ⟨e, he, _, e2⟩
    · rw [z]
      omega
    · have := h.val e he
      omega
  · rcases at_ p with z | ⟨e, he, e1, _⟩
    · exact absurd z hp
    · have := (h.box p).mp (List.mem_map.mpr ⟨e, he, e1⟩)
      unfold inBox at this
      unfold InB
      omega
  · show -5 ≤ w.1
    omega
  · show w.1 ≤ 5
    omega
  · show -5 ≤ w.2.1
    omega
  · show w.2.1 ≤ 5
    omega
  · show 0 ≤ w.2.2.2
    omega
  · show w.2.2.2 < 1
    omega
section
variable {P : Program} {w : World} {K : PySem.W.Frag} {mg : Str → Option Value} {base : Heap}
set_option maxHeartbeats 0 in
theorem ok_law {f : Addr} {fd : FuncData} (T : Txt K mg) (F : Fun K "law" "law" s_law f fd) (C_law_turning_table : Cal P w K mg base CX0 "_law_turning_table" 3 ["row"] (spTurnT K)) (C_law_taken : Cal P w K mg base CX0 "_law_taken" 1 ["row", "many"] (spTaken K)) (C_law_pick : Cal P w K mg base CX0 "_law_pick" 2 ["row", "things"] (spPick K)) (C_law_alike : Cal P w K mg base CX0 "_law_alike" 6 ["found", "due"] (spAlike K 5)) (C_colour_rounds : Cal P w K mg base CX0 "colour_rounds" 6 ["table"] (spCR K)) (C_never_bounded : Cal P w K mg base CX0 "never_bounded" 6 ["table"] (spNever K)) (C_bound_stand : Cal P w K mg base CX0 "bound_stand" 6 ["table"] (spBound K)) (C_shows_paper : Cal P w K mg base CX0 "shows_paper" 6 ["table", "floor", "walker", "value"] (spShowsNS K)) (C_law_leaves : Cal P w K mg base CX0 "_law_leaves" 3 ["table", "cells", "walker", "wide", "high"] (spLeaves K)) : FnOk P w K mg base CX0 7 f fd ["script"] (spLaw K) := by
  refine F.ok sc_law (fun vs H Q E h => ?_) (fun cdv A outer s H vs Q E hr h => ?_)
  · obtain ⟨a, ns, rfl, _⟩ := h
    rfl
  · obtain ⟨a, ns, rfl, hS, q⟩ := h
    refine ⟨_, (pss_cons (ps_set (i := 1) sc_law.nd rfl (Or.inl rfl) (pe_lst (pa_cons (pv 0) (pa_cons pe_int (pa_cons pe_int (pa_cons pe_int pa_nil))))))
      (pss_cons (ps_set (i := 2) sc_law.nd rfl (Or.inr rfl) (pe_own C_law_turning_table hr (by first | decide | omega) (pa_cons (pv 1) pa_nil)))
      (pss_cons (ps_par (i := 3) (j := 4) (by rfl) sc_law.nd rfl rfl (by decide) rfl rfl (pa_cons (pe_lst pa_nil) (pa_cons (pe_lst pa_nil) pa_nil)) (by rfl))
      (pss_cons (ps_for PassesOwn.never rfl (pi_range1 (by rfl) T.m_range (pa_cons (pe_callB (k_len_t (K := K)) (by rfl) T.m_len (by decide +kernel) (pa_cons (pe_ix (k_ix_tup (K := K)) (pv 2) pe_int (fun _ _ => rfl)) pa_nil)) pa_nil)) (pg_name (i := 5) sc_law.nd rfl (Or.inl rfl))
      (pss_one (ps_if (pt_cmpR (k_notInF (K := K)) (pv 5) (pv 4) (by rfl)) (pss_cons (ps_par (i := 6) (j := 7) (by rfl) sc_law.nd rfl rfl (by decide) rfl rfl (pa_cons (pe_lst pa_nil) (pa_cons (pv 5) pa_nil)) (by rfl))
      (pss_cons (ps_while PassesOwn.never (pt_cmpR (k_notInF (K := K)) (pv 7) (pv 6) (by rfl)) (pss_cons (ps_expr (pe_bm PySem.F.plainAttrs_list PySem.F.slot_list_append PySem.F.type_list_append mt_append (pv 6) (pa_cons (pv 7) pa_nil)))
      (pss_one (ps_set (i := 7) sc_law.nd rfl (Or.inl rfl) (pe_ix (k_ix_tup (K := K)) (pe_ix (k_ix_tup (K := K)) (pe_ix (k_ix_tup (K := K)) (pv 2) pe_int (fun _ _ => rfl)) (pv 7) (fun _ _ => rfl)) pe_int (fun _ _ => rfl))))))
      (pss_cons (ps_expr (pe_bm PySem.F.plainAttrs_list PySem.F.slot_list_append PySem.F.type_list_append mt_append (pv 3) (pa_cons (pe_callTy (k_tuple_l (K := K)) (by rfl) T.m_tuple (by decide +kernel) (pa_cons (pv 6) pa_nil)) pa_nil)))
      (pss_one (ps_set (i := 4) sc_law.nd rfl (Or.inl rfl) (pe_op op_cat (pv 4) (pv 6))))))) pss_nil)))
      (pss_cons (ps_set (i := 8) sc_law.nd rfl (Or.inr rfl) (pe_lc (own := [("line", 6)]) (g := gName 6) rfl sc_law.nd (k_pi_list (K := K) (pv 3)) (blkOk_by (by rfl)) (fun _ _ _ _ _ => (pg_name (i := 6) sc_law.nd rfl (Or.inl rfl))) (fun _ _ _ _ _ => pts_nil) (fun _ _ _ _ _ => (pe_callB (k_sortedSet (w := w) rfl) (by rfl) T.m_sorted (by decide +kernel) (pa_cons (pe_callTy (k_setI (K := K) (w := w) rfl) (by rfl) T.m_set (by decide +kernel) (pa_cons (pe_lc (own := [("colour", 5)]) (g := gName 5) rfl sc_law.nd (k_pi_tup (K := K) (pv 6)) (blkOk_by (by rfl)) (fun _ _ _ _ _ => (pg_name (i := 5) sc_law.nd rfl (Or.inl rfl))) (fun _ _ _ _ _ => pts_nil) (fun _ _ _ _ _ => (pe_ix (k_ix_tup (K := K)) (pe_ix (k_ix_tup (K := K)) (pe_ix (k_ix_tup (K := K)) (pv 2) pe_int (fun _ _ => rfl)) (pv 5) (fun _ _ => rfl)) pe_int (fun _ _ => rfl)))) pa_nil)) pa_nil)))))
      (pss_cons (ps_set (i := 9) sc_law.nd rfl (Or.inl rfl) (pe_cmpR (k_eqD (K := K) hr.units) (pe_lc (own := [("line", 6)]) (g := gName 6) rfl sc_law.nd (k_pi_list (K := K) (pv 8)) (blkOk_by (by rfl)) (fun _ _ _ _ _ => (pg_name (i := 6) sc_law.nd rfl (Or.inl rfl))) (fun _ _ _ _ _ => pts_one (pt_cmpR (k_neD (K := K) hr.units) (pv 6) (pe_lst (pa_cons pe_int (pa_cons pe_int pa_nil))) (nomark _))) (fun _ _ _ _ _ => (pv 6))) (pe_lst pa_nil) (nomark _)))
      (pss_cons (ps_if (pt_not (pt_val (pe_own C_law_alike hr (by first | decide | omega) (pa_cons (pe_lst (pa_cons (pe_own C_colour_rounds hr (by first | decide | omega) (pa_cons (pv 2) pa_nil)) (pa_cons (pe_own C_never_bounded hr (by first | decide | omega) (pa_cons (pv 2) pa_nil)) pa_nil))) (pa_cons (pe_lst (pa_cons (pe_callTy (k_tuple_l (K := K)) (by rfl) T.m_tuple (by decide +kernel) (pa_cons (pv 3) pa_nil)) (pa_cons (pv 9) pa_nil))) pa_nil))))) (pss_one (ps_ret pe_bl)) pss_nil)
      (pss_cons (ps_set (i := 10) sc_law.nd rfl (Or.inl rfl) (pe_own C_bound_stand hr (by first | decide | omega) (pa_cons (pv 2) pa_nil)))
      (pss_cons (ps_if (pt_cmpR op_ne (pe_cmpR op_isN (pv 10) pe_non (nomark _)) (pv 9) (nomark _)) (pss_one (ps_ret pe_bl)) pss_nil)
      (pss_cons (ps_if (pt_not (pt_truth (pv 9) (by intro _; rfl))) (pss_cons (ps_set (i := 6) sc_law.nd rfl (Or.inl rfl) (pe_ix (k_ix_list (K := K)) (pe_lc (own := [("k", 19)]) (g := gName 19) rfl sc_law.nd (pi_range1 (by rfl) T.m_range (pa_cons (pe_callB (k_len_l (K := K)) (by rfl) T.m_len (by decide +kernel) (pa_cons (pv 8) pa_nil)) pa_nil)) (blkOk_by (by rfl)) (fun _ _ _ _ _ => (pg_name (i := 19) sc_law.nd rfl (Or.inl rfl))) (fun _ _ _ _ _ => pts_one (pt_cmpR op_eq (pe_callB (k_len_l (K := K)) (by rfl) T.m_len (by decide +kernel) (pa_cons (pe_ix (k_ix_list (K := K)) (pv 8) (pv 19) (fun _ _ => rfl)) pa_nil)) pe_int (nomark _))) (fun _ _ _ _ _ => (pv 19))) pe_int (fun _ _ => rfl)))
      (pss_cons (ps_par (i := 5) (j := 11) (by rfl) sc_law.nd rfl rfl (by decide) rfl rfl (pa_cons (pe_ix (k_ix_tup (K := K)) (pe_ix (k_ix_list (K := K)) (pv 3) (pv 6) (fun _ _ => rfl)) pe_int (fun _ _ => rfl)) (pa_cons (pe_ix (k_ix_list (K := K)) (pe_ix (k_ix_list (K := K)) (pv 8) (pv 6) (fun _ _ => rfl)) pe_int (fun _ _ => rfl)) pa_nil)) (by rfl))
      (pss_cons (ps_set (i := 12) sc_law.nd rfl (Or.inl rfl) (pe_ifExp (pt_cmpR op_gt (pv 5) pe_int (nomark _)) (pe_tup (pa_cons (pe_tup (pa_cons pe_int (pa_cons pe_int (pa_cons (pv 5) pa_nil)))) (pa_cons (pe_tup (pa_cons pe_int (pa_cons pe_int (pa_cons (pv 5) pa_nil)))) (pa_cons (pe_tup (pa_cons pe_int (pa_cons pe_int (pa_cons (pv 5) pa_nil)))) (pa_cons (pe_tup (pa_cons pe_int (pa_cons pe_int (pa_cons (pv 5) pa_nil)))) pa_nil))))) (pe_tup pa_nil)))
      (pss_cons (ps_if (pt_not (pt_val (pe_own C_law_alike hr (by first | decide | omega) (pa_cons (pv 10) (pa_cons (pe_tup (pa_cons (pv 12) (pa_cons (pe_tup (pa_cons pe_int (pa_cons pe_int (pa_cons (pe_ifExp (pt_cmpR op_eq (pv 11) pe_int (nomark _)) pe_int pe_int) (pa_cons pe_int pa_nil))))) pa_nil))) pa_nil))))) (pss_one (ps_ret pe_bl)) pss_nil)
      (pss_one (ps_ret (pe_cmpR op_isBl (pe_own C_shows_paper hr (by first | decide | omega) (pa_cons (pv 2) (pa_cons (pe_ix (k_ix_tup (K := K)) (pv 10) pe_int (fun _ _ => rfl)) (pa_cons (pe_ix (k_ix_tup (K := K)) (pv 10) pe_int (fun _ _ => rfl)) (pa_cons (pe_tup (pa_cons pe_str (pa_cons pe_int (pa_cons (pe_op op_mul pe_int (pe_callB (k_len_t (K := K)) (by rfl) T.m_len (by decide +kernel) (pa_cons (pe_ix (k_ix_list (K := K)) (pv 3) (pv 6) (fun _ _ => rfl)) pa_nil))) pa_nil)))) pa_nil))))) pe_bl (nomark _)))))))) pss_nil)
      (pss_cons (ps_asg (pe_own C_law_pick hr (by first | decide | omega) (pa_cons (pv 1) (pa_cons (pe_lst (pa_cons (pe_tup (pa_cons pe_int (pa_cons pe_int pa_nil))) (pa_cons (pe_tup (pa_cons pe_int (pa_cons pe_int pa_nil))) (pa_cons (pe_tup (pa_cons pe_int (pa_cons pe_int pa_nil))) (pa_cons (pe_tup (pa_cons pe_int (pa_cons pe_int pa_nil))) pa_nil))))) pa_nil))) (pg_tup (by rfl) (pgs_cons (pg_name (i := 13) sc_law.nd rfl (Or.inl rfl)) (pgs_cons (pg_name (i := 14) sc_law.nd rfl (Or.inl rfl)) pgs_nil))))
      (pss_cons (ps_set (i := 15) sc_law.nd rfl (Or.inl rfl) pe_dnewT)
      (pss_cons (ps_for PassesOwn.never rfl (pi_range1 (by rfl) T.m_range (pa_cons (pv 13) pa_nil)) (pg_name (i := 16) sc_law.nd rfl (Or.inl rfl))
      (pss_one (ps_for PassesOwn.never rfl (pi_range1 (by rfl) T.m_range (pa_cons (pv 14) pa_nil)) (pg_name (i := 17) sc_law.nd rfl (Or.inl rfl))
      (pss_one (ps_dput (hu_of hr) (pv 15) (pe_tup (pa_cons (pv 16) (pa_cons (pv 17) pa_nil))) (pe_own C_law_taken hr (by first | decide | omega) (pa_cons (pv 1) (pa_cons (pe_callB (k_len_t (K := K)) (by rfl) T.m_len (by decide +kernel) (pa_cons (pe_ix (k_ix_tup (K := K)) (pv 2) pe_int (fun _ _ => rfl)) pa_nil)) pa_nil))) (by rfl))))))
      (pss_cons (ps_set (i := 18) sc_law.nd rfl (Or.inl rfl) (pe_tup (pa_cons (pe_own C_law_taken hr (by first | decide | omega) (pa_cons (pv 1) (pa_cons (pv 13) pa_nil))) (pa_cons (pe_own C_law_taken hr (by first | decide | omega) (pa_cons (pv 1) (pa_cons (pv 14) pa_nil))) (pa_cons (pe_own C_law_taken hr (by first | decide | omega) (pa_cons (pv 1) (pa_cons pe_int pa_nil))) (pa_cons pe_int pa_nil))))))
      (pss_one (ps_ret (pe_or (pe_and (pe_cmpR op_gt (pe_op op_mul (pv 13) (pv 14)) pe_int (nomark _)) (pe_one (pe_cmpR op_gt (pe_callB (k_len_t (K := K)) (by rfl) T.m_len (by decide +kernel) (pa_cons (pe_ix (k_ix_tup (K := K)) (pv 2) pe_int (fun _ _ => rfl)) pa_nil)) pe_int (nomark _)))) (pe_one (pe_own C_law_leaves hr (by first | decide | omega) (pa_cons (pv 2) (pa_cons (pv 15) (pa_cons (pv 18) (pa_cons (pv 13) (pa_cons (pv 14) pa_nil)))))))))))))))))))))))), ?_⟩
    walk_at "st"
    intro r nr
    have R0 : Row K (upd H r (.lst [.ref a, .int 0, .int 11108, .int 0])) r := ⟨a, ns, 0, 11108, 0, upd_same, hS.mono (TK.new nr), by decide, by decide, by decide, by decide⟩
    walk_at "st"
    intro tv H1 c L c2 c5 lL tuL pmL ht R1 k1
    have hL : TurnL L := ⟨by omega, by omega, tuL, by rw [lL]; exact pmL⟩
    walk_at "st"
    intro rs nrs
    have s2 : Same H1 (upd H1 rs (.lst [])) := Same.new nrs
    walk_at "st"
    intro sn nsn
    have s3 : Same H1 (upd (upd H1 rs (.lst [])) sn (.lst [])) := Same.trans s2 (Same.new nsn)
    have nrsn : rs ≠ sn := ne_of_none upd_same nsn
    have nsn1 : H1 sn = none := Same.back s2 nsn
    have hr3 : (upd (upd H1 rs (.lst [])) sn (.lst [])) rs = some (.lst []) := by rw [upd_ne nrsn]; exact upd_same
    have hs3 : (upd (upd H1 rs (.lst [])) sn (.lst [])) sn = some (.lst (nV [])) := upd_same
    have ht3 := Tp.mono (Same.tk s3) _ _ ht
    have R3 := R1.same s3
    generalize hH3 : upd (upd H1 rs (.lst [])) sn (.lst []) = H3 at *
    obtain ⟨ta, tb, ws, rfl, hta, htb, lw, hws⟩ := tab1 ht3
    have l6 := hL.l6
    walk_at "st"
    refine for_range (lo := 0) (n := ((ws.length : Nat) : Int).toNat) (fun i σ H' => Ok (∃ (y5 y6 y7 : Option V) (us : List V) (Rs : List (List Nat)) (sa : Addr), σ = [some (.ref a), some (.ref r), some (.ref ta), some (.ref rs), some (.ref sa), y5, y6, y7, none, none, none, none, none, none, none, none, none, none, none, none] ∧
      H' rs = some (.lst us) ∧ TpAll K H' us (Rs.map rnD) ∧ H' sa = some (.lst (nV Rs.flatten)) ∧ H1 sa = none ∧ rs ≠ sa ∧ Rnd L i Rs ∧ Same H1 H' ∧ TK H3 H')) ?_ ?_ ?_
    · exact ⟨_, _, _, [], [], sn, rfl, hr3, .nil, hs3, nsn1, nrsn, .nil, s3, TK.refl _⟩
    · rintro i σ H4 hi ⟨y5, y6, y7, us, Rs, sa, rfl, hr4, hus, hs4, nsa, nra, hRn, s4, t4⟩
      have hiL : i < L.length := by omega
      obtain ⟨fnd, flt, fln⟩ := hRn.flat hL (Nat.le_of_lt hiL)
      have lfl := nodup_few fnd flt
      have hSs : SqL K H4 sa (nV Rs.flatten) ∨ SqT K H4 sa (nV Rs.flatten) := .inl (SqL.of hs4)
      have hfl : (nV Rs.flatten).all flatV = true := flat_nats
      have eV : (V.int (0 + (i : Int))) = V.int ((i : Nat) : Int) := by rw [Int.zero_add]
      walk_at "st"
      refine ite2 (fun e => ?_) (fun e => ?_)
      · have e' : (!inV (.int (0 + (i : Int))) (nV Rs.flatten)) = true := e
        rw [show (0 + (i : Int)) = ((i : Nat) : Int) from Int.zero_add _, inV_nat, Bool.not_eq_true', decide_eq_false_iff_not] at e'
        walk_at "st"
        intro la nla
        have s5 : Same H4 (upd H4 la (.lst [])) := Same.new nla
        have hr5 := s5 _ _ hr4
        have hs5 := s5 _ _ hs4
        have hl5 : (upd H4 la (.lst [])) la = some (.lst (nV [])) := upd_same
        have nla1 : H1 la = none := Same.back s4 nla
        have nrl : rs ≠ la := ne_of_none hr4 nla
        have nsl : sa ≠ la := ne_of_none hs4 nla
        have s15 := Same.trans s4 s5
        have hus5 := TpAll.mono (Same.tk s5) _ _ hus
        generalize hH5 : upd H4 la (.lst []) = H5 at *
        walk_at "st"
        refine while_by (fun σ H' => ∃ cs : List Nat, σ = [some (.ref a), some (.ref r), some (.ref ta), some (.ref rs), some (.ref sa), some (.int (0 + (i : Int))), some (.ref la), some (.int (itN L cs.length i : Nat)), none, none, none, none, none, none, none, none, none, none, none, none] ∧ H' rs = some (.lst us) ∧ TpAll K H' us (Rs.map rnD) ∧ H' sa = some (.lst (nV Rs.flatten)) ∧ H' la = some (.lst (nV cs)) ∧ cs.Nodup ∧ (∀ k ∈ cs, k < L.length) ∧ (cs = (List.range cs.length).map fun j => itN L j i) ∧ Same H1 H' ∧ TK H3 H')
          (fun σ H' => match H' la with | some (.lst vs) => L.length - vs.length | _ => 0) ?_ ?_ ?_
        · refine ⟨[], ?_, hr5, hus5, hs5, hl5, List.nodup_nil, fun _ h => absurd h List.not_mem_nil, rfl, s15, t4.trans (Same.tk s5)⟩
          show [some (V.ref a), some (V.ref r), some (V.ref ta), some (V.ref rs), some (V.ref sa), some (V.int (0 + (i : Int))), some (V.ref la), some (V.int (0 + (i : Int))), none, none, none, none, none, none, none, none, none, none, none, none] = _
          rw [show (V.int (0 + (i : Int))) = V.int ((itN L ([] : List Nat).length i : Nat) : Int) from congrArg V.int (Int.zero_add _)]
        · rintro σ H6 ⟨cs, rfl, hr6, hus6, hs6, hl6, nd6, lt6, f6, s6, t36⟩
          have hSl : SqL K H6 la (nV cs) ∨ SqT K H6 la (nV cs) := .inl (SqL.of hl6)
          have hfc : (nV cs).all flatV = true := flat_nats
          walk_at "st"
          refine ite2 (fun e => ?_) (fun e => ?_)
          · have e2 : (!inV (.int ((itN L cs.length i : Nat) : Int)) (nV cs)) = true := e
            rw [inV_nat, Bool.not_eq_true', decide_eq_false_iff_not] at e2
            have ilt := hL.it_lt hiL cs.length
            have nd7 : (cs ++ [itN L cs.length i]).Nodup := List.nodup_append.mpr ⟨nd6, List.nodup_cons.mpr ⟨List.not_mem_nil, List.nodup_nil⟩, fun x hx y hy z => e2 (by rw [← List.mem_singleton.mp hy, ← z]; exact hx)⟩
            have lt7 : ∀ k ∈ cs ++ [itN L cs.length i], k < L.length := fun k hk => by
              rcases List.mem_append.mp hk with h | h
              · exact lt6 k h
              · rw [List.mem_singleton.mp h]; exact ilt
            have lcs : cs.length < L.length := by
              have z := nodup_few (c := L.length) nd7 lt7
              rw [List.length_append] at z
              exact z
            have lnc : (nV cs).length = cs.length := List.length_map _
            have hz1 : (nV cs).length < sizeLine := small1000 (by omega)
            have t7 : TK H6 (upd H6 la (.lst (nV cs ++ [V.int ((itN L cs.length i : Nat) : Int)]))) := TK.lst hl6
            have hta7 := (t36.trans t7).seqT hta
            have htb7 := (t36.trans t7).seqT htb
            obtain ⟨u, eu, hu⟩ := hws.get (i := itN L cs.length i) (d := entD (some (L[itN L cs.length i].1, L[itN L cs.length i].2, 0))) (by rw [List.getElem?_map, tRow_at ilt]; rfl)
            have hpn := (hL.paN_lt ilt).2
            obtain ⟨b3, rfl, hb3⟩ := (show Tp K H3 u (.tuple [.int L[itN L cs.length i].1, .int L[itN L cs.length i].2, .int 0]) from hu).int3
            have hb37 := (t36.trans t7).seqT hb3
            have hat : atI ws ((itN L cs.length i : Nat) : Int) = some (.ref b3) := atI_nat eu
            walk_at "st"
            refine ⟨⟨cs ++ [itN L cs.length i], ?_, by rw [upd_ne nrl]; exact hr6, TpAll.mono t7 _ _ hus6, by rw [upd_ne nsl]; exact hs6, ?_, nd7, lt7, ?_, Same.fresh s6 nla1, t36.trans t7⟩, ?_⟩
            · rw [List.length_append, hpn]
              rfl
            · rw [upd_same]
              unfold nV
              rw [List.map_append]
              rfl
            · rw [List.length_append, show cs.length + [itN L cs.length i].length = cs.length + 1 from rfl, List.range_succ, List.map_append, ← f6]
              rfl
            · rw [upd_same, hl6]
              show L.length - (nV cs ++ [V.int ((itN L cs.length i : Nat) : Int)]).length < L.length - (nV cs).length
              rw [List.length_append, lnc]
              show L.length - (cs.length + 1) < _
              omega
          · have e2 : ¬ (!inV (.int ((itN L cs.length i : Nat) : Int)) (nV cs)) = true := e
            rw [inV_nat, Bool.not_eq_true', decide_eq_false_iff_not, Classical.not_not] at e2
            have cyc : IsCyc L i cs := ⟨f6, fun z => (by rw [z] at e2; exact absurd e2 List.not_mem_nil), nd6, e2⟩
            have lcs := nodup_few nd6 lt6
            have lnc : (nV cs).length = cs.length := List.length_map _
            have lnf : (nV Rs.flatten).length = Rs.flatten.length := List.length_map _
            have hSl6 := SqL.of (K := K) hl6
            have hz1 : us.length < sizeLine := by
              have z := TpAll.length hus6
              rw [List.length_map] at z
              exact small1000 (by omega)
            walk_at "st"
            intro tl ntl
            have s7 : Same H6 (upd H6 tl (.tup (nV cs))) := Same.new ntl
            have hr7 := s7 _ _ hr6
            have hs7 := s7 _ _ hs6
            have hl7 := s7 _ _ hl6
            have htl7 : (upd H6 tl (.tup (nV cs))) tl = some (.tup (nV cs)) := upd_same
            have t8 : TK (upd H6 tl (.tup (nV cs))) (upd (upd H6 tl (.tup (nV cs))) rs (.lst (us ++ [.ref tl]))) := TK.lst hr7
            have hs8 : (upd (upd H6 tl (.tup (nV cs))) rs (.lst (us ++ [.ref tl]))) sa = some (.lst (nV Rs.flatten)) := by rw [upd_ne nra.symm]; exact hs7
            have hl8 : (upd (upd H6 tl (.tup (nV cs))) rs (.lst (us ++ [.ref tl]))) la = some (.lst (nV cs)) := by rw [upd_ne nrl.symm]; exact hl7
            have hz2 : (nV Rs.flatten).length + (nV cs).length ≤ sizeLine := small_le (by omega)
            walk_at "st"
            intro sb nsb
            have s18 : Same H1 (upd (upd H6 tl (.tup (nV cs))) rs (.lst (us ++ [.ref tl]))) := Same.fresh (Same.trans s6 s7) nrs
            have nrb : rs ≠ sb := ne_of_none upd_same nsb
            have nsb1 : H1 sb = none := Same.back s18 nsb
            have s9 : Same (upd (upd H6 tl (.tup (nV cs))) rs (.lst (us ++ [.ref tl]))) (upd (upd (upd H6 tl (.tup (nV cs))) rs (.lst (us ++ [.ref tl]))) sb (.lst (nV Rs.flatten ++ nV cs))) := Same.new nsb
            refine ⟨_, _, _, us ++ [.ref tl], Rs ++ [cs], sb, rfl, by rw [upd_ne nrb]; exact upd_same, ?_, ?_, nsb1, nrb, .new hRn e' cyc, Same.trans s18 s9, t36.trans ((Same.tk s7).trans (t8.trans (Same.tk s9)))⟩
            · rw [List.map_append]
              exact TpAll.append (TpAll.mono ((Same.tk s7).trans (t8.trans (Same.tk s9))) _ _ hus6) (.cons (.tup ((t8.trans (Same.tk s9)).seqT (SqT.of htl7)) (nat_ints_tp cs)) .nil)
            · rw [upd_same, List.flatten_append]
              unfold nV
              rw [List.map_append, show [cs].flatten = cs by simp]
        · intro σ H Q Q' hq h
          obtain ⟨x, e1, y, e2, p, xs, e3, e4, e5, e6, k, e7, q⟩ := h
          exact ⟨x, e1, y, e2, p, xs, e3, e4, e5, e6, k, e7, hq _ _ q⟩
      · have e' : ¬ (!inV (.int (0 + (i : Int))) (nV Rs.flatten)) = true := e
        rw [show (0 + (i : Int)) = ((i : Nat) : Int) from Int.zero_add _, inV_nat, Bool.not_eq_true', decide_eq_false_iff_not, Classical.not_not] at e'
        exact ⟨_, _, _, us, Rs, sa, rfl, hr4, hus, hs4, nsa, nra, .old hRn e', s4, t4⟩
    · rintro σ H4 ⟨y5, y6, y7, us, Rs, sa, rfl, hr4, hus, hs4, nsa, nra, hRn, s4, t4⟩
      rw [show ((ws.length : Nat) : Int).toNat = L.length by omega] at hRn
      obtain ⟨fnd, flt, fln⟩ := hRn.flat hL (Nat.le_refl _)
      have hSr := SqL.of (K := K) hr4
      have lus : us.length = Rs.length := by rw [TpAll.length hus, List.length_map]
      walk_at "st"
      intro D nD
      have nDr : D ≠ rs := ne_of_none hr4 nD |>.symm
      refine lc_it (walk_list (K := K) (a := rs) (xs := us)) (fun j H' => Ok (Same H4 H' ∧ ∃ bs : List Addr, H' D = some (.lst (bs.map V.ref)) ∧ LsAt H' bs ((Rs.take j).map (tsOf L)) ∧ ∀ b ∈ bs, b ≠ D)) ⟨Same.new nD, [], upd_same, .nil, fun b hb => absurd hb List.not_mem_nil⟩ (fun j H' _ ⟨sm, _⟩ => SqL.of (sm _ _ hr4)) ?_ ?_
      · rintro j x H5' H5 hj ⟨s5, bs, hD5, hbs, nbs⟩ ⟨rfl, hx⟩
        have hj : j < Rs.length := by omega
        have htk := take_more (List.getElem?_eq_getElem hj)
        obtain ⟨u, eu, hu⟩ := hus.get (i := j) (d := rnD Rs[j]) (by rw [List.getElem?_map, List.getElem?_eq_getElem hj]; rfl)
        rw [hx] at eu
        cases eu
        have mR := List.getElem_mem hj
        obtain ⟨st, hst, cyc⟩ := hRn.cyc _ mR
        have Rlt : ∀ k ∈ Rs[j], k < L.length := fun k hk => flt k (List.mem_flatten.mpr ⟨_, mR, hk⟩)
        have Rlen := nodup_few cyc.nd Rlt
        generalize hR : Rs[j] = R at *
        have hu5 := Tp.mono (Same.tk s5) _ _ hu
        obtain ⟨b2, us2, rfl, hb2, hus2⟩ := (show Tp K H5 x (.tuple (R.map fun k : Nat => PyData.int (k : Int))) from hu5).tupI
        have eus := ints_tp hus2
        subst eus
        have lR : (R.map fun k : Nat => V.int (k : Int)).length = R.length := List.length_map _
        have t35 : TK H3 H5 := t4.trans (Same.tk s5)
        walk_at "st"
        intro M nM
        refine lc_it (walk_tup (K := K) (a := b2) (xs := R.map fun k : Nat => V.int (k : Int))) (fun m H' => Ok (Same H5 H' ∧ H' M = some (.lst (((R.take m).map (tuOf L)).map V.int)))) ⟨Same.new nM, upd_same⟩ (fun m H' _ ⟨sm, _⟩ => TK.seqT (Same.tk sm) hb2) ?_ ?_
        · rintro m y H6' H6 hm ⟨s6, hM⟩ ⟨rfl, hy⟩
          have hm : m < R.length := by omega
          have htk2 := take_more (List.getElem?_eq_getElem hm)
          rw [List.getElem?_map, List.getElem?_eq_getElem hm] at hy
          obtain rfl := Option.some.inj hy
          have kl := Rlt _ (List.getElem_mem hm)
          generalize hk : R[m] = kc at *
          have t36 := t35.trans (Same.tk s6)
          have hta6 := t36.seqT hta
          have htb6 := t36.seqT htb
          obtain ⟨ev, eev, hev⟩ := hws.get (i := kc) (d := entD (some (L[kc].1, L[kc].2, 0))) (by rw [List.getElem?_map, tRow_at kl]; rfl)
          obtain ⟨b3, rfl, hb3⟩ := (show Tp K H3 ev (.tuple [.int L[kc].1, .int L[kc].2, .int 0]) from hev).int3
          have hb36 := t36.seqT hb3
          have hat : atI ws ((kc : Nat) : Int) = some (.ref b3) := atI_nat eev
          have eT : tuOf L kc = L[kc].2 := by
            unfold tuOf
            rw [List.getElem?_eq_getElem kl]
            rfl
          have hsz : (((R.take m).map (tuOf L)).map V.int).length < sizeLine := by
            rw [List.length_map, List.length_map, List.length_take]
            exact small1000 (by omega)
          walk_at "st"
          refine ⟨Same.fresh s6 nM, ?_⟩
          rw [upd_same, htk2, List.map_append, List.map_append, show ([kc].map (tuOf L)).map V.int = [V.int L[kc].2] by rw [← eT]; rfl]
        · rintro H6 ⟨s6, hM⟩
          rw [lR, List.take_length] at hM
          have hSM := SqL.of (K := K) hM
          have l60 : (R.map (tuOf L)).length ≤ 60 := by rw [List.length_map]; omega
          walk_at "st"
          intro sa2 S n nsa2 hS hn
          have hs7 : (upd H6 sa2 (SetO w sa2 S n)) sa2 = some (SetO w sa2 S n) := upd_same
          have n64 : n < 64 := by omega
          walk_at "st"
          intro so p pso pm pl np
          have eso : so = tsOf L R := ts_sorted hL cyc.ne Rlt pso fun k => (pm k).trans (hS k)
          subst eso
          have s7 : Same H6 (upd (upd H6 sa2 (SetO w sa2 S n)) p (.lst ((tsOf L R).map V.int))) := Same.trans (Same.new nsa2) (Same.new np)
          have s57 := Same.trans s6 s7
          have hD7 := s57 _ _ hD5
          have hp7 : (upd (upd H6 sa2 (SetO w sa2 S n)) p (.lst ((tsOf L R).map V.int))) p = some (.lst ((tsOf L R).map V.int)) := upd_same
          have npD : p ≠ D := fun z => by
            rw [z, Same.new nsa2 _ _ (s6 _ _ hD5)] at np
            cases np
          have lbs : bs.length = j := by
            have z := Paired.length hbs
            rw [List.length_map, List.length_take] at z
            omega
          have hsz : (bs.map V.ref).length < sizeLine := by
            rw [List.length_map]
            exact small1000 (by omega)
          refine ⟨_, hD7, hsz, Same.fresh (Same.trans s5 s57) nD, bs ++ [p], by rw [upd_same, List.map_append]; rfl, ?_, fun b hb => ?_⟩
          · rw [htk, List.map_append]
            refine Paired.snoc (LsAt.put (LsAt.same s57 hbs) nbs) ?_
            rw [upd_ne npD]
            exact hp7
          · rcases List.mem_append.mp hb with z | z
            · exact nbs b z
            · rw [List.mem_singleton.mp z]
              exact npD
      · rintro H5 ⟨s5, bs, hD5, hbs, nbs⟩
        rw [lus, List.take_length] at hbs
        have lts : (Rs.map (tsOf L)).length = Rs.length := List.length_map _
        have lbs : (bs.map V.ref).length = Rs.length := by
          have z := Paired.length hbs
          rw [List.length_map] at z ⊢
          exact z
        have hSD := SqL.of (K := K) hD5
        walk_at "st"
        intro G nG
        refine lc_it (walk_list (K := K) (a := D) (xs := bs.map V.ref)) (fun j H' => Ok (Same H5 H' ∧ ∃ gs : List Addr, H' G = some (.lst (gs.map V.ref)) ∧ LsAt H' gs (((Rs.map (tsOf L)).take j).filter fun t => !decide (t = [1, 3])) ∧ (∀ b ∈ gs, b ≠ G) ∧ gs.length ≤ j)) ⟨Same.new nG, [], upd_same, .nil, fun b hb => absurd hb List.not_mem_nil, Nat.le_refl _⟩ (fun j H' _ ⟨sm, _⟩ => SqL.of (sm _ _ hD5)) ?_ ?_
        · rintro j x H6' H6 hj ⟨s6, gs, hG6, hgs, ngs, lgs⟩ ⟨rfl, hx⟩
          have hj : j < (Rs.map (tsOf L)).length := by omega
          have htk := take_more (List.getElem?_eq_getElem hj)
          obtain ⟨b, eb, hb⟩ := LsAt.get hbs (List.getElem?_eq_getElem hj)
          rw [List.getElem?_map, eb] at hx
          obtain rfl := Option.some.inj hx
          generalize hT : (Rs.map (tsOf L))[j] = t at *
          have hb6 := s6 _ _ hb
          have hdb : Dp K H6 (.ref b) (.list (t.map PyData.int)) := .lst (SqL.of hb6) (dp_ints t)
          have nbG : b ≠ G := ne_of_none hb nG
          walk_at "st"
          intro q2 nq2
          have s7 : Same H6 (upd H6 q2 (.lst [.int 1, .int 3])) := Same.new nq2
          have hdb7 := Dp.mono s7 _ _ hdb
          have hdq7 : Dp K (upd H6 q2 (.lst [.int 1, .int 3])) (.ref q2) (.list (([1, 3] : List Int).map PyData.int)) := .lst (SqL.of upd_same) (dp_ints [1, 3])
          have sh1 := (shp_ints (l := t)).1
          have sh2 := (shp_ints (l := [1, 3])).1
          walk_at "st"
          rw [eqv_lint]
          have hG7 := s7 _ _ hG6
          have hsz : (gs.map V.ref).length < sizeLine := by
            rw [List.length_map]
            exact small1000 (by omega)
          refine ite2 (fun e => ?_) (fun e => ?_)
          · walk_at "st"
            refine ⟨Same.fresh (Same.trans s6 s7) nG, gs ++ [b], by rw [upd_same, List.map_append]; rfl, ?_, fun b' hb' => ?_, by rw [List.length_append]; show gs.length + 1 ≤ j + 1; omega⟩
            · rw [htk, List.filter_append, show ([t].filter fun t => !decide (t = [1, 3])) = [t] from by rw [List.filter_cons, if_pos e]; rfl]
              refine Paired.snoc (LsAt.put (LsAt.same s7 hgs) ngs) ?_
              rw [upd_ne nbG]
              exact s7 _ _ hb6
            · rcases List.mem_append.mp hb' with z | z
              · exact ngs b' z
              · rw [List.mem_singleton.mp z]
                exact nbG
          · refine ⟨Same.trans s6 s7, gs, hG7, ?_, ngs, by omega⟩
            rw [htk, List.filter_append, show ([t].filter fun t => !decide (t = [1, 3])) = [] from by rw [List.filter_cons, if_neg e]; rfl, List.append_nil]
            exact LsAt.same s7 hgs
        · rintro H6 ⟨s6, gs, hG6, hgs, ngs, lgs⟩
          rw [show (bs.map V.ref).length = (Rs.map (tsOf L)).length by omega, List.take_length] at hgs
          have dG := LsAt.dp (K := K) hgs
          have dG6 : Dp K H6 (.ref G) (.list (((Rs.map (tsOf L)).filter fun t => !decide (t = [1, 3])).map fun t => .list (t.map PyData.int))) := .lst (SqL.of hG6) dG
          have eg : PyData.eqv (.list (((Rs.map (tsOf L)).filter fun t => !decide (t = [1, 3])).map fun t => .list (t.map PyData.int))) (.list []) = Rs.all (bothB L) := by
            rw [eqv_nil, ← good_ts]
            simp
          have shG := shp_ll ((Rs.map (tsOf L)).filter fun t => !decide (t = [1, 3]))
          have shN := shp_ll []
          generalize hdd : (((Rs.map (tsOf L)).filter fun t => !decide (t = [1, 3])).map fun t => PyData.list (t.map PyData.int)) = dd at *
          walk_at "st"
          intro e0 ne0
          have s7 : Same H6 (upd H6 e0 (.lst [])) := Same.new ne0
          have dG7 := Dp.mono s7 _ _ dG6
          have dE7 : Dp K (upd H6 e0 (.lst [])) (.ref e0) (.list []) := .lst (SqL.of upd_same) .nil
          have shN : SeqAt.shaped (.list []) = true := shN
          have s47 := Same.trans s5 (Same.trans s6 s7)
          have t37 := t4.trans (Same.tk s47)
          have ht7 := Tp.mono t37 _ _ ht3
          have hr7 := s47 _ _ hr4
          have hus7 := TpAll.mono (Same.tk s47) _ _ hus
          have hD7 := Same.trans s6 s7 _ _ hD5
          have hbs7 := LsAt.same (Same.trans s6 s7) hbs
          have s17 := Same.trans s4 s47
          have R7 := R1.same s17
          have k17 : KeepB r H1 (upd H6 e0 (.lst [])) := Same.keepB s17
          clear hgs ngs hG6 dG dG6 hdd
          generalize hH7 : upd H6 e0 (.lst []) = H7 at *
          walk_at "st"
          rw [eg]
          obtain ⟨gb, hgb⟩ : ∃ gb, gb = Rs.all (bothB L) := ⟨_, rfl⟩
          rw [← hgb]
          walk_at "st"
          intro v1 H8 Rs1 ok1 hR1 hv1 s8
          obtain rfl : Rs1 = Rs := hR1.uniq hRn
          have ht8 := Tp.mono (Same.tk s8) _ _ ht7
          walk_at "st"
          intro x1 H9 Rs2 ok2 hR2 hx1 hB s9
          obtain rfl : Rs1 = Rs2 := hRn.uniq hR2
          obtain rfl : x1 = gb := hx1.trans hgb.symm
          have s79 := Same.trans s8 s9
          have hv9 := Tp.mono (Same.tk s9) _ _ hv1
          walk_at "st"
          intro p1 np1
          have s10 : Same H9 (upd H9 p1 (.lst [v1, .bl x1])) := Same.new np1
          have hp1 : (upd H9 p1 (.lst [v1, .bl x1])) p1 = some (.lst [v1, .bl x1]) := upd_same
          have hr10 := Same.trans s79 s10 _ _ hr7
          have hSr10 := SqL.of (K := K) hr10
          walk_at "st"
          intro p2 np2
          have s11 : Same (upd H9 p1 (.lst [v1, .bl x1])) (upd (upd H9 p1 (.lst [v1, .bl x1])) p2 (.tup us)) := Same.new np2
          have s711 := Same.trans s79 (Same.trans s10 s11)
          have hT2 : Tp K (upd (upd H9 p1 (.lst [v1, .bl x1])) p2 (.tup us)) (.ref p2) (.tuple (Rs1.map rnD)) := .tup (SqT.of upd_same) (TpAll.mono (Same.tk s711) _ _ hus7)
          walk_at "st"
          intro p3 np3
          have s12 : Same (upd (upd H9 p1 (.lst [v1, .bl x1])) p2 (.tup us)) (upd (upd (upd H9 p1 (.lst [v1, .bl x1])) p2 (.tup us)) p3 (.lst [.ref p2, .bl x1])) := Same.new np3
          have s712 := Same.trans s711 s12
          have dA : Dp K (upd (upd (upd H9 p1 (.lst [v1, .bl x1])) p2 (.tup us)) p3 (.lst [.ref p2, .bl x1])) (.ref p1) (.list [.tuple (Rs1.map rnD), .bool x1]) := .lst (SqL.of ((Same.trans s11 s12) _ _ hp1)) (.cons (Tp.dp _ _ (Tp.mono (Same.tk (Same.trans s10 (Same.trans s11 s12))) _ _ hv9)) (.cons (.bl _) .nil))
          have dB : Dp K (upd (upd (upd H9 p1 (.lst [v1, .bl x1])) p2 (.tup us)) p3 (.lst [.ref p2, .bl x1])) (.ref p3) (.list [.tuple (Rs1.map rnD), .bool x1]) := .lst (SqL.of upd_same) (.cons (Tp.dp _ _ (Tp.mono (Same.tk s12) _ _ hT2)) (.cons (.bl _) .nil))
          have okA : okD 5 (.list [.tuple (Rs1.map rnD), .bool x1]) := by
            refine ⟨by show 2 ≤ 5000; decide, fun d hd => ?_⟩
            rcases List.mem_cons.mp hd with rfl | hd
            · refine ⟨by rw [List.length_map]; have := ok1.len; omega, fun d hd => ?_⟩
              obtain ⟨R, hR, rfl⟩ := List.mem_map.mp hd
              refine ⟨by rw [List.length_map]; have := (ok1.lt R hR).1; omega, fun d hd => ?_⟩
              obtain ⟨k, _, rfl⟩ := List.mem_map.mp hd
              trivial
            · rw [List.mem_singleton.mp hd]
              trivial
          generalize hHb : upd (upd (upd H9 p1 (.lst [v1, .bl x1])) p2 (.tup us)) p3 (.lst [.ref p2, .bl x1]) = Hb at *
          clear hHb
          walk_at "st"
          intro H13 s13
          have s713 := Same.trans s712 s13
          have ht13 := Tp.mono (Same.tk s713) _ _ ht7
          walk_at "st"
          intro v H14 Rs3 ok3 hR3 hnone hsome s14
          obtain rfl : Rs1 = Rs3 := hRn.uniq hR3
          have s714 := Same.trans s713 s14
          have hD14 := s714 _ _ hD7
          have hbs14 := LsAt.same s714 hbs7
          have hr14 := s714 _ _ hr7
          have hus14 := TpAll.mono (Same.tk s714) _ _ hus7
          have ht14 := Tp.mono (Same.tk s714) _ _ ht7
          have R14 := R7.same s714
          clear hv1 hv9 hp1 hr10 hSr10 hT2 dA dB okA np1 np2 np3
          cases hx : x1 with
          | true =>
            subst hx
            obtain rfl := hnone hgb.symm
            walk_at "st"
            intro q1 nq1
            have e1 : Same H14 (upd H14 q1 (.tup [.int 1, .int 2])) := Same.new nq1
            have f1 : SqT K (upd H14 q1 (.tup [.int 1, .int 2])) q1 [.int ((1 : Nat) : Int), .int ((2 : Nat) : Int)] := SqT.of upd_same
            generalize hA1 : upd H14 q1 (.tup [.int 1, .int 2]) = A1 at *
            walk_at "st"
            intro q2 nq2
            have e2 : Same A1 (upd A1 q2 (.tup [.int 2, .int 2])) := Same.new nq2
            have f2 : SqT K (upd A1 q2 (.tup [.int 2, .int 2])) q2 [.int ((2 : Nat) : Int), .int ((2 : Nat) : Int)] := SqT.of upd_same
            generalize hA2 : upd A1 q2 (.tup [.int 2, .int 2]) = A2 at *
            walk_at "st"
            intro q3 nq3
            have e3 : Same A2 (upd A2 q3 (.tup [.int 3, .int 1])) := Same.new nq3
            have f3 : SqT K (upd A2 q3 (.tup [.int 3, .int 1])) q3 [.int ((3 : Nat) : Int), .int ((1 : Nat) : Int)] := SqT.of upd_same
            generalize hA3 : upd A2 q3 (.tup [.int 3, .int 1]) = A3 at *
            walk_at "st"
            intro q4 nq4
            have e4 : Same A3 (upd A3 q4 (.tup [.int 2, .int 3])) := Same.new nq4
            have f4 : SqT K (upd A3 q4 (.tup [.int 2, .int 3])) q4 [.int ((2 : Nat) : Int), .int ((3 : Nat) : Int)] := SqT.of upd_same
            generalize hA4 : upd A3 q4 (.tup [.int 2, .int 3]) = A4 at *
            walk_at "st"
            intro ql nql
            have e5 : Same A4 (upd A4 ql (.lst [.ref q1, .ref q2, .ref q3, .ref q4])) := Same.new nql
            have hql : (upd A4 ql (.lst [.ref q1, .ref q2, .ref q3, .ref q4])) ql = some (.lst [.ref q1, .ref q2, .ref q3, .ref q4]) := upd_same
            have e15 := Same.trans e1 (Same.trans e2 (Same.trans e3 (Same.trans e4 e5)))
            have R5 := R14.same e15
            have nqr : ql ≠ r := (R14.same (Same.trans e1 (Same.trans e2 (Same.trans e3 e4)))).ne nql
            have g1 := (Same.tk (Same.trans e2 (Same.trans e3 (Same.trans e4 e5)))).seqT f1
            have g2 := (Same.tk (Same.trans e3 (Same.trans e4 e5))).seqT f2
            have g3 := (Same.tk (Same.trans e4 e5)).seqT f3
            have g4 := (Same.tk e5).seqT f4
            have ht5 := Tp.mono (Same.tk e15) _ _ ht14
            generalize hA5 : upd A4 ql (.lst [.ref q1, .ref q2, .ref q3, .ref q4]) = A5 at *
            clear e1 e2 e3 e4 e5 f1 f2 f3 f4 hA1 hA2 hA3 hA4 hA5 nq1 nq2 nq3 nq4
            walk_at "st"
            intro pv2 B1 kx ekx RB1 kB1
            have tB1 := kB1.row R5
            obtain ⟨qx, wd, hg, rfl, hqx, w1, w3, h1, h3, wh⟩ : ∃ (qx : Addr) (wd hg : Nat), pv2 = .ref qx ∧ SqT K B1 qx [.int (wd : Int), .int (hg : Int)] ∧ 1 ≤ wd ∧ wd ≤ 3 ∧ 1 ≤ hg ∧ hg ≤ 3 ∧ wd * hg ≤ 6 := by
              match kx, ekx with
              | 0, ekx => exact ⟨q1, 1, 2, (Option.some.inj ekx).symm, tB1.seqT g1, by decide, by decide, by decide, by decide, by decide⟩
              | 1, ekx => exact ⟨q2, 2, 2, (Option.some.inj ekx).symm, tB1.seqT g2, by decide, by decide, by decide, by decide, by decide⟩
              | 2, ekx => exact ⟨q3, 3, 1, (Option.some.inj ekx).symm, tB1.seqT g3, by decide, by decide, by decide, by decide, by decide⟩
              | 3, ekx => exact ⟨q4, 2, 3, (Option.some.inj ekx).symm, tB1.seqT g4, by decide, by decide, by decide, by decide, by decide⟩
              | n + 4, ekx => simp at ekx
            have htB1 := Tp.mono tB1 _ _ ht5
            clear g1 g2 g3 g4 ekx hql
            walk_at "st"
            intro CD nCD
            have neD : CD ≠ r := RB1.ne nCD
            have RB2 : Row K (upd B1 CD (.dT [])) r := RB1.new nCD
            have hCD2 : (upd B1 CD (.dT [])) CD = some (.dT (cellK [])) := upd_same
            have kB2 : KeepB r B1 (upd B1 CD (.dT [])) := KeepB.new nCD
            have lw0 : (0 : Int) < ws.length := by omega
            have lw1 : (ws.length : Int) < 2 ^ 250 := by omega
            have tkB : ∀ {H' : Hp}, KeepB r B1 H' → TK B1 H' := fun k => k.row RB1
            walk_at "st"
            refine for_range (lo := 0) (n := ((wd : Nat) : Int).toNat) (fun i σ H' => Ok (∃ (y16 y17 : Option V) (m : CM), σ = [some (.ref a), some (.ref r), some (.ref ta), some (.ref rs), some (.ref sa), y5, y6, y7, some (.ref D), some (.bl true), some .non, none, none, some (.int (wd : Int)), some (.int (hg : Int)), some (.ref CD), y16, y17, none, none] ∧ H' CD = some (.dT (cellK m)) ∧ CellsTo L.length hg i 0 m ∧ Row K H' r ∧ KeepB r B1 H')) ?_ ?_ ?_
            · refine ⟨_, _, [], rfl, hCD2, ⟨List.nodup_nil, fun p => ?_, fun e he => absurd he List.not_mem_nil, by simp⟩, RB2, kB2⟩
              unfold boxTo
              constructor
              · intro z
                exact absurd z List.not_mem_nil
              · rintro (z | z)
                · have := z.1
                  have := z.2.1
                  omega
                · have := z.2
                  omega
            · rintro i σ H' hi ⟨y16, y17, m, rfl, hC, cto, RC, kC⟩
              walk_at "st"
              refine for_range (lo := 0) (n := ((hg : Nat) : Int).toNat) (fun j σ H' => Ok (∃ (y17 : Option V) (m : CM), σ = [some (.ref a), some (.ref r), some (.ref ta), some (.ref rs), some (.ref sa), y5, y6, y7, some (.ref D), some (.bl true), some .non, none, none, some (.int (wd : Int)), some (.int (hg : Int)), some (.ref CD), some (.int (0 + (i : Int))), y17, none, none] ∧ H' CD = some (.dT (cellK m)) ∧ CellsTo L.length hg i j m ∧ Row K H' r ∧ KeepB r B1 H')) ?_ ?_ ?_
              · exact ⟨_, m, rfl, hC, cto, RC, kC⟩
              · rintro j σ H2' hj ⟨y17', m2, rfl, hC2, cto2, RC2, kC2⟩
                have tB := tkB kC2
                obtain ⟨tb2, hta2, htb2⟩ : ∃ tb2, SqT K H2' ta [.ref tb2] ∧ SqT K H2' tb2 ws := ⟨tb, (tB1.trans tB).seqT ((Same.tk e15).seqT ((Same.tk s714).seqT (t37.seqT hta))), (tB1.trans tB).seqT ((Same.tk e15).seqT ((Same.tk s714).seqT (t37.seqT htb)))⟩
                walk_at "st"
                intro v H3' v0 v1 R3' k3'
                have hC3 := k3' _ _ neD hC2
                walk_at "st"
                intro pk npk
                have hC4 : (upd H3' pk (.tup [.int (0 + (i : Int)), .int (0 + (j : Int))])) CD = some (.dT (cellK m2)) := by
                  rw [upd_ne (ne_of_none hC3 npk)]
                  exact hC3
                have lm2 := cto2.len
                have lb : i * hg ≤ 3 * 3 := Nat.mul_le_mul (by omega) h3
                have hsz : (cellK m2).length < sizeLine := by
                  rw [cell_len]
                  exact small1000 (by omega)
                have hw : DPut (upd H3' pk (.tup [.int (0 + (i : Int)), .int (0 + (j : Int))])) CD (.ref pk) (.int v) (upd (upd H3' pk (.tup [.int (0 + (i : Int)), .int (0 + (j : Int))])) CD (.dT (putK (cellK m2) (ptK (0 + (i : Int), 0 + (j : Int))) (.int v)))) := DPut.t hC4 upd_same hsz
                walk_at "st"
                have R4' := R3'.new (o := .tup [.int (0 + (i : Int)), .int (0 + (j : Int))]) npk
                refine ⟨_, putM m2 ((i : Int), (j : Int)) v, rfl, ?_, cto2.more v0 (by rw [← lw]; exact v1), ?_, ?_⟩
                · rw [upd_same, cell_put _ _ cto2.nd, Int.zero_add, Int.zero_add]
                · exact R4'.keep (TK.dT hC4) (upd_ne neD.symm)
                · exact ((kC2.trans k3').trans (KeepB.new npk)).fresh nCD
              · rintro σ H2' ⟨y17', m2, rfl, hC2, cto2, RC2, kC2⟩
                rw [show ((hg : Nat) : Int).toNat = hg from Int.toNat_natCast _] at cto2
                exact ⟨_, _, m2, rfl, hC2, cto2.next, RC2, kC2⟩
            · rintro σ H' ⟨y16, y17, m, rfl, hC, cto, RC, kC⟩
              rw [show ((wd : Nat) : Int).toNat = wd from Int.toNat_natCast _] at cto
              have wd0 : (0 : Int) < (wd : Int) := by omega
              have wd1 : (wd : Int) < 2 ^ 250 := by omega
              have hg0 : (0 : Int) < (hg : Int) := by omega
              have hg1 : (hg : Int) < 2 ^ 250 := by omega
              walk_at "st"
              intro x H5 x0 x1' R5' k5
              walk_at "st"
              intro y H6 y0 y1' R6 k6
              walk_at "st"
              intro hd H7' d0 d1 R7' k7
              walk_at "st"
              intro wp nwp
              have k57 := k5.trans (k6.trans k7)
              have k58 : KeepB r H' (upd H7' wp (.tup [.int x, .int y, .int hd, .int 0])) := k57.trans (KeepB.new nwp)
              have hC8 := k58 _ _ neD hC
              have tB8 := (kC.trans k58).row RB1
              have tA8 := ((Same.tk e15).trans tB1).trans tB8
              have ht8' := Tp.mono tA8 _ _ ht14
              have hta8 := tA8.seqT ((Same.tk s714).seqT (t37.seqT hta))
              have htb8 := tA8.seqT ((Same.tk s714).seqT (t37.seqT htb))
              have hwp8 : Tp K (upd H7' wp (.tup [.int x, .int y, .int hd, .int 0])) (.ref wp) (wkD (x, y, hd, 0)) := Tp.of_ints (ks := [x, y, hd, 0]) (SqT.of upd_same)
              have inb : inBox wd hg (wPt (x, y, hd, 0)) := ⟨⟨x0, x1'⟩, y0, y1'⟩
              have fit8 := cto.fit (by omega) w3 h3 inb ⟨d0, d1⟩ rfl
              have mulc : CMul (wd : Int) (hg : Int) := .inl ⟨by omega, by omega⟩
              have bothL := hB rfl
              generalize hH8' : upd H7' wp (.tup [.int x, .int y, .int hd, .int 0]) = H8' at *
              have cnd := cto.nd
              have cbx := cto.box
              have cln : m.length = wd * hg := cto.len
              walk_at "st"
              refine ite2 (fun c1 => ?_) (fun c1 => ?_)
              · walk_at "st"
                refine ite2 (fun _ => q _) (fun _ => ?_)
                walk_at "st"
                exact fun H9 _ => q H9
              · walk_at "st"
                exact fun H9 _ => q H9
          | false =>
            subst hx
            obtain ⟨R, hfR⟩ : ∃ R, Rs1.find? (fun R => !bothB L R) = some R := by
              cases hf : Rs1.find? (fun R => !bothB L R) with
              | some R => exact ⟨R, rfl⟩
              | none =>
                have z := List.find?_eq_none.mp hf
                have : Rs1.all (bothB L) = true := List.all_eq_true.mpr fun R hR => by
                  have q := z R hR
                  cases e : bothB L R with
                  | true => rfl
                  | false => rw [e] at q; exact absurd rfl q
                rw [← hgb] at this
                cases this
            have hv := hsome R hfR
            obtain ⟨nbR, as, bs2, eR, has⟩ := List.find?_eq_some_iff_append.mp hfR
            have nbR : bothB L R = false := by
              cases e : bothB L R with
              | false => rfl
              | true => rw [e] at nbR; cases nbR
            have mR : R ∈ Rs1 := by rw [eR]; exact List.mem_append_right _ List.mem_cons_self
            obtain ⟨s0, hs0, cyc⟩ := hRn.cyc R mR
            have Rlt : ∀ k ∈ R, k < L.length := fun k hk => flt k (List.mem_flatten.mpr ⟨_, mR, hk⟩)
            have Rlen := nodup_few cyc.nd Rlt
            have atk : Rs1[as.length]? = some R := by rw [eR]; simp
            have klt : as.length < Rs1.length := (List.getElem?_eq_some_iff.mp atk).1
            have bef : ∀ k, k < as.length → ∃ R', Rs1[k]? = some R' ∧ bothB L R' = true := fun k hk => by
              refine ⟨as[k], ?_, ?_⟩
              · rw [eR, List.getElem?_append_left hk, List.getElem?_eq_getElem hk]
              · have q := has _ (List.getElem_mem hk)
                cases e : bothB L as[k] with
                | true => rfl
                | false => rw [e] at q; cases q
            have hd0 : R.headD 0 = s0 := by
              have p0 := cyc.pos
              have e0 := cyc.at p0
              cases R with
              | nil => exact absurd p0 (Nat.lt_irrefl 0)
              | cons x r => exact e0
            have s0R : s0 ∈ R := cyc.mem (j := 0) cyc.pos
            have ts0 : tsOf L R = [tuOf L s0] := by
              unfold tsOf
              rw [if_neg (by rw [nbR]; exact Bool.false_ne_true)]
              rcases hL.tu13 (Rlt s0 s0R) with e | e
              · rw [if_pos (List.mem_map.mpr ⟨s0, s0R, e⟩), e]
              · rw [if_neg, e]
                intro z
                obtain ⟨k, hk, ek⟩ := List.mem_map.mp z
                rw [tsOne hL Rlt nbR s0R hk, e] at ek
                cases ek
            have lbs' : bs.length = Rs1.length := by rw [List.length_map] at lbs; exact lbs
            obtain ⟨vb, xs2, rfl, hvb, hv⟩ := hv.tupI
            obtain ⟨fv, xs2, rfl, hfv, hv⟩ := hv.consI
            obtain ⟨wv, xs2, rfl, hwv, hv⟩ := hv.consI
            obtain rfl := hv.nilI
            unfold standOf at hfv hwv
            rw [hd0] at hfv hwv
            have hSD14 := SqL.of (K := K) hD14
            have nbO : Ok (bothB L R = false) := ⟨nbR⟩
            have befO : Ok (∀ k, k < as.length → ∃ R', Rs1[k]? = some R' ∧ bothB L R' = true) := ⟨bef⟩
            clear nbR bef has hfR hsome hnone hB hgb hx1 eg shG shN dG7 dE7
            walk_at "st"
            intro M nM
            refine lc_range (lo := 0) (n := ((bs.map V.ref).length : Int).toNat) (fun j H' => Ok (Same H14 H' ∧ ∃ ks : List V, H' M = some (.lst ks) ∧ ks.length ≤ j ∧ ((j ≤ as.length ∧ ks = []) ∨ (as.length < j ∧ ∃ rest, ks = V.int (0 + (as.length : Int)) :: rest)))) ⟨Same.new nM, [], upd_same, Nat.le_refl _, .inl ⟨Nat.zero_le _, rfl⟩⟩ ?_ ?_
            · rintro j H15 hj ⟨s15, ks, hM, lks, alt⟩
              have hj : j < Rs1.length := by rw [List.length_map] at hj; omega
              have ej : (Rs1.map (tsOf L))[j]? = some (tsOf L Rs1[j]) := by rw [List.getElem?_map, List.getElem?_eq_getElem hj]; rfl
              obtain ⟨b, eb, hb⟩ := LsAt.get hbs14 ej
              have hb15 := SqL.of (K := K) (s15 _ _ hb)
              have hS15 := SqL.of (K := K) (s15 _ _ hD14)
              have hat : atI (bs.map V.ref) (0 + (j : Int)) = some (.ref b) := by
                rw [Int.zero_add]
                exact atI_nat (by rw [List.getElem?_map, eb]; rfl)
              have hsz : ks.length < sizeLine := small1000 (by omega)
              have len1 : ((tsOf L Rs1[j]).map V.int).length = (tsOf L Rs1[j]).length := List.length_map _
              have one : (tsOf L Rs1[j]).length = 1 ↔ ¬ bothB L Rs1[j] = true := by
                unfold tsOf
                by_cases q : bothB L Rs1[j] = true
                · rw [if_pos q]
                  exact ⟨fun z => by simp at z, fun z => absurd q z⟩
                · rw [if_neg q]
                  split
                  · exact ⟨fun _ => q, fun _ => rfl⟩
                  · exact ⟨fun _ => q, fun _ => rfl⟩
              walk_at "st"
              refine ite2 (fun e => ?_) (fun e => ?_)
              · have e := eq_tr e
                have nb := one.mp (by omega)
                have jge : as.length ≤ j := by
                  rcases Nat.lt_or_ge j as.length with z | z
                  · obtain ⟨R', q1, q2⟩ := befO.o j z
                    rw [List.getElem?_eq_getElem hj] at q1
                    rw [Option.some.inj q1] at nb
                    exact absurd q2 nb
                  · exact z
                walk_at "st"
                refine ⟨Same.fresh s15 nM, ks ++ [V.int (0 + (j : Int))], upd_same, by rw [List.length_append]; show ks.length + 1 ≤ j + 1; omega, .inr ⟨by omega, ?_⟩⟩
                rcases alt with ⟨_, rfl⟩ | ⟨_, rest, rfl⟩
                · rw [show j = as.length by omega]
                  exact ⟨[], rfl⟩
                · exact ⟨rest ++ [V.int (0 + (j : Int))], rfl⟩
              · have e := eq_fl e
                have nb : bothB L Rs1[j] = true := Classical.byContradiction fun z => e (by have := one.mpr z; omega)
                refine ⟨s15, ks, hM, by omega, ?_⟩
                have jne : j ≠ as.length := fun z => by
                  have q : Rs1[j] = R := by
                    subst z
                    rw [List.getElem?_eq_getElem hj] at atk
                    exact Option.some.inj atk
                  rw [q, nbO.o] at nb
                  cases nb
                rcases alt with ⟨a1, a2⟩ | ⟨a1, a2⟩
                · exact .inl ⟨by omega, a2⟩
                · exact .inr ⟨by omega, a2⟩
            · rintro H15 ⟨s15, ks, hM, lks, alt⟩
              obtain ⟨rest, rfl⟩ : ∃ rest, ks = V.int (0 + (as.length : Int)) :: rest := by
                rcases alt with ⟨a1, _⟩ | ⟨_, a2⟩
                · exfalso
                  rw [List.length_map] at a1
                  omega
                · exact a2
              have hSM := SqL.of (K := K) hM
              have hr15 := SqL.of (K := K) (s15 _ _ hr14)
              have hD15 := SqL.of (K := K) (s15 _ _ hD14)
              obtain ⟨u, eu, hu⟩ := (TpAll.mono (Same.tk s15) _ _ hus14).get (i := as.length) (d := rnD R) (by rw [List.getElem?_map, atk]; rfl)
              obtain ⟨ub, us5, rfl, hub, hus5⟩ := (show Tp K H15 u (.tuple (R.map fun k : Nat => PyData.int (k : Int))) from hu).tupI
              have eus5 := ints_tp hus5
              subst eus5
              have ek : (Rs1.map (tsOf L))[as.length]? = some [tuOf L s0] := by rw [List.getElem?_map, atk, ← ts0]; rfl
              obtain ⟨bt, ebt, hbt⟩ := LsAt.get hbs14 ek
              have hbt15 := SqL.of (K := K) (s15 _ _ hbt)
              have hat1 : atI us (0 + (as.length : Int)) = some (.ref ub) := by
                rw [Int.zero_add]
                exact atI_nat eu
              have hat2 : atI (bs.map V.ref) (0 + (as.length : Int)) = some (.ref bt) := by
                rw [Int.zero_add]
                exact atI_nat (by rw [List.getElem?_map, ebt]; rfl)
              have hat3 : atI (R.map fun k : Nat => V.int (k : Int)) (0 : Int) = some (.int (s0 : Int)) := atI_nat (j := 0) (by
                rw [List.getElem?_map, List.getElem?_eq_getElem cyc.pos, cyc.at cyc.pos]
                rfl)
              have ht15 := Tp.mono (Same.tk s15) _ _ ht14
              have hvb15 := (Same.tk s15).seqT hvb
              have hfv15 := Tp.mono (Same.tk s15) _ _ hfv
              have hwv15 := Tp.mono (Same.tk s15) _ _ hwv
              have s0L := Rlt s0 s0R
              walk_at "st"
              refine ite2 (fun c1 => ?_) (fun c1 => ?_)
              walk_at "st"
              intro a1 na1
              have f1 := tp_new (K := K) na1 (.cons (.int 0) (.cons (.int 0) (.cons (.int (s0 : Int)) .nil)))
              walk_at "st"
              intro a2 na2
              have f2 := tp_new (K := K) na2 (.cons (.int 0) (.cons (.int 1) (.cons (.int (s0 : Int)) .nil)))
              walk_at "st"
              intro a3 na3
              have f3 := tp_new (K := K) na3 (.cons (.int 1) (.cons (.int 0) (.cons (.int (s0 : Int)) .nil)))
              walk_at "st"
              intro a4 na4
              have f4 := tp_new (K := K) na4 (.cons (.int 1) (.cons (.int 1) (.cons (.int (s0 : Int)) .nil)))
              have g3 := Tp.mono (TK.new (o := .tup [.int 1, .int 1, .int (s0 : Int)]) na4) _ _ f3
              have g2 := Tp.mono (TK.new (o := .tup [.int 1, .int 1, .int (s0 : Int)]) na4) _ _ (Tp.mono (TK.new (o := .tup [.int 1, .int 0, .int (s0 : Int)]) na3) _ _ f2)
              have g1 := Tp.mono (TK.new (o := .tup [.int 1, .int 1, .int (s0 : Int)]) na4) _ _ (Tp.mono (TK.new (o := .tup [.int 1, .int 0, .int (s0 : Int)]) na3) _ _ (Tp.mono (TK.new (o := .tup [.int 0, .int 1, .int (s0 : Int)]) na2) _ _ f1))
              have s14' := Same.trans (Same.new (o := .tup [.int 0, .int 0, .int (s0 : Int)]) na1) (Same.trans (Same.new (o := .tup [.int 0, .int 1, .int (s0 : Int)]) na2) (Same.trans (Same.new (o := .tup [.int 1, .int 0, .int (s0 : Int)]) na3) (Same.new (o := .tup [.int 1, .int 1, .int (s0 : Int)]) na4)))
              walk_at "st"
              intro fl nfl
              have hfl := tp_new (K := K) nfl (.cons g1 (.cons g2 (.cons g3 (.cons f4 .nil))))
              have s16 := Same.trans s14' (Same.new (o := .tup [.ref a1, .ref a2, .ref a3, .ref a4]) nfl)
              have hfl := sqF_tp1 (by have := of_decide_eq_true c1; omega) hfl
              clear f1 f2 f3 f4 g1 g2 g3 s14' na1 na2 na3
              generalize hH16 : upd (upd (upd (upd (upd H15 a1 (.tup [.int 0, .int 0, .int (s0 : Int)])) a2 (.tup [.int 0, .int 1, .int (s0 : Int)])) a3 (.tup [.int 1, .int 0, .int (s0 : Int)])) a4 (.tup [.int 1, .int 1, .int (s0 : Int)])) fl (.tup [.ref a1, .ref a2, .ref a3, .ref a4]) = H16 at *
              clear hH16
              rotate_left
              walk_at "st"
              intro fl nfl
              have hfl := tp_new (K := K) nfl .nil
              have s16 := Same.new (o := .tup []) nfl
              have hfl := sqF_tp0 (c := (s0 : Int)) (by have : ¬ _ := fun z => c1 (decide_eq_true z); omega) hfl
              generalize hH16 : upd H15 fl (.tup []) = H16 at *
              clear hH16
              all_goals
                have tk16 := Same.tk s16
                have ht16 := Tp.mono tk16 _ _ ht15
                have hvb16 := tk16.seqT hvb15
                have hfv16 := Tp.mono tk16 _ _ hfv15
                have hwv16 := Tp.mono tk16 _ _ hwv15
                have hr16 := s16 _ _ (s15 _ _ hr14)
                have hub16 := tk16.seqT hub
                have hSr16 := SqL.of (K := K) hr16
                have okS := hL.sqOk s0L (tuOf L s0)
                have lsq : (sqF (s0 : Int)).length ≤ 4 := by
                  unfold sqF
                  split
                  · exact Nat.zero_le _
                  · exact Nat.le_refl 4
                have okA : okD 5 (stepD (sqF (s0 : Int)) (sqW (tuOf L s0))) := okD_step _ (by omega)
                have rgt : Ok (∀ {z1 z2 : WSt} {i j : Nat}, Ends [tRow L] (colF (sqF (s0 : Int)), sqW (tuOf L s0)) 0 i z1 → Ends [tRow L] z1 (4 * R.length) j z2 → HoldsNS [tRow L] (.round, 0, 4 * R.length) z1 z2 i j) := ⟨fun e1 e2 => round_right hL s0L cyc Rlt nbO.o e1 e2⟩
                rcases hL.tu13 s0L with et | et
                · rw [et] at hwv16 okS okA rgt ⊢
                  have hwv16 : Tp K H16 wv (wkD (sqW 1)) := hwv16
                  have hfv16 : Tp K H16 fv (floorD (sqF (s0 : Int))) := hfv16
                  walk_at "st"
                  intro wp nwp
                  have hwp := tp_new (K := K) nwp (.cons (.int 0) (.cons (.int 0) (.cons (.int 0) (.cons (.int 0) .nil))))
                  have s17' := Same.new (o := .tup [.int 0, .int 0, .int 0, .int 0]) nwp
                  have hfl17 := Tp.mono (Same.tk s17') _ _ hfl
                  walk_at "st"
                  intro tp ntp
                  have htp := tp_new (K := K) ntp (.cons hfl17 (.cons hwp .nil))
                  have s18' := Same.trans s17' (Same.new (o := .tup [.ref fl, .ref wp]) ntp)
                  have tk18 := Same.tk s18'
                  have hvb18 := tk18.seqT hvb16
                  have hfv18 := Tp.mono tk18 _ _ hfv16
                  have hwv18 := Tp.mono tk18 _ _ hwv16
                  have dA : Dp K _ (.ref vb) (stepD (sqF (s0 : Int)) (sqW 1)) := Tp.dp _ _ (.tup hvb18 (.cons hfv18 (.cons hwv18 .nil)))
                  have dB : Dp K _ (.ref tp) (stepD (sqF (s0 : Int)) (sqW 1)) := Tp.dp _ _ htp
                  refine ⟨_, _, _, rfl, dA, dB, okA, ?_⟩
                  intro H19 s19
                  have s1619 := Same.trans s18' s19
                  have tk19 := Same.tk s1619
                  have ht19 := Tp.mono tk19 _ _ ht16
                  have hvb19 := tk19.seqT hvb16
                  have hfv19 := Tp.mono tk19 _ _ hfv16
                  have hwv19 := Tp.mono tk19 _ _ hwv16
                  have hub19 := tk19.seqT hub16
                  have hSr19 := SqL.of (K := K) (s1619 _ _ hr16)
                  have lR : (R.map fun k : Nat => V.int (k : Int)).length = R.length := List.length_map _
                  have cm : CMul 4 ((R.map fun k : Nat => V.int (k : Int)).length : Int) := by
                    rw [lR]
                    exact .inl ⟨by decide, by decide⟩
                  walk_at "st"
                  intro pp npp
                  have hpp : Tp K (upd H19 pp (.tup [.str "round", .int 0, .int (4 * ((R.map fun k : Nat => V.int (k : Int)).length : Int))])) (.ref pp) (papD (.round, 0, 4 * R.length)) := by
                    have z := tp_new (K := K) npp (.cons (.str "round") (.cons (.int 0) (.cons (.int (4 * ((R.map fun k : Nat => V.int (k : Int)).length : Int))) .nil)))
                    rw [lR] at z
                    have e : ((4 * R.length : Nat) : Int) = 4 * (R.length : Int) := by omega
                    rw [← e] at z
                    rw [lR, ← e]
                    exact z
                  have sp := Same.new (o := .tup [.str "round", .int 0, .int (4 * ((R.map fun k : Nat => V.int (k : Int)).length : Int))]) npp
                  have tkp := Same.tk sp
                  have htp20 := Tp.mono tkp _ _ ht19
                  have hfvp := Tp.mono tkp _ _ hfv19
                  have hwvp := Tp.mono tkp _ _ hwv19
                  have pok : PapOk (.round, 0, 4 * R.length) := ⟨by show 0 ≤ 100000; decide, fun z => (by cases z), fun _ => (by show 1 ≤ 4 * R.length; have := cyc.pos; omega), by show 4 * R.length ≤ 2000; omega⟩
                  have hvbp := tkp.seqT hvb19
                  walk_at "st"
                  refine ⟨fun z => (by cases z), by show (sqF (s0 : Int)).length + 0 + 4 * R.length ≤ 3000; omega, ?_⟩
                  intro b z1 z2 i j H20 e1 e2 hb s20
                  have bt : b = true := hb.mpr (rgt.o e1 e2)
                  subst bt
                  walk_at "st"
                  exact q _
                · rw [et] at hwv16 okS okA rgt ⊢
                  have hwv16 : Tp K H16 wv (wkD (sqW 3)) := hwv16
                  have hfv16 : Tp K H16 fv (floorD (sqF (s0 : Int))) := hfv16
                  walk_at "st"
                  intro wp nwp
                  have hwp := tp_new (K := K) nwp (.cons (.int 0) (.cons (.int 0) (.cons (.int 3) (.cons (.int 0) .nil))))
                  have s17' := Same.new (o := .tup [.int 0, .int 0, .int 3, .int 0]) nwp
                  have hfl17 := Tp.mono (Same.tk s17') _ _ hfl
                  walk_at "st"
                  intro tp ntp
                  have htp := tp_new (K := K) ntp (.cons hfl17 (.cons hwp .nil))
                  have s18' := Same.trans s17' (Same.new (o := .tup [.ref fl, .ref wp]) ntp)
                  have tk18 := Same.tk s18'
                  have hvb18 := tk18.seqT hvb16
                  have hfv18 := Tp.mono tk18 _ _ hfv16
                  have hwv18 := Tp.mono tk18 _ _ hwv16
                  have dA : Dp K _ (.ref vb) (stepD (sqF (s0 : Int)) (sqW 3)) := Tp.dp _ _ (.tup hvb18 (.cons hfv18 (.cons hwv18 .nil)))
                  have dB : Dp K _ (.ref tp) (stepD (sqF (s0 : Int)) (sqW 3)) := Tp.dp _ _ htp
                  refine ⟨_, _, _, rfl, dA, dB, okA, ?_⟩
                  intro H19 s19
                  have s1619 := Same.trans s18' s19
                  have tk19 := Same.tk s1619
                  have ht19 := Tp.mono tk19 _ _ ht16
                  have hvb19 := tk19.seqT hvb16
                  have hfv19 := Tp.mono tk19 _ _ hfv16
                  have hwv19 := Tp.mono tk19 _ _ hwv16
                  have hub19 := tk19.seqT hub16
                  have hSr19 := SqL.of (K := K) (s1619 _ _ hr16)
                  have lR : (R.map fun k : Nat => V.int (k : Int)).length = R.length := List.length_map _
                  have cm : CMul 4 ((R.map fun k : Nat => V.int (k : Int)).length : Int) := by
                    rw [lR]
                    exact .inl ⟨by decide, by decide⟩
                  walk_at "st"
                  intro pp npp
                  have hpp : Tp K (upd H19 pp (.tup [.str "round", .int 0, .int (4 * ((R.map fun k : Nat => V.int (k : Int)).length : Int))])) (.ref pp) (papD (.round, 0, 4 * R.length)) := by
                    have z := tp_new (K := K) npp (.cons (.str "round") (.cons (.int 0) (.cons (.int (4 * ((R.map fun k : Nat => V.int (k : Int)).length : Int))) .nil)))
                    rw [lR] at z
                    have e : ((4 * R.length : Nat) : Int) = 4 * (R.length : Int) := by omega
                    rw [← e] at z
                    rw [lR, ← e]
                    exact z
                  have sp := Same.new (o := .tup [.str "round", .int 0, .int (4 * ((R.map fun k : Nat => V.int (k : Int)).length : Int))]) npp
                  have tkp := Same.tk sp
                  have htp20 := Tp.mono tkp _ _ ht19
                  have hfvp := Tp.mono tkp _ _ hfv19
                  have hwvp := Tp.mono tkp _ _ hwv19
                  have pok : PapOk (.round, 0, 4 * R.length) := ⟨by show 0 ≤ 100000; decide, fun z => (by cases z), fun _ => (by show 1 ≤ 4 * R.length; have := cyc.pos; omega), by show 4 * R.length ≤ 2000; omega⟩
                  have hvbp := tkp.seqT hvb19
                  walk_at "st"
                  refine ⟨fun z => (by cases z), by show (sqF (s0 : Int)).length + 0 + 4 * R.length ≤ 3000; omega, ?_⟩
                  intro b z1 z2 i j H20 e1 e2 hb s20
                  have bt : b = true := hb.mpr (rgt.o e1 e2)
                  subst bt
                  walk_at "st"
                  exact q _
end

theorem defAt_mk {K : PySem.W.Frag} {mg : Str → Option Value} {h : Heap} {x : Str} {st : Stmt} {ps : List Str} {f : Addr} {od an : Option Addr} {sl : Array (Option Value)} {oc kV dc pm cd ct : Value} (X : K.In h) (G : h.Ns mainGlobals mg) (a : PySem.W.nsIn K mainGlobals x = some (some (.ref f))) (l : K.lookup f = some ⟨oc, od, .func (PySem.W.fnOf x x (defArgs st) (defBody st) (defScope st) .none kV dc pm an cd ct), sl⟩) (c : PySem.W.codeIn K cd x = true) (k : PySem.W.keepIn K (.ref f) = true)
    (hb : ∀ (kV doc pm : Value) (an : Option Addr) (cdv ct : Value) (us : List Value), us.length = ps.length → bindArgs (PySem.W.fnOf x x (defArgs st) (defBody st) (defScope st) .none kV doc pm an cdv ct) ⟨us, []⟩ = pure (ps.zip us)) : DefAt K mg x st ps := by
  have F := fun_mk (st := st) l c k
  exact ⟨f, _, F, PySem.W.mg_of X G a, F.binds hb⟩
theorem metAt_mk {K : PySem.W.Frag} {C : Addr} {m qual : Str} {st : Stmt} {ps : List Str} {f : Addr} {od an : Option Addr} {sl : Array (Option Value)} {oc kV dc pm cd ct : Value} (a : PySem.W.findIn K (.ref C) m = some (some (.ref f))) (t : PySem.W.typeIn K (.ref f) = some (.type "function")) (l : K.lookup f = some ⟨oc, od, .func (PySem.W.fnOf m qual (defArgs st) (defBody st) (defScope st) .none kV dc pm an cd ct), sl⟩) (c : PySem.W.codeIn K cd qual = true) (k : PySem.W.keepIn K (.ref f) = true)
    (hb : ∀ (kV doc pm : Value) (an : Option Addr) (cdv ct : Value) (us : List Value), us.length = ps.length → bindArgs (PySem.W.fnOf m qual (defArgs st) (defBody st) (defScope st) .none kV doc pm an cdv ct) ⟨us, []⟩ = pure (ps.zip us)) : MetAt K C m qual st ps := by
  have F := fun_mk (st := st) l c k
  exact ⟨f, _, a, t, F, F.binds hb⟩
theorem metAtD_mk {K : PySem.W.Frag} {C : Addr} {m qual : Str} {st : Stmt} {ps : List Str} {f T : Addr} {its : Array Value} {tn : Nat} {dvs : List V} {od an : Option Addr} {sl : Array (Option Value)} {oc kV dc pm cd ct : Value} (n : Nat) (a : PySem.W.findIn K (.ref C) m = some (some (.ref f))) (t : PySem.W.typeIn K (.ref f) = some (.type "function")) (l : K.lookup f = some ⟨oc, od, .func (PySem.W.fnOf m qual (defArgs st) (defBody st) (defScope st) (.ref T) kV dc pm an cd ct), sl⟩) (c : PySem.W.codeIn K cd qual = true) (k : PySem.W.keepIn K (.ref f) = true)
    (lT : K.lookup T = some { cls := .type "tuple", data := .seq its tn }) (rv : Vals dvs its.toList) (hd : dvs ≠ []) (hn : n + (dvs.length - 0) = ps.length)
    (hb : ∀ (T : Addr) (kV doc pm : Value) (an : Option Addr) (cdv ct : Value) (us its : List Value), us.length = n → its.length = dvs.length → ∃ k, bindArgs (PySem.W.fnOf m qual (defArgs st) (defBody st) (defScope st) (.ref T) kV doc pm an cdv ct) ⟨us, []⟩ = seqItems? (.ref T) >>= k ∧ k (some its.toArray) = pure (ps.zip (us ++ its.drop 0))) : MetAtD K C m qual st ps dvs := by
  have F : FunD K m qual (defArgs st) (defBody st) (defScope st) dvs [] f _ := ⟨⟨oc, od, .ref T, kV, dc, pm, an, cd, ct, sl, rfl, l, c, .inr ⟨hd, T, _, its.toList, tn, rfl, lT, rfl, rv⟩, .inl rfl⟩, k⟩
  obtain ⟨ds, v, b⟩ := F.binds1 n 0 hd hn hb
  exact ⟨f, _, ds, a, t, F, v, b⟩
theorem all_mk {P : Program} {w : World} {K : PySem.W.Frag} {h : Heap} {mg : Str → Option Value} {fa : Addr} {f0 : Addr} {od0 an0 : Option Addr} {sl0 : Array (Option Value)} {oc0 kV0 dc0 pm0 cd0 ct0 : Value} {f1 : Addr} {od1 an1 : Option Addr} {sl1 : Array (Option Value)} {oc1 kV1 dc1 pm1 cd1 ct1 : Value} {f2 : Addr} {od2 an2 : Option Addr} {sl2 : Array (Option Value)} {oc2 kV2 dc2 pm2 cd2 ct2 : Value} {f3 : Addr} {od3 an3 : Option Addr} {sl3 : Array (Option Value)} {oc3 kV3 dc3 pm3 cd3 ct3 : Value} {f4 : Addr} {od4 an4 : Option Addr} {sl4 : Array (Option Value)} {oc4 kV4 dc4 pm4 cd4 ct4 : Value} {f5 : Addr} {od5 an5 : Option Addr} {sl5 : Array (Option Value)} {oc5 kV5 dc5 pm5 cd5 ct5 : Value} {f6 : Addr} {od6 an6 : Option Addr} {sl6 : Array (Option Value)} {oc6 kV6 dc6 pm6 cd6 ct6 : Value} {f7 : Addr} {od7 an7 : Option Addr} {sl7 : Array (Option Value)} {oc7 kV7 dc7 pm7 cd7 ct7 : Value} {f8 : Addr} {od8 an8 : Option Addr} {sl8 : Array (Option Value)} {oc8 kV8 dc8 pm8 cd8 ct8 : Value} {f9 : Addr} {od9 an9 : Option Addr} {sl9 : Array (Option Value)} {oc9 kV9 dc9 pm9 cd9 ct9 : Value} {f10 : Addr} {od10 an10 : Option Addr} {sl10 : Array (Option Value)} {oc10 kV10 dc10 pm10 cd10 ct10 : Value} {f11 : Addr} {od11 an11 : Option Addr} {sl11 : Array (Option Value)} {oc11 kV11 dc11 pm11 cd11 ct11 : Value} {f12 : Addr} {od12 an12 : Option Addr} {sl12 : Array (Option Value)} {oc12 kV12 dc12 pm12 cd12 ct12 : Value} {f13 : Addr} {od13 an13 : Option Addr} {sl13 : Array (Option Value)} {oc13 kV13 dc13 pm13 cd13 ct13 : Value} {f14 : Addr} {od14 an14 : Option Addr} {sl14 : Array (Option Value)} {oc14 kV14 dc14 pm14 cd14 ct14 : Value} {f15 : Addr} {od15 an15 : Option Addr} {sl15 : Array (Option Value)} {oc15 kV15 dc15 pm15 cd15 ct15 : Value} {f16 : Addr} {od16 an16 : Option Addr} {sl16 : Array (Option Value)} {oc16 kV16 dc16 pm16 cd16 ct16 : Value} {f17 : Addr} {od17 an17 : Option Addr} {sl17 : Array (Option Value)} {oc17 kV17 dc17 pm17 cd17 ct17 : Value} {f18 : Addr} {od18 an18 : Option Addr} {sl18 : Array (Option Value)} {oc18 kV18 dc18 pm18 cd18 ct18 : Value} {f19 : Addr} {od19 an19 : Option Addr} {sl19 : Array (Option Value)} {oc19 kV19 dc19 pm19 cd19 ct19 : Value} {f20 : Addr} {od20 an20 : Option Addr} {sl20 : Array (Option Value)} {oc20 kV20 dc20 pm20 cd20 ct20 : Value} {f21 : Addr} {od21 an21 : Option Addr} {sl21 : Array (Option Value)} {oc21 kV21 dc21 pm21 cd21 ct21 : Value} {f22 : Addr} {od22 an22 : Option Addr} {sl22 : Array (Option Value)} {oc22 kV22 dc22 pm22 cd22 ct22 : Value} {f23 : Addr} {od23 an23 : Option Addr} {sl23 : Array (Option Value)} {oc23 kV23 dc23 pm23 cd23 ct23 : Value} {f24 : Addr} {od24 an24 : Option Addr} {sl24 : Array (Option Value)} {oc24 kV24 dc24 pm24 cd24 ct24 : Value} {f25 : Addr} {od25 an25 : Option Addr} {sl25 : Array (Option Value)} {oc25 kV25 dc25 pm25 cd25 ct25 : Value} {f26 : Addr} {od26 an26 : Option Addr} {sl26 : Array (Option Value)} {oc26 kV26 dc26 pm26 cd26 ct26 : Value} {f27 : Addr} {od27 an27 : Option Addr} {sl27 : Array (Option Value)} {oc27 kV27 dc27 pm27 cd27 ct27 : Value} {f28 : Addr} {od28 an28 : Option Addr} {sl28 : Array (Option Value)} {oc28 kV28 dc28 pm28 cd28 ct28 : Value} {f29 : Addr} {od29 an29 : Option Addr} {sl29 : Array (Option Value)} {oc29 kV29 dc29 pm29 cd29 ct29 : Value} {f30 : Addr} {od30 an30 : Option Addr} {sl30 : Array (Option Value)} {oc30 kV30 dc30 pm30 cd30 ct30 : Value} {f31 : Addr} {od31 an31 : Option Addr} {sl31 : Array (Option Value)} {oc31 kV31 dc31 pm31 cd31 ct31 : Value} {f32 : Addr} {od32 an32 : Option Addr} {sl32 : Array (Option Value)} {oc32 kV32 dc32 pm32 cd32 ct32 : Value} {f33 : Addr} {od33 an33 : Option Addr} {sl33 : Array (Option Value)} {oc33 kV33 dc33 pm33 cd33 ct33 : Value} {f34 : Addr} {od34 an34 : Option Addr} {sl34 : Array (Option Value)} {oc34 kV34 dc34 pm34 cd34 ct34 : Value} {f35 : Addr} {od35 an35 : Option Addr} {sl35 : Array (Option Value)} {oc35 kV35 dc35 pm35 cd35 ct35 : Value} {f36 : Addr} {od36 an36 : Option Addr} {sl36 : Array (Option Value)} {oc36 kV36 dc36 pm36 cd36 ct36 : Value} {f37 : Addr} {od37 an37 : Option Addr} {sl37 : Array (Option Value)} {oc37 kV37 dc37 pm37 cd37 ct37 : Value} {f38 : Addr} {od38 an38 : Option Addr} {sl38 : Array (Option Value)} {oc38 kV38 dc38 pm38 cd38 ct38 : Value} {t_FAR : Tok} {t_MOST_STATES : Tok} {t_FEWEST_COLOURS : Tok} {t_MOST_COLOURS : Tok} {t_RIGHT : Tok} {t_LEFT : Tok} {t_MOST_SQUARES : Tok} {t_MOST_STEPS : Tok} {hA hB0 hB1 hB2 hB3 : Addr} {hn hn0 hn1 hn2 hn3 : Nat} {ht1 ht2 ht3 ht4 ht5 ht6 ht7 ht8 : Tok} {t_LONGEST_PERIOD : Tok} {C_Stroll : Addr} {f_Stroll_init : Addr} {od_Stroll_init an_Stroll_init : Option Addr} {sl_Stroll_init : Array (Option Value)} {oc_Stroll_init kV_Stroll_init dc_Stroll_init pm_Stroll_init cd_Stroll_init ct_Stroll_init : Value} {dT_Stroll_init : Addr} {dn_Stroll_init : Nat} {hBL hBL0 : Addr} {nBL nBL0 : Nat} {tBL : Tok} {f_Stroll_colour_of : Addr} {od_Stroll_colour_of an_Stroll_colour_of : Option Addr} {sl_Stroll_colour_of : Array (Option Value)} {oc_Stroll_colour_of kV_Stroll_colour_of dc_Stroll_colour_of pm_Stroll_colour_of cd_Stroll_colour_of ct_Stroll_colour_of : Value} {f_Stroll_paint : Addr} {od_Stroll_paint an_Stroll_paint : Option Addr} {sl_Stroll_paint : Array (Option Value)} {oc_Stroll_paint kV_Stroll_paint dc_Stroll_paint pm_Stroll_paint cd_Stroll_paint ct_Stroll_paint : Value} {f_Stroll_reading : Addr} {od_Stroll_reading an_Stroll_reading : Option Addr} {sl_Stroll_reading : Array (Option Value)} {oc_Stroll_reading kV_Stroll_reading dc_Stroll_reading pm_Stroll_reading cd_Stroll_reading ct_Stroll_reading : Value} {f_Stroll_has_stopped : Addr} {od_Stroll_has_stopped an_Stroll_has_stopped : Option Addr} {sl_Stroll_has_stopped : Array (Option Value)} {oc_Stroll_has_stopped kV_Stroll_has_stopped dc_Stroll_has_stopped pm_Stroll_has_stopped cd_Stroll_has_stopped ct_Stroll_has_stopped : Value} {f_Stroll_go : Addr} {od_Stroll_go an_Stroll_go : Option Addr} {sl_Stroll_go : Array (Option Value)} {oc_Stroll_go kV_Stroll_go dc_Stroll_go pm_Stroll_go cd_Stroll_go ct_Stroll_go : Value} {C_Course : Addr} {f_Course_init : Addr} {od_Course_init an_Course_init : Option Addr} {sl_Course_init : Array (Option Value)} {oc_Course_init kV_Course_init dc_Course_init pm_Course_init cd_Course_init ct_Course_init : Value} {f_Course_holds : Addr} {od_Course_holds an_Course_holds : Option Addr} {sl_Course_holds : Array (Option Value)} {oc_Course_holds kV_Course_holds dc_Course_holds pm_Course_holds cd_Course_holds ct_Course_holds : Value} (X : K.In h) (G : h.Ns mainGlobals mg) (hfa : mg "law" = some (.ref fa))
    (a0 : PySem.W.nsIn K mainGlobals "_wall" = some (some (.ref f0)))
    (l0 : K.lookup f0 = some ⟨oc0, od0, .func (PySem.W.fnOf "_wall" "_wall" (defArgs s_u_wall) (defBody s_u_wall) (defScope s_u_wall) .none kV0 dc0 pm0 an0 cd0 ct0), sl0⟩)
    (c0 : PySem.W.codeIn K cd0 "_wall" = true)
    (k0 : PySem.W.keepIn K (.ref f0) = true)
    (a1 : PySem.W.nsIn K mainGlobals "is_whole" = some (some (.ref f1)))
    (l1 : K.lookup f1 = some ⟨oc1, od1, .func (PySem.W.fnOf "is_whole" "is_whole" (defArgs s_is_whole) (defBody s_is_whole) (defScope s_is_whole) .none kV1 dc1 pm1 an1 cd1 ct1), sl1⟩)
    (c1 : PySem.W.codeIn K cd1 "is_whole" = true)
    (k1 : PySem.W.keepIn K (.ref f1) = true)
    (a2 : PySem.W.nsIn K mainGlobals "is_place" = some (some (.ref f2)))
    (l2 : K.lookup f2 = some ⟨oc2, od2, .func (PySem.W.fnOf "is_place" "is_place" (defArgs s_is_place) (defBody s_is_place) (defScope s_is_place) .none kV2 dc2 pm2 an2 cd2 ct2), sl2⟩)
    (c2 : PySem.W.codeIn K cd2 "is_place" = true)
    (k2 : PySem.W.keepIn K (.ref f2) = true)
    (a3 : PySem.W.nsIn K mainGlobals "check_table" = some (some (.ref f3)))
    (l3 : K.lookup f3 = some ⟨oc3, od3, .func (PySem.W.fnOf "check_table" "check_table" (defArgs s_check_table) (defBody s_check_table) (defScope s_check_table) .none kV3 dc3 pm3 an3 cd3 ct3), sl3⟩)
    (c3 : PySem.W.codeIn K cd3 "check_table" = true)
    (k3 : PySem.W.keepIn K (.ref f3) = true)
    (a4 : PySem.W.nsIn K mainGlobals "is_table" = some (some (.ref f4)))
    (l4 : K.lookup f4 = some ⟨oc4, od4, .func (PySem.W.fnOf "is_table" "is_table" (defArgs s_is_table) (defBody s_is_table) (defScope s_is_table) .none kV4 dc4 pm4 an4 cd4 ct4), sl4⟩)
    (c4 : PySem.W.codeIn K cd4 "is_table" = true)
    (k4 : PySem.W.keepIn K (.ref f4) = true)
    (a5 : PySem.W.nsIn K mainGlobals "_is_entry" = some (some (.ref f5)))
    (l5 : K.lookup f5 = some ⟨oc5, od5, .func (PySem.W.fnOf "_is_entry" "_is_entry" (defArgs s_u_is_entry) (defBody s_u_is_entry) (defScope s_u_is_entry) .none kV5 dc5 pm5 an5 cd5 ct5), sl5⟩)
    (c5 : PySem.W.codeIn K cd5 "_is_entry" = true)
    (k5 : PySem.W.keepIn K (.ref f5) = true)
    (a6 : PySem.W.nsIn K mainGlobals "colour_rounds" = some (some (.ref f6)))
    (l6 : K.lookup f6 = some ⟨oc6, od6, .func (PySem.W.fnOf "colour_rounds" "colour_rounds" (defArgs s_colour_rounds) (defBody s_colour_rounds) (defScope s_colour_rounds) .none kV6 dc6 pm6 an6 cd6 ct6), sl6⟩)
    (c6 : PySem.W.codeIn K cd6 "colour_rounds" = true)
    (k6 : PySem.W.keepIn K (.ref f6) = true)
    (a7 : PySem.W.nsIn K mainGlobals "never_bounded" = some (some (.ref f7)))
    (l7 : K.lookup f7 = some ⟨oc7, od7, .func (PySem.W.fnOf "never_bounded" "never_bounded" (defArgs s_never_bounded) (defBody s_never_bounded) (defScope s_never_bounded) .none kV7 dc7 pm7 an7 cd7 ct7), sl7⟩)
    (c7 : PySem.W.codeIn K cd7 "never_bounded" = true)
    (k7 : PySem.W.keepIn K (.ref f7) = true)
    (a8 : PySem.W.nsIn K mainGlobals "bound_stand" = some (some (.ref f8)))
    (l8 : K.lookup f8 = some ⟨oc8, od8, .func (PySem.W.fnOf "bound_stand" "bound_stand" (defArgs s_bound_stand) (defBody s_bound_stand) (defScope s_bound_stand) .none kV8 dc8 pm8 an8 cd8 ct8), sl8⟩)
    (c8 : PySem.W.codeIn K cd8 "bound_stand" = true)
    (k8 : PySem.W.keepIn K (.ref f8) = true)
    (a9 : PySem.W.nsIn K mainGlobals "_check_turning" = some (some (.ref f9)))
    (l9 : K.lookup f9 = some ⟨oc9, od9, .func (PySem.W.fnOf "_check_turning" "_check_turning" (defArgs s_u_check_turning) (defBody s_u_check_turning) (defScope s_u_check_turning) .none kV9 dc9 pm9 an9 cd9 ct9), sl9⟩)
    (c9 : PySem.W.codeIn K cd9 "_check_turning" = true)
    (k9 : PySem.W.keepIn K (.ref f9) = true)
    (a10 : PySem.W.nsIn K mainGlobals "_rounds" = some (some (.ref f10)))
    (l10 : K.lookup f10 = some ⟨oc10, od10, .func (PySem.W.fnOf "_rounds" "_rounds" (defArgs s_u_rounds) (defBody s_u_rounds) (defScope s_u_rounds) .none kV10 dc10 pm10 an10 cd10 ct10), sl10⟩)
    (c10 : PySem.W.codeIn K cd10 "_rounds" = true)
    (k10 : PySem.W.keepIn K (.ref f10) = true)
    (a11 : PySem.W.nsIn K mainGlobals "_turns_both_ways" = some (some (.ref f11)))
    (l11 : K.lookup f11 = some ⟨oc11, od11, .func (PySem.W.fnOf "_turns_both_ways" "_turns_both_ways" (defArgs s_u_turns_both_ways) (defBody s_u_turns_both_ways) (defScope s_u_turns_both_ways) .none kV11 dc11 pm11 an11 cd11 ct11), sl11⟩)
    (c11 : PySem.W.codeIn K cd11 "_turns_both_ways" = true)
    (k11 : PySem.W.keepIn K (.ref f11) = true)
    (a12 : PySem.W.nsIn K mainGlobals "_square_stand" = some (some (.ref f12)))
    (l12 : K.lookup f12 = some ⟨oc12, od12, .func (PySem.W.fnOf "_square_stand" "_square_stand" (defArgs s_u_square_stand) (defBody s_u_square_stand) (defScope s_u_square_stand) .none kV12 dc12 pm12 an12 cd12 ct12), sl12⟩)
    (c12 : PySem.W.codeIn K cd12 "_square_stand" = true)
    (k12 : PySem.W.keepIn K (.ref f12) = true)
    (a13 : PySem.W.nsIn K mainGlobals "check_floor" = some (some (.ref f13)))
    (l13 : K.lookup f13 = some ⟨oc13, od13, .func (PySem.W.fnOf "check_floor" "check_floor" (defArgs s_check_floor) (defBody s_check_floor) (defScope s_check_floor) .none kV13 dc13 pm13 an13 cd13 ct13), sl13⟩)
    (c13 : PySem.W.codeIn K cd13 "check_floor" = true)
    (k13 : PySem.W.keepIn K (.ref f13) = true)
    (a14 : PySem.W.nsIn K mainGlobals "painted_places" = some (some (.ref f14)))
    (l14 : K.lookup f14 = some ⟨oc14, od14, .func (PySem.W.fnOf "painted_places" "painted_places" (defArgs s_painted_places) (defBody s_painted_places) (defScope s_painted_places) .none kV14 dc14 pm14 an14 cd14 ct14), sl14⟩)
    (c14 : PySem.W.codeIn K cd14 "painted_places" = true)
    (k14 : PySem.W.keepIn K (.ref f14) = true)
    (a15 : PySem.W.nsIn K mainGlobals "ground_colour" = some (some (.ref f15)))
    (l15 : K.lookup f15 = some ⟨oc15, od15, .func (PySem.W.fnOf "ground_colour" "ground_colour" (defArgs s_ground_colour) (defBody s_ground_colour) (defScope s_ground_colour) .none kV15 dc15 pm15 an15 cd15 ct15), sl15⟩)
    (c15 : PySem.W.codeIn K cd15 "ground_colour" = true)
    (k15 : PySem.W.keepIn K (.ref f15) = true)
    (a16 : PySem.W.nsIn K mainGlobals "paint_square" = some (some (.ref f16)))
    (l16 : K.lookup f16 = some ⟨oc16, od16, .func (PySem.W.fnOf "paint_square" "paint_square" (defArgs s_paint_square) (defBody s_paint_square) (defScope s_paint_square) .none kV16 dc16 pm16 an16 cd16 ct16), sl16⟩)
    (c16 : PySem.W.codeIn K cd16 "paint_square" = true)
    (k16 : PySem.W.keepIn K (.ref f16) = true)
    (a17 : PySem.W.nsIn K mainGlobals "_is_square" = some (some (.ref f17)))
    (l17 : K.lookup f17 = some ⟨oc17, od17, .func (PySem.W.fnOf "_is_square" "_is_square" (defArgs s_u_is_square) (defBody s_u_is_square) (defScope s_u_is_square) .none kV17 dc17 pm17 an17 cd17 ct17), sl17⟩)
    (c17 : PySem.W.codeIn K cd17 "_is_square" = true)
    (k17 : PySem.W.keepIn K (.ref f17) = true)
    (a18 : PySem.W.nsIn K mainGlobals "check_stand" = some (some (.ref f18)))
    (l18 : K.lookup f18 = some ⟨oc18, od18, .func (PySem.W.fnOf "check_stand" "check_stand" (defArgs s_check_stand) (defBody s_check_stand) (defScope s_check_stand) .none kV18 dc18 pm18 an18 cd18 ct18), sl18⟩)
    (c18 : PySem.W.codeIn K cd18 "check_stand" = true)
    (k18 : PySem.W.keepIn K (.ref f18) = true)
    (a19 : PySem.W.nsIn K mainGlobals "check_walker" = some (some (.ref f19)))
    (l19 : K.lookup f19 = some ⟨oc19, od19, .func (PySem.W.fnOf "check_walker" "check_walker" (defArgs s_check_walker) (defBody s_check_walker) (defScope s_check_walker) .none kV19 dc19 pm19 an19 cd19 ct19), sl19⟩)
    (c19 : PySem.W.codeIn K cd19 "check_walker" = true)
    (k19 : PySem.W.keepIn K (.ref f19) = true)
    (a20 : PySem.W.nsIn K mainGlobals "is_walker" = some (some (.ref f20)))
    (l20 : K.lookup f20 = some ⟨oc20, od20, .func (PySem.W.fnOf "is_walker" "is_walker" (defArgs s_is_walker) (defBody s_is_walker) (defScope s_is_walker) .none kV20 dc20 pm20 an20 cd20 ct20), sl20⟩)
    (c20 : PySem.W.codeIn K cd20 "is_walker" = true)
    (k20 : PySem.W.keepIn K (.ref f20) = true)
    (a21 : PySem.W.nsIn K mainGlobals "_walker_behind" = some (some (.ref f21)))
    (l21 : K.lookup f21 = some ⟨oc21, od21, .func (PySem.W.fnOf "_walker_behind" "_walker_behind" (defArgs s_u_walker_behind) (defBody s_u_walker_behind) (defScope s_u_walker_behind) .none kV21 dc21 pm21 an21 cd21 ct21), sl21⟩)
    (c21 : PySem.W.codeIn K cd21 "_walker_behind" = true)
    (k21 : PySem.W.keepIn K (.ref f21) = true)
    (a22 : PySem.W.nsIn K mainGlobals "shows_paper" = some (some (.ref f22)))
    (l22 : K.lookup f22 = some ⟨oc22, od22, .func (PySem.W.fnOf "shows_paper" "shows_paper" (defArgs s_shows_paper) (defBody s_shows_paper) (defScope s_shows_paper) .none kV22 dc22 pm22 an22 cd22 ct22), sl22⟩)
    (c22 : PySem.W.codeIn K cd22 "shows_paper" = true)
    (k22 : PySem.W.keepIn K (.ref f22) = true)
    (a23 : PySem.W.nsIn K mainGlobals "is_paper" = some (some (.ref f23)))
    (l23 : K.lookup f23 = some ⟨oc23, od23, .func (PySem.W.fnOf "is_paper" "is_paper" (defArgs s_is_paper) (defBody s_is_paper) (defScope s_is_paper) .none kV23 dc23 pm23 an23 cd23 ct23), sl23⟩)
    (c23 : PySem.W.codeIn K cd23 "is_paper" = true)
    (k23 : PySem.W.keepIn K (.ref f23) = true)
    (a24 : PySem.W.nsIn K mainGlobals "lane_of" = some (some (.ref f24)))
    (l24 : K.lookup f24 = some ⟨oc24, od24, .func (PySem.W.fnOf "lane_of" "lane_of" (defArgs s_lane_of) (defBody s_lane_of) (defScope s_lane_of) .none kV24 dc24 pm24 an24 cd24 ct24), sl24⟩)
    (c24 : PySem.W.codeIn K cd24 "lane_of" = true)
    (k24 : PySem.W.keepIn K (.ref f24) = true)
    (a25 : PySem.W.nsIn K mainGlobals "_copied" = some (some (.ref f25)))
    (l25 : K.lookup f25 = some ⟨oc25, od25, .func (PySem.W.fnOf "_copied" "_copied" (defArgs s_u_copied) (defBody s_u_copied) (defScope s_u_copied) .none kV25 dc25 pm25 an25 cd25 ct25), sl25⟩)
    (c25 : PySem.W.codeIn K cd25 "_copied" = true)
    (k25 : PySem.W.keepIn K (.ref f25) = true)
    (a26 : PySem.W.nsIn K mainGlobals "_repeats_for_ever" = some (some (.ref f26)))
    (l26 : K.lookup f26 = some ⟨oc26, od26, .func (PySem.W.fnOf "_repeats_for_ever" "_repeats_for_ever" (defArgs s_u_repeats_for_ever) (defBody s_u_repeats_for_ever) (defScope s_u_repeats_for_ever) .none kV26 dc26 pm26 an26 cd26 ct26), sl26⟩)
    (c26 : PySem.W.codeIn K cd26 "_repeats_for_ever" = true)
    (k26 : PySem.W.keepIn K (.ref f26) = true)
    (a27 : PySem.W.nsIn K mainGlobals "_lane_visits" = some (some (.ref f27)))
    (l27 : K.lookup f27 = some ⟨oc27, od27, .func (PySem.W.fnOf "_lane_visits" "_lane_visits" (defArgs s_u_lane_visits) (defBody s_u_lane_visits) (defScope s_u_lane_visits) .none kV27 dc27 pm27 an27 cd27 ct27), sl27⟩)
    (c27 : PySem.W.codeIn K cd27 "_lane_visits" = true)
    (k27 : PySem.W.keepIn K (.ref f27) = true)
    (a28 : PySem.W.nsIn K mainGlobals "_lane_ground" = some (some (.ref f28)))
    (l28 : K.lookup f28 = some ⟨oc28, od28, .func (PySem.W.fnOf "_lane_ground" "_lane_ground" (defArgs s_u_lane_ground) (defBody s_u_lane_ground) (defScope s_u_lane_ground) .none kV28 dc28 pm28 an28 cd28 ct28), sl28⟩)
    (c28 : PySem.W.codeIn K cd28 "_lane_ground" = true)
    (k28 : PySem.W.keepIn K (.ref f28) = true)
    (a29 : PySem.W.nsIn K mainGlobals "_lane_repeats" = some (some (.ref f29)))
    (l29 : K.lookup f29 = some ⟨oc29, od29, .func (PySem.W.fnOf "_lane_repeats" "_lane_repeats" (defArgs s_u_lane_repeats) (defBody s_u_lane_repeats) (defScope s_u_lane_repeats) .none kV29 dc29 pm29 an29 cd29 ct29), sl29⟩)
    (c29 : PySem.W.codeIn K cd29 "_lane_repeats" = true)
    (k29 : PySem.W.keepIn K (.ref f29) = true)
    (a30 : PySem.W.nsIn K mainGlobals "_law_taken" = some (some (.ref f30)))
    (l30 : K.lookup f30 = some ⟨oc30, od30, .func (PySem.W.fnOf "_law_taken" "_law_taken" (defArgs s_law_taken) (defBody s_law_taken) (defScope s_law_taken) .none kV30 dc30 pm30 an30 cd30 ct30), sl30⟩)
    (c30 : PySem.W.codeIn K cd30 "_law_taken" = true)
    (k30 : PySem.W.keepIn K (.ref f30) = true)
    (a31 : PySem.W.nsIn K mainGlobals "_law_pick" = some (some (.ref f31)))
    (l31 : K.lookup f31 = some ⟨oc31, od31, .func (PySem.W.fnOf "_law_pick" "_law_pick" (defArgs s_law_pick) (defBody s_law_pick) (defScope s_law_pick) .none kV31 dc31 pm31 an31 cd31 ct31), sl31⟩)
    (c31 : PySem.W.codeIn K cd31 "_law_pick" = true)
    (k31 : PySem.W.keepIn K (.ref f31) = true)
    (a32 : PySem.W.nsIn K mainGlobals "_law_ahead" = some (some (.ref f32)))
    (l32 : K.lookup f32 = some ⟨oc32, od32, .func (PySem.W.fnOf "_law_ahead" "_law_ahead" (defArgs s_law_ahead) (defBody s_law_ahead) (defScope s_law_ahead) .none kV32 dc32 pm32 an32 cd32 ct32), sl32⟩)
    (c32 : PySem.W.codeIn K cd32 "_law_ahead" = true)
    (k32 : PySem.W.keepIn K (.ref f32) = true)
    (a33 : PySem.W.nsIn K mainGlobals "_law_step" = some (some (.ref f33)))
    (l33 : K.lookup f33 = some ⟨oc33, od33, .func (PySem.W.fnOf "_law_step" "_law_step" (defArgs s_law_step) (defBody s_law_step) (defScope s_law_step) .none kV33 dc33 pm33 an33 cd33 ct33), sl33⟩)
    (c33 : PySem.W.codeIn K cd33 "_law_step" = true)
    (k33 : PySem.W.keepIn K (.ref f33) = true)
    (a34 : PySem.W.nsIn K mainGlobals "_law_alike" = some (some (.ref f34)))
    (l34 : K.lookup f34 = some ⟨oc34, od34, .func (PySem.W.fnOf "_law_alike" "_law_alike" (defArgs s_law_alike) (defBody s_law_alike) (defScope s_law_alike) .none kV34 dc34 pm34 an34 cd34 ct34), sl34⟩)
    (c34 : PySem.W.codeIn K cd34 "_law_alike" = true)
    (k34 : PySem.W.keepIn K (.ref f34) = true)
    (a35 : PySem.W.nsIn K mainGlobals "_law_turning_table" = some (some (.ref f35)))
    (l35 : K.lookup f35 = some ⟨oc35, od35, .func (PySem.W.fnOf "_law_turning_table" "_law_turning_table" (defArgs s_law_turning_table) (defBody s_law_turning_table) (defScope s_law_turning_table) .none kV35 dc35 pm35 an35 cd35 ct35), sl35⟩)
    (c35 : PySem.W.codeIn K cd35 "_law_turning_table" = true)
    (k35 : PySem.W.keepIn K (.ref f35) = true)
    (a36 : PySem.W.nsIn K mainGlobals "_law_power" = some (some (.ref f36)))
    (l36 : K.lookup f36 = some ⟨oc36, od36, .func (PySem.W.fnOf "_law_power" "_law_power" (defArgs s_law_power) (defBody s_law_power) (defScope s_law_power) .none kV36 dc36 pm36 an36 cd36 ct36), sl36⟩)
    (c36 : PySem.W.codeIn K cd36 "_law_power" = true)
    (k36 : PySem.W.keepIn K (.ref f36) = true)
    (a37 : PySem.W.nsIn K mainGlobals "_law_leaves" = some (some (.ref f37)))
    (l37 : K.lookup f37 = some ⟨oc37, od37, .func (PySem.W.fnOf "_law_leaves" "_law_leaves" (defArgs s_law_leaves) (defBody s_law_leaves) (defScope s_law_leaves) .none kV37 dc37 pm37 an37 cd37 ct37), sl37⟩)
    (c37 : PySem.W.codeIn K cd37 "_law_leaves" = true)
    (k37 : PySem.W.keepIn K (.ref f37) = true)
    (a38 : PySem.W.nsIn K mainGlobals "law" = some (some (.ref f38)))
    (l38 : K.lookup f38 = some ⟨oc38, od38, .func (PySem.W.fnOf "law" "law" (defArgs s_law) (defBody s_law) (defScope s_law) .none kV38 dc38 pm38 an38 cd38 ct38), sl38⟩)
    (c38 : PySem.W.codeIn K cd38 "law" = true)
    (k38 : PySem.W.keepIn K (.ref f38) = true)
    (z_ValueError : PySem.W.nsIn K mainGlobals "ValueError" = some none)
    (z_all : PySem.W.nsIn K mainGlobals "all" = some none)
    (z_any : PySem.W.nsIn K mainGlobals "any" = some none)
    (z_bool : PySem.W.nsIn K mainGlobals "bool" = some none)
    (z_enumerate : PySem.W.nsIn K mainGlobals "enumerate" = some none)
    (z_int : PySem.W.nsIn K mainGlobals "int" = some none)
    (z_isinstance : PySem.W.nsIn K mainGlobals "isinstance" = some none)
    (z_len : PySem.W.nsIn K mainGlobals "len" = some none)
    (z_list : PySem.W.nsIn K mainGlobals "list" = some none)
    (z_range : PySem.W.nsIn K mainGlobals "range" = some none)
    (z_set : PySem.W.nsIn K mainGlobals "set" = some none)
    (z_sorted : PySem.W.nsIn K mainGlobals "sorted" = some none)
    (z_str : PySem.W.nsIn K mainGlobals "str" = some none)
    (z_tuple : PySem.W.nsIn K mainGlobals "tuple" = some none)
    (z_zip : PySem.W.nsIn K mainGlobals "zip" = some none)
    (g_FAR : PySem.W.nsIn K mainGlobals "FAR" = some (some (.int 1000000000000000000000000000000000000000000000000000000000000 t_FAR)))
    (g_MOST_STATES : PySem.W.nsIn K mainGlobals "MOST_STATES" = some (some (.int 10 t_MOST_STATES)))
    (g_FEWEST_COLOURS : PySem.W.nsIn K mainGlobals "FEWEST_COLOURS" = some (some (.int 2 t_FEWEST_COLOURS)))
    (g_MOST_COLOURS : PySem.W.nsIn K mainGlobals "MOST_COLOURS" = some (some (.int 6 t_MOST_COLOURS)))
    (g_RIGHT : PySem.W.nsIn K mainGlobals "RIGHT" = some (some (.int 1 t_RIGHT)))
    (g_LEFT : PySem.W.nsIn K mainGlobals "LEFT" = some (some (.int 3 t_LEFT)))
    (g_MOST_SQUARES : PySem.W.nsIn K mainGlobals "MOST_SQUARES" = some (some (.int 4000 t_MOST_SQUARES)))
    (g_MOST_STEPS : PySem.W.nsIn K mainGlobals "MOST_STEPS" = some (some (.int 100000 t_MOST_STEPS)))
    (g_AHEAD : PySem.W.nsIn K mainGlobals "AHEAD" = some (some (.ref hA)))
    (lA : K.lookup hA = some { cls := .type "tuple", data := .seq #[.ref hB0, .ref hB1, .ref hB2, .ref hB3] hn })
    (lB0 : K.lookup hB0 = some { cls := .type "tuple", data := .seq #[.int 0 ht1, .int (-1) ht2] hn0 })
    (lB1 : K.lookup hB1 = some { cls := .type "tuple", data := .seq #[.int 1 ht3, .int 0 ht4] hn1 })
    (lB2 : K.lookup hB2 = some { cls := .type "tuple", data := .seq #[.int 0 ht5, .int 1 ht6] hn2 })
    (lB3 : K.lookup hB3 = some { cls := .type "tuple", data := .seq #[.int (-1) ht7, .int 0 ht8] hn3 })
    (g_LONGEST_PERIOD : PySem.W.nsIn K mainGlobals "LONGEST_PERIOD" = some (some (.int 2000 t_LONGEST_PERIOD)))
    (a_Stroll : PySem.W.nsIn K mainGlobals "Stroll" = some (some (.ref C_Stroll)))
    (pg_Stroll : PySem.W.plainGet K C_Stroll Str.empty = true)
    (hd_Stroll : PySem.W.hasDictIn K C_Stroll = true)
    (po_Stroll : PySem.W.plainOver K C_Stroll = true)
    (sa_Stroll : PySem.W.findIn K (.ref C_Stroll) "__setattr__" = some (some (.builtin "object.__setattr__")))
    (mk_Stroll : PySem.W.makesIn K C_Stroll = true)
    (kc_Stroll : PySem.W.keepIn K (.ref C_Stroll) = true)
    (n_Stroll_table : PySem.W.findIn K (.ref C_Stroll) "table" = some none)
    (n_Stroll_ground : PySem.W.findIn K (.ref C_Stroll) "ground" = some none)
    (n_Stroll_painted : PySem.W.findIn K (.ref C_Stroll) "painted" = some none)
    (n_Stroll_walker : PySem.W.findIn K (.ref C_Stroll) "walker" = some none)
    (iA_Stroll_init : PySem.W.findIn K (.ref C_Stroll) "__init__" = some (some (.ref f_Stroll_init)))
    (iT_Stroll_init : PySem.W.typeIn K (.ref f_Stroll_init) = some (.type "function"))
    (iL_Stroll_init : K.lookup f_Stroll_init = some ⟨oc_Stroll_init, od_Stroll_init, .func (PySem.W.fnOf "__init__" "Stroll.__init__" (defArgs s_Stroll_init) (defBody s_Stroll_init) (defScope s_Stroll_init) (.ref dT_Stroll_init) kV_Stroll_init dc_Stroll_init pm_Stroll_init an_Stroll_init cd_Stroll_init ct_Stroll_init), sl_Stroll_init⟩)
    (dL_Stroll_init : K.lookup dT_Stroll_init = some { cls := .type "tuple", data := .seq #[.ref hBL] dn_Stroll_init })
    (lBL : K.lookup hBL = some { cls := .type "tuple", data := .seq #[.ref hBL0] nBL })
    (lBL0 : K.lookup hBL0 = some { cls := .type "tuple", data := .seq #[.int 0 tBL] nBL0 })
    (iC_Stroll_init : PySem.W.codeIn K cd_Stroll_init "Stroll.__init__" = true)
    (iK_Stroll_init : PySem.W.keepIn K (.ref f_Stroll_init) = true)
    (iA_Stroll_colour_of : PySem.W.findIn K (.ref C_Stroll) "colour_of" = some (some (.ref f_Stroll_colour_of)))
    (iT_Stroll_colour_of : PySem.W.typeIn K (.ref f_Stroll_colour_of) = some (.type "function"))
    (iL_Stroll_colour_of : K.lookup f_Stroll_colour_of = some ⟨oc_Stroll_colour_of, od_Stroll_colour_of, .func (PySem.W.fnOf "colour_of" "Stroll.colour_of" (defArgs s_Stroll_colour_of) (defBody s_Stroll_colour_of) (defScope s_Stroll_colour_of) .none kV_Stroll_colour_of dc_Stroll_colour_of pm_Stroll_colour_of an_Stroll_colour_of cd_Stroll_colour_of ct_Stroll_colour_of), sl_Stroll_colour_of⟩)
    (iC_Stroll_colour_of : PySem.W.codeIn K cd_Stroll_colour_of "Stroll.colour_of" = true)
    (iK_Stroll_colour_of : PySem.W.keepIn K (.ref f_Stroll_colour_of) = true)
    (iA_Stroll_paint : PySem.W.findIn K (.ref C_Stroll) "paint" = some (some (.ref f_Stroll_paint)))
    (iT_Stroll_paint : PySem.W.typeIn K (.ref f_Stroll_paint) = some (.type "function"))
    (iL_Stroll_paint : K.lookup f_Stroll_paint = some ⟨oc_Stroll_paint, od_Stroll_paint, .func (PySem.W.fnOf "paint" "Stroll.paint" (defArgs s_Stroll_paint) (defBody s_Stroll_paint) (defScope s_Stroll_paint) .none kV_Stroll_paint dc_Stroll_paint pm_Stroll_paint an_Stroll_paint cd_Stroll_paint ct_Stroll_paint), sl_Stroll_paint⟩)
    (iC_Stroll_paint : PySem.W.codeIn K cd_Stroll_paint "Stroll.paint" = true)
    (iK_Stroll_paint : PySem.W.keepIn K (.ref f_Stroll_paint) = true)
    (iA_Stroll_reading : PySem.W.findIn K (.ref C_Stroll) "reading" = some (some (.ref f_Stroll_reading)))
    (iT_Stroll_reading : PySem.W.typeIn K (.ref f_Stroll_reading) = some (.type "function"))
    (iL_Stroll_reading : K.lookup f_Stroll_reading = some ⟨oc_Stroll_reading, od_Stroll_reading, .func (PySem.W.fnOf "reading" "Stroll.reading" (defArgs s_Stroll_reading) (defBody s_Stroll_reading) (defScope s_Stroll_reading) .none kV_Stroll_reading dc_Stroll_reading pm_Stroll_reading an_Stroll_reading cd_Stroll_reading ct_Stroll_reading), sl_Stroll_reading⟩)
    (iC_Stroll_reading : PySem.W.codeIn K cd_Stroll_reading "Stroll.reading" = true)
    (iK_Stroll_reading : PySem.W.keepIn K (.ref f_Stroll_reading) = true)
    (iA_Stroll_has_stopped : PySem.W.findIn K (.ref C_Stroll) "has_stopped" = some (some (.ref f_Stroll_has_stopped)))
    (iT_Stroll_has_stopped : PySem.W.typeIn K (.ref f_Stroll_has_stopped) = some (.type "function"))
    (iL_Stroll_has_stopped : K.lookup f_Stroll_has_stopped = some ⟨oc_Stroll_has_stopped, od_Stroll_has_stopped, .func (PySem.W.fnOf "has_stopped" "Stroll.has_stopped" (defArgs s_Stroll_has_stopped) (defBody s_Stroll_has_stopped) (defScope s_Stroll_has_stopped) .none kV_Stroll_has_stopped dc_Stroll_has_stopped pm_Stroll_has_stopped an_Stroll_has_stopped cd_Stroll_has_stopped ct_Stroll_has_stopped), sl_Stroll_has_stopped⟩)
    (iC_Stroll_has_stopped : PySem.W.codeIn K cd_Stroll_has_stopped "Stroll.has_stopped" = true)
    (iK_Stroll_has_stopped : PySem.W.keepIn K (.ref f_Stroll_has_stopped) = true)
    (iA_Stroll_go : PySem.W.findIn K (.ref C_Stroll) "go" = some (some (.ref f_Stroll_go)))
    (iT_Stroll_go : PySem.W.typeIn K (.ref f_Stroll_go) = some (.type "function"))
    (iL_Stroll_go : K.lookup f_Stroll_go = some ⟨oc_Stroll_go, od_Stroll_go, .func (PySem.W.fnOf "go" "Stroll.go" (defArgs s_Stroll_go) (defBody s_Stroll_go) (defScope s_Stroll_go) .none kV_Stroll_go dc_Stroll_go pm_Stroll_go an_Stroll_go cd_Stroll_go ct_Stroll_go), sl_Stroll_go⟩)
    (iC_Stroll_go : PySem.W.codeIn K cd_Stroll_go "Stroll.go" = true)
    (iK_Stroll_go : PySem.W.keepIn K (.ref f_Stroll_go) = true)
    (a_Course : PySem.W.nsIn K mainGlobals "Course" = some (some (.ref C_Course)))
    (pg_Course : PySem.W.plainGet K C_Course Str.empty = true)
    (hd_Course : PySem.W.hasDictIn K C_Course = true)
    (po_Course : PySem.W.plainOver K C_Course = true)
    (sa_Course : PySem.W.findIn K (.ref C_Course) "__setattr__" = some (some (.builtin "object.__setattr__")))
    (mk_Course : PySem.W.makesIn K C_Course = true)
    (kc_Course : PySem.W.keepIn K (.ref C_Course) = true)
    (n_Course_kind : PySem.W.findIn K (.ref C_Course) "kind" = some none)
    (n_Course_first : PySem.W.findIn K (.ref C_Course) "first" = some none)
    (n_Course_period : PySem.W.findIn K (.ref C_Course) "period" = some none)
    (n_Course_stroll : PySem.W.findIn K (.ref C_Course) "stroll" = some none)
    (n_Course_at_first : PySem.W.findIn K (.ref C_Course) "at_first" = some none)
    (n_Course_start : PySem.W.findIn K (.ref C_Course) "start" = some none)
    (n_Course_ahead : PySem.W.findIn K (.ref C_Course) "ahead" = some none)
    (n_Course_loop : PySem.W.findIn K (.ref C_Course) "loop" = some none)
    (n_Course_end : PySem.W.findIn K (.ref C_Course) "end" = some none)
    (n_Course_steps : PySem.W.findIn K (.ref C_Course) "steps" = some none)
    (n_Course_move : PySem.W.findIn K (.ref C_Course) "move" = some none)
    (iA_Course_init : PySem.W.findIn K (.ref C_Course) "__init__" = some (some (.ref f_Course_init)))
    (iT_Course_init : PySem.W.typeIn K (.ref f_Course_init) = some (.type "function"))
    (iL_Course_init : K.lookup f_Course_init = some ⟨oc_Course_init, od_Course_init, .func (PySem.W.fnOf "__init__" "Course.__init__" (defArgs s_Course_init) (defBody s_Course_init) (defScope s_Course_init) .none kV_Course_init dc_Course_init pm_Course_init an_Course_init cd_Course_init ct_Course_init), sl_Course_init⟩)
    (iC_Course_init : PySem.W.codeIn K cd_Course_init "Course.__init__" = true)
    (iK_Course_init : PySem.W.keepIn K (.ref f_Course_init) = true)
    (iA_Course_holds : PySem.W.findIn K (.ref C_Course) "holds" = some (some (.ref f_Course_holds)))
    (iT_Course_holds : PySem.W.typeIn K (.ref f_Course_holds) = some (.type "function"))
    (iL_Course_holds : K.lookup f_Course_holds = some ⟨oc_Course_holds, od_Course_holds, .func (PySem.W.fnOf "holds" "Course.holds" (defArgs s_Course_holds) (defBody s_Course_holds) (defScope s_Course_holds) .none kV_Course_holds dc_Course_holds pm_Course_holds an_Course_holds cd_Course_holds ct_Course_holds), sl_Course_holds⟩)
    (iC_Course_holds : PySem.W.codeIn K cd_Course_holds "Course.holds" = true)
    (iK_Course_holds : PySem.W.keepIn K (.ref f_Course_holds) = true)
    : ∃ fd : FuncData, (∀ (s : Shared) (v : Value), BindsTo s fd ⟨[v], []⟩ [("script", v)]) ∧ ∀ base : Heap, K.In base → base.Ns mainGlobals mg → FnOk P w K mg base CX0 7 fa fd ["script"] (spLaw K) := by
  have e := hfa.symm.trans (PySem.W.mg_of X G a38)
  cases e
  have D_wall : DefAt K mg "_wall" s_u_wall ["k"] := defAt_mk X G a0 l0 c0 k0 (fun _ _ _ _ _ _ us hl => match us, hl with | [_], _ => rfl)
  have D_is_whole : DefAt K mg "is_whole" s_is_whole ["value", "least", "greatest"] := defAt_mk X G a1 l1 c1 k1 (fun _ _ _ _ _ _ us hl => match us, hl with | [_, _, _], _ => rfl)
  have D_is_place : DefAt K mg "is_place" s_is_place ["value"] := defAt_mk X G a2 l2 c2 k2 (fun _ _ _ _ _ _ us hl => match us, hl with | [_], _ => rfl)
  have D_check_table : DefAt K mg "check_table" s_check_table ["value"] := defAt_mk X G a3 l3 c3 k3 (fun _ _ _ _ _ _ us hl => match us, hl with | [_], _ => rfl)
  have D_is_table : DefAt K mg "is_table" s_is_table ["value"] := defAt_mk X G a4 l4 c4 k4 (fun _ _ _ _ _ _ us hl => match us, hl with | [_], _ => rfl)
  have D_is_entry : DefAt K mg "_is_entry" s_u_is_entry ["value", "colours", "states"] := defAt_mk X G a5 l5 c5 k5 (fun _ _ _ _ _ _ us hl => match us, hl with | [_, _, _], _ => rfl)
  have D_colour_rounds : DefAt K mg "colour_rounds" s_colour_rounds ["table"] := defAt_mk X G a6 l6 c6 k6 (fun _ _ _ _ _ _ us hl => match us, hl with | [_], _ => rfl)
  have D_never_bounded : DefAt K mg "never_bounded" s_never_bounded ["table"] := defAt_mk X G a7 l7 c7 k7 (fun _ _ _ _ _ _ us hl => match us, hl with | [_], _ => rfl)
  have D_bound_stand : DefAt K mg "bound_stand" s_bound_stand ["table"] := defAt_mk X G a8 l8 c8 k8 (fun _ _ _ _ _ _ us hl => match us, hl with | [_], _ => rfl)
  have D_check_turning : DefAt K mg "_check_turning" s_u_check_turning ["table"] := defAt_mk X G a9 l9 c9 k9 (fun _ _ _ _ _ _ us hl => match us, hl with | [_], _ => rfl)
  have D_rounds : DefAt K mg "_rounds" s_u_rounds ["table"] := defAt_mk X G a10 l10 c10 k10 (fun _ _ _ _ _ _ us hl => match us, hl with | [_], _ => rfl)
  have D_turns_both_ways : DefAt K mg "_turns_both_ways" s_u_turns_both_ways ["table", "colours"] := defAt_mk X G a11 l11 c11 k11 (fun _ _ _ _ _ _ us hl => match us, hl with | [_, _], _ => rfl)
  have D_square_stand : DefAt K mg "_square_stand" s_u_square_stand ["colour", "turn"] := defAt_mk X G a12 l12 c12 k12 (fun _ _ _ _ _ _ us hl => match us, hl with | [_, _], _ => rfl)
  have D_check_floor : DefAt K mg "check_floor" s_check_floor ["value", "colours"] := defAt_mk X G a13 l13 c13 k13 (fun _ _ _ _ _ _ us hl => match us, hl with | [_, _], _ => rfl)
  have D_painted_places : DefAt K mg "painted_places" s_painted_places ["floor"] := defAt_mk X G a14 l14 c14 k14 (fun _ _ _ _ _ _ us hl => match us, hl with | [_], _ => rfl)
  have D_ground_colour : DefAt K mg "ground_colour" s_ground_colour ["ground", "place"] := defAt_mk X G a15 l15 c15 k15 (fun _ _ _ _ _ _ us hl => match us, hl with | [_, _], _ => rfl)
  have D_paint_square : DefAt K mg "paint_square" s_paint_square ["painted", "place", "colour"] := defAt_mk X G a16 l16 c16 k16 (fun _ _ _ _ _ _ us hl => match us, hl with | [_, _, _], _ => rfl)
  have D_is_square : DefAt K mg "_is_square" s_u_is_square ["value", "colours"] := defAt_mk X G a17 l17 c17 k17 (fun _ _ _ _ _ _ us hl => match us, hl with | [_, _], _ => rfl)
  have D_check_stand : DefAt K mg "check_stand" s_check_stand ["table", "floor", "walker"] := defAt_mk X G a18 l18 c18 k18 (fun _ _ _ _ _ _ us hl => match us, hl with | [_, _, _], _ => rfl)
  have D_check_walker : DefAt K mg "check_walker" s_check_walker ["value", "states"] := defAt_mk X G a19 l19 c19 k19 (fun _ _ _ _ _ _ us hl => match us, hl with | [_, _], _ => rfl)
  have D_is_walker : DefAt K mg "is_walker" s_is_walker ["value", "states"] := defAt_mk X G a20 l20 c20 k20 (fun _ _ _ _ _ _ us hl => match us, hl with | [_, _], _ => rfl)
  have D_walker_behind : DefAt K mg "_walker_behind" s_u_walker_behind ["walker", "entry"] := defAt_mk X G a21 l21 c21 k21 (fun _ _ _ _ _ _ us hl => match us, hl with | [_, _], _ => rfl)
  have D_shows_paper : DefAt K mg "shows_paper" s_shows_paper ["table", "floor", "walker", "value"] := defAt_mk X G a22 l22 c22 k22 (fun _ _ _ _ _ _ us hl => match us, hl with | [_, _, _, _], _ => rfl)
  have D_is_paper : DefAt K mg "is_paper" s_is_paper ["value"] := defAt_mk X G a23 l23 c23 k23 (fun _ _ _ _ _ _ us hl => match us, hl with | [_], _ => rfl)
  have D_lane_of : DefAt K mg "lane_of" s_lane_of ["place", "move"] := defAt_mk X G a24 l24 c24 k24 (fun _ _ _ _ _ _ us hl => match us, hl with | [_, _], _ => rfl)
  have D_copied : DefAt K mg "_copied" s_u_copied ["painted"] := defAt_mk X G a25 l25 c25 k25 (fun _ _ _ _ _ _ us hl => match us, hl with | [_], _ => rfl)
  have D_repeats_for_ever : DefAt K mg "_repeats_for_ever" s_u_repeats_for_ever ["painted", "loop", "move", "ground"] := defAt_mk X G a26 l26 c26 k26 (fun _ _ _ _ _ _ us hl => match us, hl with | [_, _, _, _], _ => rfl)
  have D_lane_visits : DefAt K mg "_lane_visits" s_u_lane_visits ["loop", "move"] := defAt_mk X G a27 l27 c27 k27 (fun _ _ _ _ _ _ us hl => match us, hl with | [_, _], _ => rfl)
  have D_lane_ground : DefAt K mg "_lane_ground" s_u_lane_ground ["lane", "move", "ground"] := defAt_mk X G a28 l28 c28 k28 (fun _ _ _ _ _ _ us hl => match us, hl with | [_, _, _], _ => rfl)
  have D_lane_repeats : DefAt K mg "_lane_repeats" s_u_lane_repeats ["visits", "colours", "own"] := defAt_mk X G a29 l29 c29 k29 (fun _ _ _ _ _ _ us hl => match us, hl with | [_, _, _], _ => rfl)
  have D_law_taken : DefAt K mg "_law_taken" s_law_taken ["row", "many"] := defAt_mk X G a30 l30 c30 k30 (fun _ _ _ _ _ _ us hl => match us, hl with | [_, _], _ => rfl)
  have D_law_pick : DefAt K mg "_law_pick" s_law_pick ["row", "things"] := defAt_mk X G a31 l31 c31 k31 (fun _ _ _ _ _ _ us hl => match us, hl with | [_, _], _ => rfl)
  have D_law_ahead : DefAt K mg "_law_ahead" s_law_ahead ["place", "heading"] := defAt_mk X G a32 l32 c32 k32 (fun _ _ _ _ _ _ us hl => match us, hl with | [_, _], _ => rfl)
  have D_law_step : DefAt K mg "_law_step" s_law_step ["table", "cells", "walker"] := defAt_mk X G a33 l33 c33 k33 (fun _ _ _ _ _ _ us hl => match us, hl with | [_, _, _], _ => rfl)
  have D_law_alike : DefAt K mg "_law_alike" s_law_alike ["found", "due"] := defAt_mk X G a34 l34 c34 k34 (fun _ _ _ _ _ _ us hl => match us, hl with | [_, _], _ => rfl)
  have D_law_turning_table : DefAt K mg "_law_turning_table" s_law_turning_table ["row"] := defAt_mk X G a35 l35 c35 k35 (fun _ _ _ _ _ _ us hl => match us, hl with | [_], _ => rfl)
  have D_law_power : DefAt K mg "_law_power" s_law_power ["number", "many"] := defAt_mk X G a36 l36 c36 k36 (fun _ _ _ _ _ _ us hl => match us, hl with | [_, _], _ => rfl)
  have D_law_leaves : DefAt K mg "_law_leaves" s_law_leaves ["table", "cells", "walker", "wide", "high"] := defAt_mk X G a37 l37 c37 k37 (fun _ _ _ _ _ _ us hl => match us, hl with | [_, _, _, _, _], _ => rfl)
  have F_law : Fun K "law" "law" s_law _ _ := fun_mk (st := s_law) l38 c38 k38
  have T : Txt K mg := ⟨PySem.W.mg_none_of X G z_ValueError, PySem.W.mg_none_of X G z_all, PySem.W.mg_none_of X G z_any, PySem.W.mg_none_of X G z_bool, PySem.W.mg_none_of X G z_enumerate, PySem.W.mg_none_of X G z_int, PySem.W.mg_none_of X G z_isinstance, PySem.W.mg_none_of X G z_len, PySem.W.mg_none_of X G z_list, PySem.W.mg_none_of X G z_range, PySem.W.mg_none_of X G z_set, PySem.W.mg_none_of X G z_sorted, PySem.W.mg_none_of X G z_str, PySem.W.mg_none_of X G z_tuple, PySem.W.mg_none_of X G z_zip, ⟨_, PySem.W.mg_of X G g_FAR⟩, ⟨_, PySem.W.mg_of X G g_MOST_STATES⟩, ⟨_, PySem.W.mg_of X G g_FEWEST_COLOURS⟩, ⟨_, PySem.W.mg_of X G g_MOST_COLOURS⟩, ⟨_, PySem.W.mg_of X G g_RIGHT⟩, ⟨_, PySem.W.mg_of X G g_LEFT⟩, ⟨_, PySem.W.mg_of X G g_MOST_SQUARES⟩, ⟨_, PySem.W.mg_of X G g_MOST_STEPS⟩, ⟨hA, hB0, hB1, hB2, hB3, PySem.W.mg_of X G g_AHEAD, ktu_of lA (Nat.le_of_ble_eq_true rfl) (.cons rfl (.cons rfl (.cons rfl (.cons rfl .nil)))), (ktu_of lB0 (Nat.le_of_ble_eq_true rfl) (.cons ⟨_, rfl⟩ (.cons ⟨_, rfl⟩ .nil))), (ktu_of lB1 (Nat.le_of_ble_eq_true rfl) (.cons ⟨_, rfl⟩ (.cons ⟨_, rfl⟩ .nil))), (ktu_of lB2 (Nat.le_of_ble_eq_true rfl) (.cons ⟨_, rfl⟩ (.cons ⟨_, rfl⟩ .nil))), (ktu_of lB3 (Nat.le_of_ble_eq_true rfl) (.cons ⟨_, rfl⟩ (.cons ⟨_, rfl⟩ .nil)))⟩, ⟨_, PySem.W.mg_of X G g_LONGEST_PERIOD⟩⟩
  have S_Stroll : ClsS K mg C_Stroll := ⟨⟨pg_Stroll, hd_Stroll, po_Stroll, sa_Stroll⟩, n_Stroll_table, n_Stroll_ground, n_Stroll_painted, n_Stroll_walker, PySem.W.mg_of X G a_Stroll⟩
  have hBlank : ∀ H, Tp K H (.ref hBL) blankD := fun H => .tup (ktu_of (xs := [.ref hBL0]) lBL (Nat.le_of_ble_eq_true rfl) (.cons rfl .nil) H) (.cons (.tup (ktu_of (xs := [.int 0]) lBL0 (Nat.le_of_ble_eq_true rfl) (.cons ⟨_, rfl⟩ .nil) H) (.cons (.int 0) .nil)) .nil)
  have M_Stroll_init : MetAtD K C_Stroll "__init__" "Stroll.__init__" s_Stroll_init ["self", "table", "floor", "walker", "ground"] [.ref hBL] := metAtD_mk 4 iA_Stroll_init iT_Stroll_init iL_Stroll_init iC_Stroll_init iK_Stroll_init dL_Stroll_init (.cons rfl .nil) (by simp) rfl (fun _ _ _ _ _ _ _ us its hl hi => match us, its, hl, hi with | [_, _, _, _], [_], _, _ => ⟨_, rfl, rfl⟩)
  have M_Stroll_colour_of : MetAt K C_Stroll "colour_of" "Stroll.colour_of" s_Stroll_colour_of ["self", "place"] := metAt_mk iA_Stroll_colour_of iT_Stroll_colour_of iL_Stroll_colour_of iC_Stroll_colour_of iK_Stroll_colour_of (fun _ _ _ _ _ _ us hl => match us, hl with | [_, _], _ => rfl)
  have M_Stroll_paint : MetAt K C_Stroll "paint" "Stroll.paint" s_Stroll_paint ["self", "place", "colour"] := metAt_mk iA_Stroll_paint iT_Stroll_paint iL_Stroll_paint iC_Stroll_paint iK_Stroll_paint (fun _ _ _ _ _ _ us hl => match us, hl with | [_, _, _], _ => rfl)
  have M_Stroll_reading : MetAt K C_Stroll "reading" "Stroll.reading" s_Stroll_reading ["self"] := metAt_mk iA_Stroll_reading iT_Stroll_reading iL_Stroll_reading iC_Stroll_reading iK_Stroll_reading (fun _ _ _ _ _ _ us hl => match us, hl with | [_], _ => rfl)
  have M_Stroll_has_stopped : MetAt K C_Stroll "has_stopped" "Stroll.has_stopped" s_Stroll_has_stopped ["self"] := metAt_mk iA_Stroll_has_stopped iT_Stroll_has_stopped iL_Stroll_has_stopped iC_Stroll_has_stopped iK_Stroll_has_stopped (fun _ _ _ _ _ _ us hl => match us, hl with | [_], _ => rfl)
  have M_Stroll_go : MetAt K C_Stroll "go" "Stroll.go" s_Stroll_go ["self", "many"] := metAt_mk iA_Stroll_go iT_Stroll_go iL_Stroll_go iC_Stroll_go iK_Stroll_go (fun _ _ _ _ _ _ us hl => match us, hl with | [_, _], _ => rfl)
  have S_Course : ClsC K mg C_Course := ⟨⟨pg_Course, hd_Course, po_Course, sa_Course⟩, n_Course_kind, n_Course_first, n_Course_period, n_Course_stroll, n_Course_at_first, n_Course_start, n_Course_ahead, n_Course_loop, n_Course_end, n_Course_steps, n_Course_move, PySem.W.mg_of X G a_Course⟩
  have M_Course_init : MetAt K C_Course "__init__" "Course.__init__" s_Course_init ["self", "stroll", "paper"] := metAt_mk iA_Course_init iT_Course_init iL_Course_init iC_Course_init iK_Course_init (fun _ _ _ _ _ _ us hl => match us, hl with | [_, _, _], _ => rfl)
  have M_Course_holds : MetAt K C_Course "holds" "Course.holds" s_Course_holds ["self"] := metAt_mk iA_Course_holds iT_Course_holds iL_Course_holds iC_Course_holds iK_Course_holds (fun _ _ _ _ _ _ us hl => match us, hl with | [_], _ => rfl)
  refine ⟨PySem.W.fnOf "law" "law" (defArgs s_law) (defBody s_law) (defScope s_law) .none kV38 dc38 pm38 an38 cd38 ct38, fun s v => .of_eq rfl, fun base hb hg => ?_⟩
  have C_law_taken := ok_law_taken (P := P) (w := w) (base := base) T D_law_taken
  have C_law_pick := ok_law_pick T D_law_pick C_law_taken
  have C_law_turning_table := ok_law_turning_table T D_law_turning_table C_law_taken C_law_pick
  have C_is_whole := ok_is_whole (P := P) (w := w) (base := base) T D_is_whole
  have C_is_entry := ok_u_is_entry T D_is_entry C_is_whole
  have C_is_table := ok_is_table T D_is_table C_is_entry
  have C_check_table := ok_check_table T D_check_table C_is_table
  have C_is_place := ok_is_place T D_is_place C_is_whole
  have C_is_square := ok_u_is_square T D_is_square C_is_whole C_is_place
  have C_is_walker := ok_is_walker T D_is_walker C_is_whole C_is_place
  have C_check_walker := ok_check_walker T D_check_walker C_is_walker
  have C_check_floor := ok_check_floor T D_check_floor C_is_square
  have C_painted_places := ok_painted_places (P := P) (w := w) (base := base) T D_painted_places
  have C_paint_square := ok_paint_square (P := P) (w := w) (base := base) T D_paint_square
  have C_walker_behind := ok_u_walker_behind (P := P) (w := w) (base := base) T D_walker_behind
  have MCl := ok_Stroll_col (P := P) (w := w) (base := base) S_Stroll M_Stroll_colour_of
  have MPa := ok_Stroll_paint S_Stroll M_Stroll_paint C_paint_square
  have MI := ok_Stroll_init S_Stroll hBlank M_Stroll_init C_painted_places
  have MR := ok_Stroll_reading S_Stroll MCl M_Stroll_reading
  have MH := ok_Stroll_stopped S_Stroll MR M_Stroll_has_stopped
  have MG2 := ok_Stroll_go2 T S_Stroll MCl MPa M_Stroll_go C_walker_behind
  have C_copied := ok_u_copied (P := P) (w := w) (base := base) T D_copied
  have C_check_stand := ok_check_stand T D_check_stand C_check_table C_check_floor C_check_walker
  have C_turns_both_ways := ok_u_turns_both_ways (P := P) (w := w) (base := base) T D_turns_both_ways
  have C_check_turning := ok_u_check_turning T D_check_turning C_check_table
  have C_rounds := ok_u_rounds (P := P) (w := w) (base := base) T D_rounds
  have C_never_bounded := ok_never_bounded T D_never_bounded C_check_turning C_rounds C_turns_both_ways
  have C_colour_rounds := ok_colour_rounds T D_colour_rounds C_check_turning C_rounds
  have C_square_stand := ok_u_square_stand (P := P) (w := w) (base := base) T D_square_stand
  have C_bound_stand := ok_bound_stand T D_bound_stand C_check_turning C_rounds C_turns_both_ways C_square_stand
  have C_repeats_for_ever := D_repeats_for_ever.no (P := P) (w := w) (base := base) sc_u_repeats_for_ever
  have MC := ok_Course_init T S_Stroll S_Course MG2 M_Course_init C_copied
  have MHo := ok_Course_holdsNS T S_Stroll S_Course MH M_Course_holds C_repeats_for_ever
  have C_is_paper := ok_is_paper T D_is_paper C_is_whole
  have C_shows_paper := ok_shows_paperNS T S_Stroll S_Course mk_Stroll kc_Stroll mk_Course kc_Course MI MC MHo D_shows_paper C_check_stand C_is_paper
  have C_law_power := ok_law_power (P := P) (w := w) (base := base) T D_law_power
  have C_law_ahead := ok_law_ahead (P := P) (w := w) (base := base) T D_law_ahead
  have C_law_step := ok_law_step T D_law_step C_law_ahead
  have C_law_leaves := ok_law_leaves T D_law_leaves C_law_power C_law_step
  have C_law_alike := ok_law_alike (P := P) (w := w) (base := base) T D_law_alike 5
  exact ok_law T F_law C_law_turning_table C_law_taken C_law_pick C_law_alike C_colour_rounds C_never_bounded C_bound_stand C_shows_paper C_law_leaves
end Sb
open PySem PySem.W PyProof.Rows
set_option maxHeartbeats 0 in
theorem PySem.Challenge.cw_streetpapers_k08_whole_never_within_boun_holds : PySem.Challenge.rw_streetpapers_k08_whole_never_within_boun.Holds := by
  w_on; o_law; k_head; (case hw => w_witness2)
  k_fill
  refine L2.walk_of (l := PySem.Challenge.rw_streetpapers_k08_whole_never_within_boun) (n := 63) (k := 7) (x := "script") (CX := fun _ => L2.CX0) (sp := fun w => Sb.spLaw _) rfl (by decide) rfl ⟨rfl, by decide, by decide⟩ (fun w h Y => PySem.W.kIn_of Y) ?F (fun _ _ a ns hl o hS => ⟨a, ns, rfl, Sb.Scr.of o hS, fun _ => rfl⟩) (fun _ _ _ _ _ h => h)
  case F =>
    intro w mg fa h KX G hmg
    refine' Sb.all_mk KX G hmg ?a0 ?l0 ?c0 ?k0 ?a1 ?l1 ?c1 ?k1 ?a2 ?l2 ?c2 ?k2 ?a3 ?l3 ?c3 ?k3 ?a4 ?l4 ?c4 ?k4 ?a5 ?l5 ?c5 ?k5 ?a6 ?l6 ?c6 ?k6 ?a7 ?l7 ?c7 ?k7 ?a8 ?l8 ?c8 ?k8 ?a9 ?l9 ?c9 ?k9 ?a10 ?l10 ?c10 ?k10 ?a11 ?l11 ?c11 ?k11 ?a12 ?l12 ?c12 ?k12 ?a13 ?l13 ?c13 ?k13 ?a14 ?l14 ?c14 ?k14 ?a15 ?l15 ?c15 ?k15 ?a16 ?l16 ?c16 ?k16 ?a17 ?l17 ?c17 ?k17 ?a18 ?l18 ?c18 ?k18 ?a19 ?l19 ?c19 ?k19 ?a20 ?l20 ?c20 ?k20 ?a21 ?l21 ?c21 ?k21 ?a22 ?l22 ?c22 ?k22 ?a23 ?l23 ?c23 ?k23 ?a24 ?l24 ?c24 ?k24 ?a25 ?l25 ?c25 ?k25 ?a26 ?l26 ?c26 ?k26 ?a27 ?l27 ?c27 ?k27 ?a28 ?l28 ?c28 ?k28 ?a29 ?l29 ?c29 ?k29 ?a30 ?l30 ?c30 ?k30 ?a31 ?l31 ?c31 ?k31 ?a32 ?l32 ?c32 ?k32 ?a33 ?l33 ?c33 ?k33 ?a34 ?l34 ?c34 ?k34 ?a35 ?l35 ?c35 ?k35 ?a36 ?l36 ?c36 ?k36 ?a37 ?l37 ?c37 ?k37 ?a38 ?l38 ?c38 ?k38 ?z_ValueError ?z_all ?z_any ?z_bool ?z_enumerate ?z_int ?z_isinstance ?z_len ?z_list ?z_range ?z_set ?z_sorted ?z_str ?z_tuple ?z_zip ?g_FAR ?g_MOST_STATES ?g_FEWEST_COLOURS ?g_MOST_COLOURS ?g_RIGHT ?g_LEFT ?g_MOST_SQUARES ?g_MOST_STEPS ?g_AHEAD ?lA ?lB0 ?lB1 ?lB2 ?lB3 ?g_LONGEST_PERIOD ?a_Stroll ?pg_Stroll ?hd_Stroll ?po_Stroll ?sa_Stroll ?mk_Stroll ?kc_Stroll ?n_Stroll_table ?n_Stroll_ground ?n_Stroll_painted ?n_Stroll_walker ?iA_Stroll_init ?iT_Stroll_init ?iL_Stroll_init ?dL_Stroll_init ?lBL ?lBL0 ?iC_Stroll_init ?iK_Stroll_init ?iA_Stroll_colour_of ?iT_Stroll_colour_of ?iL_Stroll_colour_of ?iC_Stroll_colour_of ?iK_Stroll_colour_of ?iA_Stroll_paint ?iT_Stroll_paint ?iL_Stroll_paint ?iC_Stroll_paint ?iK_Stroll_paint ?iA_Stroll_reading ?iT_Stroll_reading ?iL_Stroll_reading ?iC_Stroll_reading ?iK_Stroll_reading ?iA_Stroll_has_stopped ?iT_Stroll_has_stopped ?iL_Stroll_has_stopped ?iC_Stroll_has_stopped ?iK_Stroll_has_stopped ?iA_Stroll_go ?iT_Stroll_go ?iL_Stroll_go ?iC_Stroll_go ?iK_Stroll_go ?a_Course ?pg_Course ?hd_Course ?po_Course ?sa_Course ?mk_Course ?kc_Course ?n_Course_kind ?n_Course_first ?n_Course_period ?n_Course_stroll ?n_Course_at_first ?n_Course_start ?n_Course_ahead ?n_Course_loop ?n_Course_end ?n_Course_steps ?n_Course_move ?iA_Course_init ?iT_Course_init ?iL_Course_init ?iC_Course_init ?iK_Course_init ?iA_Course_holds ?iT_Course_holds ?iL_Course_holds ?iC_Course_holds ?iK_Course_holds
    (case a0 => k_is)
    (case l0 => k_is)
    (case c0 => k_is)
    (case k0 => k_is)
    (case a1 => k_is)
    (case l1 => k_is)
    (case c1 => k_is)
    (case k1 => k_is)
    (case a2 => k_is)
    (case l2 => k_is)
    (case c2 => k_is)
    (case k2 => k_is)
    (case a3 => k_is)
    (case l3 => k_is)
    (case c3 => k_is)
    (case k3 => k_is)
    (case a4 => k_is)
    (case l4 => k_is)
    (case c4 => k_is)
    (case k4 => k_is)
    (case a5 => k_is)
    (case l5 => k_is)
    (case c5 => k_is)
    (case k5 => k_is)
    (case a6 => k_is)
    (case l6 => k_is)
    (case c6 => k_is)
    (case k6 => k_is)
    (case a7 => k_is)
    (case l7 => k_is)
    (case c7 => k_is)
    (case k7 => k_is)
    (case a8 => k_is)
    (case l8 => k_is)
    (case c8 => k_is)
    (case k8 => k_is)
    (case a9 => k_is)
    (case l9 => k_is)
    (case c9 => k_is)
    (case k9 => k_is)
    (case a10 => k_is)
    (case l10 => k_is)
    (case c10 => k_is)
    (case k10 => k_is)
    (case a11 => k_is)
    (case l11 => k_is)
    (case c11 => k_is)
    (case k11 => k_is)
    (case a12 => k_is)
    (case l12 => k_is)
    (case c12 => k_is)
    (case k12 => k_is)
    (case a13 => k_is)
    (case l13 => k_is)
    (case c13 => k_is)
    (case k13 => k_is)
    (case a14 => k_is)
    (case l14 => k_is)
    (case c14 => k_is)
    (case k14 => k_is)
    (case a15 => k_is)
    (case l15 => k_is)
    (case c15 => k_is)
    (case k15 => k_is)
    (case a16 => k_is)
    (case l16 => k_is)
    (case c16 => k_is)
    (case k16 => k_is)
    (case a17 => k_is)
    (case l17 => k_is)
    (case c17 => k_is)
    (case k17 => k_is)
    (case a18 => k_is)
    (case l18 => k_is)
    (case c18 => k_is)
    (case k18 => k_is)
    (case a19 => k_is)
    (case l19 => k_is)
    (case c19 => k_is)
    (case k19 => k_is)
    (case a20 => k_is)
    (case l20 => k_is)
    (case c20 => k_is)
    (case k20 => k_is)
    (case a21 => k_is)
    (case l21 => k_is)
    (case c21 => k_is)
    (case k21 => k_is)
    (case a22 => k_is)
    (case l22 => k_is)
    (case c22 => k_is)
    (case k22 => k_is)
    (case a23 => k_is)
    (case l23 => k_is)
    (case c23 => k_is)
    (case k23 => k_is)
    (case a24 => k_is)
    (case l24 => k_is)
    (case c24 => k_is)
    (case k24 => k_is)
    (case a25 => k_is)
    (case l25 => k_is)
    (case c25 => k_is)
    (case k25 => k_is)
    (case a26 => k_is)
    (case l26 => k_is)
    (case c26 => k_is)
    (case k26 => k_is)
    (case a27 => k_is)
    (case l27 => k_is)
    (case c27 => k_is)
    (case k27 => k_is)
    (case a28 => k_is)
    (case l28 => k_is)
    (case c28 => k_is)
    (case k28 => k_is)
    (case a29 => k_is)
    (case l29 => k_is)
    (case c29 => k_is)
    (case k29 => k_is)
    (case a30 => k_is)
    (case l30 => k_is)
    (case c30 => k_is)
    (case k30 => k_is)
    (case a31 => k_is)
    (case l31 => k_is)
    (case c31 => k_is)
    (case k31 => k_is)
    (case a32 => k_is)
    (case l32 => k_is)
    (case c32 => k_is)
    (case k32 => k_is)
    (case a33 => k_is)
    (case l33 => k_is)
    (case c33 => k_is)
    (case k33 => k_is)
    (case a34 => k_is)
    (case l34 => k_is)
    (case c34 => k_is)
    (case k34 => k_is)
    (case a35 => k_is)
    (case l35 => k_is)
    (case c35 => k_is)
    (case k35 => k_is)
    (case a36 => k_is)
    (case l36 => k_is)
    (case c36 => k_is)
    (case k36 => k_is)
    (case a37 => k_is)
    (case l37 => k_is)
    (case c37 => k_is)
    (case k37 => k_is)
    (case a38 => k_is)
    (case l38 => k_is)
    (case c38 => k_is)
    (case k38 => k_is)
    (case z_ValueError => k_is)
    (case z_all => k_is)
    (case z_any => k_is)
    (case z_bool => k_is)
    (case z_enumerate => k_is)
    (case z_int => k_is)
    (case z_isinstance => k_is)
    (case z_len => k_is)
    (case z_list => k_is)
    (case z_range => k_is)
    (case z_set => k_is)
    (case z_sorted => k_is)
    (case z_str => k_is)
    (case z_tuple => k_is)
    (case z_zip => k_is)
    (case g_FAR => k_is)
    (case g_MOST_STATES => k_is)
    (case g_FEWEST_COLOURS => k_is)
    (case g_MOST_COLOURS => k_is)
    (case g_RIGHT => k_is)
    (case g_LEFT => k_is)
    (case g_MOST_SQUARES => k_is)
    (case g_MOST_STEPS => k_is)
    (case g_AHEAD => k_is)
    (case lA => k_is)
    (case lB0 => k_is)
    (case lB1 => k_is)
    (case lB2 => k_is)
    (case lB3 => k_is)
    (case g_LONGEST_PERIOD => k_is)
    (case a_Stroll => k_is)
    (case pg_Stroll => k_is)
    (case hd_Stroll => k_is)
    (case po_Stroll => k_is)
    (case sa_Stroll => k_is)
    (case mk_Stroll => k_is)
    (case kc_Stroll => k_is)
    (case n_Stroll_table => k_is)
    (case n_Stroll_ground => k_is)
    (case n_Stroll_painted => k_is)
    (case n_Stroll_walker => k_is)
    (case iA_Stroll_init => k_is)
    (case iT_Stroll_init => k_is)
    (case iL_Stroll_init => k_is)
    (case dL_Stroll_init => k_is)
    (case lBL => k_is)
    (case lBL0 => k_is)
    (case iC_Stroll_init => k_is)
    (case iK_Stroll_init => k_is)
    (case iA_Stroll_colour_of => k_is)
    (case iT_Stroll_colour_of => k_is)
    (case iL_Stroll_colour_of => k_is)
    (case iC_Stroll_colour_of => k_is)
    (case iK_Stroll_colour_of => k_is)
    (case iA_Stroll_paint => k_is)
    (case iT_Stroll_paint => k_is)
    (case iL_Stroll_paint => k_is)
    (case iC_Stroll_paint => k_is)
    (case iK_Stroll_paint => k_is)
    (case iA_Stroll_reading => k_is)
    (case iT_Stroll_reading => k_is)
    (case iL_Stroll_reading => k_is)
    (case iC_Stroll_reading => k_is)
    (case iK_Stroll_reading => k_is)
    (case iA_Stroll_has_stopped => k_is)
    (case iT_Stroll_has_stopped => k_is)
    (case iL_Stroll_has_stopped => k_is)
    (case iC_Stroll_has_stopped => k_is)
    (case iK_Stroll_has_stopped => k_is)
    (case iA_Stroll_go => k_is)
    (case iT_Stroll_go => k_is)
    (case iL_Stroll_go => k_is)
    (case iC_Stroll_go => k_is)
    (case iK_Stroll_go => k_is)
    (case a_Course => k_is)
    (case pg_Course => k_is)
    (case hd_Course => k_is)
    (case po_Course => k_is)
    (case sa_Course => k_is)
    (case mk_Course => k_is)
    (case kc_Course => k_is)
    (case n_Course_kind => k_is)
    (case n_Course_first => k_is)
    (case n_Course_period => k_is)
    (case n_Course_stroll => k_is)
    (case n_Course_at_first => k_is)
    (case n_Course_start => k_is)
    (case n_Course_ahead => k_is)
    (case n_Course_loop => k_is)
    (case n_Course_end => k_is)
    (case n_Course_steps => k_is)
    (case n_Course_move => k_is)
    (case iA_Course_init => k_is)
    (case iT_Course_init => k_is)
    (case iL_Course_init => k_is)
    (case iC_Course_init => k_is)
    (case iK_Course_init => k_is)
    (case iA_Course_holds => k_is)
    (case iT_Course_holds => k_is)
    (case iL_Course_holds => k_is)
    (case iC_Course_holds => k_is)
    (case iK_Course_holds => k_is)
