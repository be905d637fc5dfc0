import PyProof.Rows.All
import Wide.All
import OpenK.AllK
import Wide.FinOn
import HandS.ForMost
import HandS.Wide
import HandS.IsInst
import HandS.TupAny
import HandS.Style
import HandS.FStr
import HandS.StrMore
import HandS.WordsExc
import HandS.ExcInit
import HandS.ExcField
import HandS.CallSlots
import KE.KExcIs
import HandS.ExcIs
import PySem.Challenge.RW_streetpapers_k00_whole_tables
set_option Elab.async false
set_option linter.all false
set_option maxRecDepth 100000
set_option maxHeartbeats 4000000
namespace Sb
open PySem PySem.Spec PyProof.Rows L2 TL
/-! ### defs of the text, and what they promise -/
structure DefAt (K : PySem.W.Frag) (mg : Str → Option Value) (x : Str) (st : Stmt) (ps : List Str) : Prop where
  ex : ∃ (f : Addr) (fd : FuncData), Fun K x x st f fd ∧ mg x = some (.ref f) ∧ Binds K fd ps []
structure Cal (P : Program) (w : World) (K : PySem.W.Frag) (mg : Str → Option Value) (base : Heap) (CX : CXT) (x : Str) (k : Nat) (ps : List Str) (sp : Sp) : Prop where
  ex : ∃ (f : Addr) (fd : FuncData), FnOk P w K mg base CX k f fd ps sp ∧ mg x = some (.ref f) ∧ PySem.W.keepIn K (.ref f) = true ∧ Binds K fd ps []
section
variable {P : Program} {w : World} {K : PySem.W.Frag} {mg : Str → Option Value} {base : Heap}
theorem Cal.mono {CX : CXT} {x : Str} {j k : Nat} {ps : List Str} {sp : Sp} (C : Cal P w K mg base CX x j ps sp) (h : j ≤ k) : Cal P w K mg base CX x k ps sp := by
  obtain ⟨f, fd, F, m, kp, b⟩ := C.ex
  exact ⟨f, fd, F.mono h, m, kp, b⟩
theorem Cal.imp {CX : CXT} {x : Str} {k : Nat} {ps : List Str} {sp sp' : Sp} (C : Cal P w K mg base CX x k ps sp) (h : ∀ vs H Q E, sp' vs H Q E → sp vs H Q E) : Cal P w K mg base CX x k ps sp' := by
  obtain ⟨f, fd, F, m, kp, b⟩ := C.ex
  exact ⟨f, fd, F.imp h, m, kp, b⟩
theorem DefAt.cal {x : Str} {st : Stmt} {N ps : List Str} {k : Nat} {sp : Sp} (D : DefAt K mg x st ps) (S : FnScope N ps (defScope st)) (len : ∀ vs H Q E, sp vs H Q E → vs.length = ps.length)
    (hbody : ∀ (f : Addr) (cdv : Value) (A : Around) (outer : List Env) (s : Shared) (H : Hp) (vs : List V) (Q : VK) (E : XK), Room k (A.deeper (envOfC x (defScope st) s.heap.objs.size f cdv)) → sp vs H Q E →
      ∃ t, PSs (cxOf CX0 P w K mg base N x (defScope st) f cdv A outer s H E).nox (defBody st) t ∧ t { nx := fun _ H' => Q .non H', rt := Q } (start N vs) H) : Cal P w K mg base CX0 x (k + 1) ps sp := by
  obtain ⟨f, fd, F, m, b⟩ := D.ex
  exact ⟨f, fd, F.ok S len (hbody f), m, F.kp, b⟩
end
section
variable {X : Cx} {CX : CXT} {k j : Nat} {ps : List Str} {sp : Sp} {x : Str} {p pos : Pos} {e : Expr} {es : List Expr} {t : TA}
theorem pe_own (C : Cal X.prog X.w X.K X.mg X.base CX0 x k ps sp) (hr : Room j X.A) (hk : k ≤ j) (ha : PA X (e :: es) t) (hg : Gl X x := by rfl) (hdb : (x == ("__debug__" : Str)) = false := by decide)
    (he : starEach (e :: es) X.env = (false, eval e X.env) :: starEach es X.env := by rfl) (hpl : (backTo pos (starEach es X.env)).any (·.1) = false := by rfl) : PE X (.Call (.Name x p) (e :: es) [] pos) (tCall sp [] E0 t) := by
  obtain ⟨f, fd, F, m, kp, b⟩ := C.ex
  exact pe_call F (hr.mono hk) hg m kp b .nil pass0 ha hdb he hpl
theorem pe_own0 (C : Cal X.prog X.w X.K X.mg X.base CX0 x k ps sp) (hr : Room j X.A) (hk : k ≤ j) (hg : Gl X x := by rfl) (hdb : (x == ("__debug__" : Str)) = false := by decide) : PE X (.Call (.Name x p) [] [] pos) (tCall sp [] E0 tNil) := by
  obtain ⟨f, fd, F, m, kp, b⟩ := C.ex
  exact pe_call0 F (hr.mono hk) hg m kp b .nil pass0 hdb
end
/-- a word that the steps do not enter -/
structure Ok (p : Prop) : Prop where
  o : p
/-! ### heaps -/
def KeepB (r : Addr) (H H' : Hp) : Prop := ∀ b o, b ≠ r → H b = some o → H' b = some o
theorem KeepB.refl (r : Addr) (H : Hp) : KeepB r H H := fun _ _ _ h => h
theorem KeepB.trans {r : Addr} {H H1 H2 : Hp} (a : KeepB r H H1) (b : KeepB r H1 H2) : KeepB r H H2 := fun c o n h => b c o n (a c o n h)
theorem KeepB.put {r : Addr} {H : Hp} {o : HO} : KeepB r H (upd H r o) := fun b u n h => by
  rw [upd_ne n]
  exact h
theorem Same.keepB {r : Addr} {H H' : Hp} (s : Same H H') : KeepB r H H' := fun b o _ h => s b o h
theorem Same.new {H : Hp} {p : Addr} {o : HO} (h : H p = none) : Same H (upd H p o) := fun b u e => by
  rw [upd_ne (ne_of_none e h)]
  exact e
/-- tuples and what is frozen stay -/
structure TK (H H' : Hp) : Prop where
  tup : ∀ b xs, H b = some (.tup xs) → H' b = some (.tup xs)
  frz : ∀ b o u, H b = some (.frz o u) → H' b = some (.frz o u)
theorem TK.refl (H : Hp) : TK H H := ⟨fun _ _ h => h, fun _ _ _ h => h⟩
theorem TK.trans {H H1 H2 : Hp} (a : TK H H1) (b : TK H1 H2) : TK H H2 := ⟨fun c x h => b.tup c x (a.tup c x h), fun c o u h => b.frz c o u (a.frz c o u h)⟩
theorem Same.tk {H H' : Hp} (s : Same H H') : TK H H' := ⟨fun b xs h => s b _ h, fun b o u h => s b _ h⟩
theorem KeepB.tk {r : Addr} {H H' : Hp} {xs : List V} (s : KeepB r H H') (h : H r = some (.lst xs)) : TK H H' :=
  ⟨fun b ys e => s b _ (ne_of e h (by intro z; cases z)) e, fun b o u e => s b _ (ne_of e h (by intro z; cases z)) e⟩
theorem TK.seqT {K : PySem.W.Frag} {H H' : Hp} {a : Addr} {xs : List V} (t : TK H H') (h : SqT K H a xs) : SqT K H' a xs := by
  rcases h with (h | ⟨o, h⟩) | h
  · exact .inl (.inl (t.tup _ _ h))
  · exact .inl (.inr ⟨o, t.frz _ _ _ h⟩)
  · exact .inr h
theorem TK.new {H : Hp} {p : Addr} {o : HO} (h : H p = none) : TK H (upd H p o) := Same.tk (Same.new h)
theorem TK.lst {H : Hp} {p : Addr} {xs : List V} {o : HO} (h : H p = some (.lst xs)) : TK H (upd H p o) := (KeepB.put (r := p)).tk h
theorem KeepB.new {r : Addr} {H : Hp} {p : Addr} {o : HO} (h : H p = none) : KeepB r H (upd H p o) := Same.keepB (Same.new h)
/-- a change at an object that the first heap does not know -/
theorem KeepB.fresh {r : Addr} {H H' : Hp} {p : Addr} {o : HO} (k : KeepB r H H') (h : H p = none) : KeepB r H (upd H' p o) := fun b u n e => by
  rw [upd_ne (ne_of_none e h)]
  exact k b u n e
/-- what the later heap does not know the earlier did not -/
theorem KeepB.back {r : Addr} {H H' : Hp} {p : Addr} (k : KeepB r H H') (h : H' p = none) (n : p ≠ r) : H p = none := by
  cases e : H p with
  | none => rfl
  | some o =>
    rw [k p o n e] at h
    cases h
theorem Same.fresh {H H' : Hp} {p : Addr} {o : HO} (k : Same H H') (h : H p = none) : Same H (upd H' p o) := fun b u e => by
  rw [upd_ne (ne_of_none e h)]
  exact k b u e
/-! ### immutable data -/
mutual
inductive Tp (K : PySem.W.Frag) (H : Hp) : V → PyData → Prop
  | non : Tp K H .non .none
  | bl (b : Bool) : Tp K H (.bl b) (.bool b)
  | int (i : Int) : Tp K H (.int i) (.int i)
  | str (x : Str) : Tp K H (.str x) (.str x)
  | tup {a : Addr} {xs : List V} {ds : List PyData} : SqT K H a xs → TpAll K H xs ds → Tp K H (.ref a) (.tuple ds)
inductive TpAll (K : PySem.W.Frag) (H : Hp) : List V → List PyData → Prop
  | nil : TpAll K H [] []
  | cons {v : V} {vs : List V} {d : PyData} {ds : List PyData} : Tp K H v d → TpAll K H vs ds → TpAll K H (v :: vs) (d :: ds)
end
section
variable {K : PySem.W.Frag} {H H' : Hp}
mutual
theorem Tp.mono (t : TK H H') : ∀ (d : PyData) (v : V), Tp K H v d → Tp K H' v d
  | .none, _, h => by cases h; exact .non
  | .bool b, _, h => by cases h; exact .bl b
  | .int i, _, h => by cases h; exact .int i
  | .str x, _, h => by cases h; exact .str x
  | .list ds, _, h => by cases h
  | .dict _, _, h => by cases h
  | .tuple ds, _, h => by
    cases h with
    | tup hs ha => exact .tup (t.seqT hs) (TpAll.mono t ds _ ha)
theorem TpAll.mono (t : TK H H') : ∀ (ds : List PyData) (vs : List V), TpAll K H vs ds → TpAll K H' vs ds
  | [], _, h => by cases h; exact .nil
  | d :: ds, _, h => by
    cases h with
    | cons h1 h2 => exact .cons (Tp.mono t d _ h1) (TpAll.mono t ds _ h2)
end
mutual
theorem Tp.dp : ∀ (d : PyData) (v : V), Tp K H v d → Dp K H v d
  | .none, _, h => by cases h; exact .non
  | .bool b, _, h => by cases h; exact .bl b
  | .int i, _, h => by cases h; exact .int i
  | .str x, _, h => by cases h; exact .str x
  | .list ds, _, h => by cases h
  | .dict _, _, h => by cases h
  | .tuple ds, _, h => by
    cases h with
    | tup hs ha => exact .tup hs (TpAll.dp ds _ ha)
theorem TpAll.dp : ∀ (ds : List PyData) (vs : List V), TpAll K H vs ds → DpAll K H vs ds
  | [], _, h => by cases h; exact .nil
  | d :: ds, _, h => by
    cases h with
    | cons h1 h2 => exact .cons (Tp.dp d _ h1) (TpAll.dp ds _ h2)
end
mutual
theorem Dp.mono (s : Same H H') : ∀ (d : PyData) (v : V), Dp K H v d → Dp K H' v d
  | .none, _, h => by cases h; exact .non
  | .bool b, _, h => by cases h; exact .bl b
  | .int i, _, h => by cases h; exact .int i
  | .str x, _, h => by cases h; exact .str x
  | .dict _, _, h => by cases h
  | .list ds, _, h => by
    cases h with
    | lst hs ha => exact .lst (s.seq hs) (DpAll.mono s ds _ ha)
  | .tuple ds, _, h => by
    cases h with
    | tup hs ha => exact .tup ((Same.tk s).seqT hs) (DpAll.mono s ds _ ha)
theorem DpAll.mono (s : Same H H') : ∀ (ds : List PyData) (vs : List V), DpAll K H vs ds → DpAll K H' vs ds
  | [], _, h => by cases h; exact .nil
  | d :: ds, _, h => by
    cases h with
    | cons h1 h2 => exact .cons (Dp.mono s d _ h1) (DpAll.mono s ds _ h2)
end
theorem TpAll.length : ∀ {vs : List V} {ds : List PyData}, TpAll K H vs ds → vs.length = ds.length
  | [], [], _ => rfl
  | _ :: _, [], h => by cases h
  | [], _ :: _, h => by cases h
  | v :: vs, d :: ds, h => by
    cases h with
    | cons h1 h2 =>
      show vs.length + 1 = ds.length + 1
      rw [TpAll.length h2]
theorem TpAll.get : ∀ {vs : List V} {ds : List PyData} {i : Nat} {d : PyData}, TpAll K H vs ds → ds[i]? = some d → ∃ v, vs[i]? = some v ∧ Tp K H v d
  | [], [], _, _, _, e => by simp at e
  | _ :: _, [], _, _, h, _ => by cases h
  | [], _ :: _, _, _, h, _ => by cases h
  | v :: vs, d :: ds, 0, _, h, e => by
    cases h with
    | cons h1 h2 =>
      have e : d = _ := Option.some.inj e
      subst e
      exact ⟨v, rfl, h1⟩
  | v :: vs, d :: ds, i + 1, _, h, e => by
    cases h with
    | cons h1 h2 => exact TpAll.get (i := i) h2 e
theorem TpAll.append : ∀ {vs ws : List V} {ds es : List PyData}, TpAll K H vs ds → TpAll K H ws es → TpAll K H (vs ++ ws) (ds ++ es)
  | [], _, [], _, _, h => h
  | _ :: _, _, [], _, h, _ => by cases h
  | [], _, _ :: _, _, h, _ => by cases h
  | v :: vs, _, d :: ds, _, h, h' => by
    cases h with
    | cons h1 h2 => exact .cons h1 (TpAll.append h2 h')
end
/-! ### the draws -/
/-- the script: frozen, or an object of the written part -/
def Scr (K : PySem.W.Frag) (H : Hp) (s : Addr) (ns : List Int) : Prop := (∃ o, H s = some (.frz o (.lst (ns.map V.int)))) ∨ ∃ (o : Obj) (its : Array Value) (n : Nat), K.lookup s = some o ∧ o.cls = .type "list" ∧ o.dict = none ∧ o.data = .seq its n ∧ its.size ≤ sizeLine ∧ Vals (ns.map V.int) its.toList
theorem Scr.sq {K : PySem.W.Frag} {H : Hp} {s : Addr} {ns : List Int} (h : Scr K H s ns) : SqL K H s (ns.map V.int) := by
  rcases h with ⟨o, h⟩ | h
  · exact .inl (.inr ⟨o, h⟩)
  · exact .inr h
theorem Scr.mono {K : PySem.W.Frag} {H H' : Hp} {s : Addr} {ns : List Int} (t : TK H H') (h : Scr K H s ns) : Scr K H' s ns := by
  rcases h with ⟨o, h⟩ | h
  · exact .inl ⟨o, t.frz _ _ _ h⟩
  · exact .inr h
theorem Scr.of {K : PySem.W.Frag} {H : Hp} {s : Addr} {ns : List Int} (o : Only H) (h : SqL K H s (ns.map V.int)) : Scr K H s ns := by
  rcases h with (h | ⟨u, h⟩) | h
  · rcases o s with z | ⟨u, xs, z⟩ <;> (rw [h] at z; cases z)
  · exact .inl ⟨u, h⟩
  · exact .inr h
/-- row: the script, the place in it, the mixed number, the rest of a great cell -/
def Row (K : PySem.W.Frag) (H : Hp) (r : Addr) : Prop := ∃ (s : Addr) (ns : List Int) (i m c : Int), H r = some (.lst [.ref s, .int i, .int m, .int c]) ∧ Scr K H s ns ∧ 0 ≤ i ∧ 0 ≤ m ∧ m < 2147483647 ∧ 0 ≤ c
theorem Row.lst {K : PySem.W.Frag} {H : Hp} {r : Addr} (h : Row K H r) : ∃ xs, H r = some (.lst xs) := by
  obtain ⟨s, ns, i, m, c, e, _⟩ := h
  exact ⟨_, e⟩
theorem Row.keep {K : PySem.W.Frag} {H H' : Hp} {r : Addr} (h : Row K H r) (t : TK H H') (e : H' r = H r) : Row K H' r := by
  obtain ⟨s, ns, i, m, c, e0, hs, q⟩ := h
  exact ⟨s, ns, i, m, c, e.trans e0, hs.mono t, q⟩
theorem Row.same {K : PySem.W.Frag} {H H' : Hp} {r : Addr} (h : Row K H r) (s : Same H H') : Row K H' r := by
  obtain ⟨xs, e⟩ := h.lst
  exact h.keep (Same.tk s) ((s _ _ e).trans e.symm)
theorem Row.new {K : PySem.W.Frag} {H : Hp} {r p : Addr} {o : HO} (h : Row K H r) (n : H p = none) : Row K (upd H p o) r := h.same (Same.new n)
theorem Row.ne {K : PySem.W.Frag} {H : Hp} {r p : Addr} (h : Row K H r) (n : H p = none) : p ≠ r := by
  obtain ⟨xs, e⟩ := h.lst
  exact (ne_of_none e n).symm
/-- another list changes -/
theorem Row.put {K : PySem.W.Frag} {H : Hp} {r p : Addr} {xs : List V} {o : HO} (h : Row K H r) (e : H p = some (.lst xs)) (n : p ≠ r) : Row K (upd H p o) r := h.keep (TK.lst e) (upd_ne n.symm)
theorem KeepB.row {K : PySem.W.Frag} {H H' : Hp} {r : Addr} (k : KeepB r H H') (h : Row K H r) : TK H H' := by
  obtain ⟨xs, e⟩ := h.lst
  exact k.tk e
def spTaken (K : PySem.W.Frag) : Sp := fun vs H Q _ => ∃ (r : Addr) (many : Int), vs = [.ref r, .int many] ∧ Row K H r ∧ 0 < many ∧ many < 2 ^ 250 ∧ ∀ (v : Int) (H' : Hp), 0 ≤ v → v < many → Row K H' r → KeepB r H H' → Q (.int v) H'
section
variable {X : Cx}
theorem CallR.imp {f : Value} {r r' : List V → Hp → VK → Prop} (h : CallR X f r) (i : ∀ xs H Q, r' xs H Q → r xs H Q) : CallR X f r' := fun pins s σ H xs us Q I rv q => h pins s σ H xs us Q I rv (i _ _ _ q)
theorem call_int_i : CallR X (.type "int") (fun xs H Q => ∃ i, xs = [.int i] ∧ Q (.int i) H) := CallR.imp call_int1 fun _ _ _ h => .inl h
theorem call_len_l : CallR X (.builtin "len") (fun xs H Q => ∃ p ys, xs = [.ref p] ∧ SqL X.K H p ys ∧ Q (.int ys.length) H) := CallR.imp call_len_seq fun _ _ _ ⟨p, ys, e, h, q⟩ => ⟨p, ys, e, .inl h, q⟩
theorem call_len_t : CallR X (.builtin "len") (fun xs H Q => ∃ p ys, xs = [.ref p] ∧ SqT X.K H p ys ∧ Q (.int ys.length) H) := CallR.imp call_len_seq fun _ _ _ ⟨p, ys, e, h, q⟩ => ⟨p, ys, e, .inr h, q⟩
theorem call_tuple_l : CallR X (.type "tuple") (fun xs H Q => ∃ p ys, xs = [.ref p] ∧ SqL X.K H p ys ∧ ∀ l, H l = none → Q (.ref l) (upd H l (.tup ys))) := CallR.imp call_tuple_of fun _ _ _ ⟨p, ys, e, h, q⟩ => ⟨p, ys, e, .inl ⟨h, q⟩⟩
theorem call_tuple_t : CallR X (.type "tuple") (fun xs H Q => ∃ p ys, xs = [.ref p] ∧ SqT X.K H p ys ∧ Q (.ref p) H) := CallR.imp call_tuple_of fun _ _ _ ⟨p, ys, e, h, q⟩ => ⟨p, ys, e, .inr ⟨h, q⟩⟩
end
section
variable {X : Cx} {x : Str} {pos : Pos}
theorem pe_gint {i : Int} (hg : Gl X x) (hm : ∃ t, X.mg x = some (.int i t)) (hd : (x == ("__debug__" : Str)) = false := by decide) : PE X (.Name x pos) (tC (.int i)) := by
  obtain ⟨t, h⟩ := hm
  exact pe_glob hg h ⟨t, rfl⟩ hd
theorem pe_gstr {y : Str} (hg : Gl X x) (hm : ∃ t, X.mg x = some (.str y t)) (hd : (x == ("__debug__" : Str)) = false := by decide) : PE X (.Name x pos) (tC (.str y)) := by
  obtain ⟨t, h⟩ := hm
  exact pe_glob hg h ⟨t, rfl⟩ hd
theorem pe_ty (n : String) (hg : Gl X x) (hm : X.mg x = none) (hv : bootBuiltins x = some (.type n)) (hn : x ≠ "__name__" := by decide) (hd : (x == ("__debug__" : Str)) = false := by decide) : PE X (.Name x pos) (tC (.ty n)) := pe_bltn hg hm hv rfl hn hd
/-- isinstance against a built-in class -/
def rIsN (K : PySem.W.Frag) : List V → Hp → VK → Prop := fun xs H Q => ∃ (y : V) (n : String) (t : String) (b : Bool), xs = [y, .ty n] ∧ TyX K H y (.type t) ∧ kitB t n = some b ∧ Q (.bl b) H
theorem call_isN : CallR X (.builtin "isinstance") (rIsN X.K) := CallR.imp call_isi fun _ _ _ ⟨y, n, t, b, e, h, k, q⟩ => ⟨y, .ty n, .type t, .type n, b, e, .ty n, h, kit_ty k, q⟩
/-- against two of them -/
def kitB2 (t m n : String) : Option Bool := match kitB t m with
  | some true => some true
  | some false => kitB t n
  | none => none
def rIsT2 (K : PySem.W.Frag) : List V → Hp → VK → Prop := fun xs H Q => ∃ (y : V) (p : Addr) (m n : String) (t : String) (b : Bool), xs = [y, .ref p] ∧ H p = some (.tup [.ty m, .ty n]) ∧ TyX K H y (.type t) ∧ kitB2 t m n = some b ∧ Q (.bl b) H
theorem kit2 {K : PySem.W.Frag} {t m n : String} {b : Bool} (h : kitB2 t m n = some b) : PySem.W.kitAny K (.type t) [.type m, .type n] = some b := by
  unfold kitB2 at h
  split at h
  · rename_i e
    cases h
    exact kitAny_cons (kit_ty e) (fun z => by cases z) (fun _ => rfl)
  · rename_i e
    refine kitAny_cons (kit_ty e) (fun _ => ?_) (fun z => by cases z)
    exact kitAny_cons (b := b) (kit_ty h) (fun z => by rw [z]; exact kitAny_nil) (fun z => z)
  · cases h
theorem call_isT2 : CallR X (.builtin "isinstance") (rIsT2 X.K) := CallR.imp call_isiT fun _ _ _ ⟨y, p, m, n, t, b, e, hp, h, k, q⟩ => ⟨y, p, [.ty m, .ty n], .type t, [.type m, .type n], b, e, hp, .cons (.ty m) (.cons (.ty n) .nil), h, kit2 k, q⟩
/-- s.index(c), where it is found -/
def rIndexIn : L2.St → V → List V → Hp → VK → Prop := fun _ x xs H Q => ∃ (a b : Str) (k : Nat), x = .str a ∧ xs = [.str b] ∧ Txt.index0 a b = some k ∧ Q (.int (k : Nat)) H
theorem mt_indexIn (hc : X.calm = true) : MtS X "str.index" rIndexIn := fun pins s σ H x xs v us Q I rx rs ⟨a, b, k, e1, e2, e3, q⟩ =>
  mt_indexX hc takes0 pins s σ H x xs v us Q I rx rs ⟨a, b, e1, e2, fun k' h => by rw [e3] at h; cases h; exact q, fun h => by rw [e3] at h; cases h⟩
end
section
variable {K : PySem.W.Frag} {H : Hp}
theorem tyx_tup {a : Addr} {xs : List V} (h : SqT K H a xs) : TyX K H (.ref a) (.type "tuple") := by
  rcases h with (h | ⟨o, h⟩) | ⟨o, its, n, e, c, _⟩
  · exact .base (.tup h)
  · exact .fTuple h
  · exact .kTuple e c
theorem tyx_lst {a : Addr} {xs : List V} (h : SqL K H a xs) : TyX K H (.ref a) (.type "list") := by
  rcases h with (h | ⟨o, h⟩) | ⟨o, its, n, e, c, _⟩
  · exact .base (.lst h)
  · exact .base (.frz h)
  · exact .kList e c
theorem Tp.tupI {v : V} {ds : List PyData} (h : Tp K H v (.tuple ds)) : ∃ (a : Addr) (xs : List V), v = .ref a ∧ SqT K H a xs ∧ TpAll K H xs ds := by
  cases h with
  | tup hs ha => exact ⟨_, _, rfl, hs, ha⟩
theorem Tp.intI {v : V} {i : Int} (h : Tp K H v (.int i)) : v = .int i := by cases h; rfl
theorem Tp.nonI {v : V} (h : Tp K H v .none) : v = .non := by cases h; rfl
theorem Tp.strI {v : V} {x : Str} (h : Tp K H v (.str x)) : v = .str x := by cases h; rfl
theorem Tp.blI {v : V} {b : Bool} (h : Tp K H v (.bool b)) : v = .bl b := by cases h; rfl
theorem TpAll.consI {vs : List V} {d : PyData} {ds : List PyData} (h : TpAll K H vs (d :: ds)) : ∃ v ws, vs = v :: ws ∧ Tp K H v d ∧ TpAll K H ws ds := by
  cases h with
  | cons h1 h2 => exact ⟨_, _, rfl, h1, h2⟩
theorem TpAll.nilI {vs : List V} (h : TpAll K H vs []) : vs = [] := by cases h; rfl
/-- three numbers -/
theorem Tp.int3 {v : V} {i j k : Int} (h : Tp K H v (.tuple [.int i, .int j, .int k])) : ∃ a, v = .ref a ∧ SqT K H a [.int i, .int j, .int k] := by
  obtain ⟨a, xs, rfl, hs, h⟩ := h.tupI
  obtain ⟨x, _, rfl, h1, h⟩ := h.consI
  obtain ⟨y, _, rfl, h2, h⟩ := h.consI
  obtain ⟨z, _, rfl, h3, h⟩ := h.consI
  rw [h1.intI, h2.intI, h3.intI, h.nilI] at hs
  exact ⟨a, rfl, hs⟩
end
theorem at0 {α : Type} {v : α} {r : List α} : atI (v :: r) (0 : Int) = some v := atI_nat (j := 0) rfl
theorem at1 {α : Type} {u v : α} {r : List α} : atI (u :: v :: r) (1 : Int) = some v := atI_nat (j := 1) rfl
theorem at2 {α : Type} {t u v : α} {r : List α} : atI (t :: u :: v :: r) (2 : Int) = some v := atI_nat (j := 2) rfl
theorem at3 {α : Type} {s t u v : α} {r : List α} : atI (s :: t :: u :: v :: r) (3 : Int) = some v := atI_nat (j := 3) rfl
theorem small_le {n : Nat} (h : n ≤ 1000) : n ≤ sizeLine := Nat.le_of_lt (small1000 h)
/-! ### answers read -/
theorem ne_tr {a b : Int} (h : (!decide (V.int a = V.int b)) = true) : a ≠ b := fun e => by
  rw [e, decide_eq_true rfl] at h
  cases h
theorem ne_fl {a b : Int} (h : ¬ (!decide (V.int a = V.int b)) = true) : a = b := by
  by_cases e : a = b
  · exact e
  · exact absurd (by rw [decide_eq_false (fun z => e (V.int.inj z))]; rfl) h
theorem eq_tr {a b : Int} (h : decide (V.int a = V.int b) = true) : a = b := V.int.inj (of_decide_eq_true h)
theorem eq_fl {a b : Int} (h : ¬ decide (V.int a = V.int b) = true) : a ≠ b := fun e => h (decide_eq_true (by rw [e]))
theorem d_fl {p : Prop} [Decidable p] (h : ¬ decide p = true) : ¬ p := fun q => h (decide_eq_true q)
theorem nd_tr {p : Prop} [Decidable p] (h : (!decide p) = true) : ¬ p := fun q => by
  rw [decide_eq_true q] at h
  cases h
theorem nd_fl {p : Prop} [Decidable p] (h : ¬ (!decide p) = true) : p := by
  by_cases e : p
  · exact e
  · exact absurd (by rw [decide_eq_false e]; rfl) h
theorem nb_tr {b : Bool} (h : (!b) = true) : b = false := by cases b <;> simp_all
theorem nb_fl {b : Bool} (h : ¬ (!b) = true) : b = true := by cases b <;> simp_all
theorem take_more {α : Type} {l : List α} {i : Nat} {x : α} (h : l[i]? = some x) : l.take (i + 1) = l.take i ++ [x] := by
  rw [List.take_add_one, h]
  rfl
/-! ### the rules that speak of the written part, with its letter -/
section
variable {X : Cx} {K : PySem.W.Frag}
theorem k_len_l (hK : X.K = K := by rfl) : CallR X (.builtin "len") (fun xs H Q => ∃ p ys, xs = [.ref p] ∧ SqL K H p ys ∧ Q (.int ys.length) H) := hK ▸ call_len_l
theorem k_len_t (hK : X.K = K := by rfl) : CallR X (.builtin "len") (fun xs H Q => ∃ p ys, xs = [.ref p] ∧ SqT K H p ys ∧ Q (.int ys.length) H) := hK ▸ call_len_t
theorem k_tuple_l (hK : X.K = K := by rfl) : CallR X (.type "tuple") (fun xs H Q => ∃ p ys, xs = [.ref p] ∧ SqL K H p ys ∧ ∀ l, H l = none → Q (.ref l) (upd H l (.tup ys))) := hK ▸ call_tuple_l
theorem k_tuple_t (hK : X.K = K := by rfl) : CallR X (.type "tuple") (fun xs H Q => ∃ p ys, xs = [.ref p] ∧ SqT K H p ys ∧ Q (.ref p) H) := hK ▸ call_tuple_t
theorem k_isN (hK : X.K = K := by rfl) : CallR X (.builtin "isinstance") (rIsN K) := hK ▸ call_isN
theorem k_isT2 (hK : X.K = K := by rfl) : CallR X (.builtin "isinstance") (rIsT2 K) := hK ▸ call_isT2
theorem k_all (hc : X.calm = true) (hK : X.K = K := by rfl) : CallR X (.builtin "all") (rAll K) := hK ▸ cr_all hc
theorem k_any (hc : X.calm = true) (hK : X.K = K := by rfl) : CallR X (.builtin "any") (rAny K) := hK ▸ cr_any hc
theorem k_sum (hc : X.calm = true) (hK : X.K = K := by rfl) : CallR X (.builtin "sum") (rSum K) := hK ▸ cr_sum hc
theorem k_max (hc : X.calm = true) (hK : X.K = K := by rfl) : CallR X (.builtin "max") (rMax K) := hK ▸ cr_max hc
theorem k_min (hc : X.calm = true) (hK : X.K = K := by rfl) : CallR X (.builtin "min") (rMin K) := hK ▸ cr_min hc
theorem k_ix_list (hK : X.K = K := by rfl) : IxR X (rIxL K) := hK ▸ ix_list
theorem k_ix_tup (hK : X.K = K := by rfl) : IxR X (rIxT K) := hK ▸ ix_tup
theorem k_len_seq (hK : X.K = K := by rfl) : CallR X (.builtin "len") (fun xs H Q => ∃ p ys, xs = [.ref p] ∧ (SqL K H p ys ∨ SqT K H p ys) ∧ Q (.int ys.length) H) := hK ▸ call_len_seq
theorem IxR.imp {r r' : R2} (h : IxR X r) (i : ∀ x y H Q, r' x y H Q → r x y H Q) : IxR X r' := fun a b pins s σ H x y v u Q I rx ry q e => h a b pins s σ H x y v u Q I rx ry (i _ _ _ _ q) e
/-- an item of a list or of a tuple -/
def rIxA (K : PySem.W.Frag) : R2 := fun x y H Q => ∃ p xs i v, x = .ref p ∧ y = .int i ∧ (SqL K H p xs ∨ SqT K H p xs) ∧ atI xs i = some v ∧ Q v H
theorem k_ix_seq (hK : X.K = K := by rfl) : IxR X (rIxA K) := hK ▸ IxR.imp ix_seq fun x y H Q ⟨p, xs, i, v, e1, e2, h, a, q⟩ => by
  rcases h with h | h
  · exact .inl ⟨p, xs, i, v, e1, e2, h, a, q⟩
  · exact .inr (.inl ⟨p, xs, i, v, e1, e2, h, a, q⟩)
theorem k_sl_list (hK : X.K = K := by rfl) : SlR X (rSlL K) := hK ▸ sl_list
theorem k_sl_tup (hK : X.K = K := by rfl) : SlR X (rSlT K) := hK ▸ sl_tup
theorem k_catA (hK : X.K = K := by rfl) : OpR X (binaryOp .Add) (rCatA K) := hK ▸ op_catA
theorem k_eqD (hu : X.A.units + 64 < cLine) (hK : X.K = K := by rfl) : OpR X (compareOp .Eq) (rEqD K) := hK ▸ op_eqD hu
theorem k_neD (hu : X.A.units + 64 < cLine) (hK : X.K = K := by rfl) : OpR X (compareOp .NotEq) (rNeD K) := hK ▸ op_neD hu
theorem k_pi_list {tg l : Expr} {tl : TE} (hl : PE X l tl) (hK : X.K = K := by rfl) : PI X tg l (iList K tl) := hK ▸ pi_list hl
theorem k_pi_tup {tg l : Expr} {tl : TE} (hl : PE X l tl) (hK : X.K = K := by rfl) : PI X tg l (iTup K tl) := hK ▸ pi_tup hl
theorem k_mt_join (hK : X.K = K := by rfl) : MtR X "str.join" (fun x xs H Q => ∃ a p, ∃ ys : List Str, x = .str a ∧ xs = [.ref p] ∧ (SqL K H p (ys.map V.str) ∨ SqT K H p (ys.map V.str)) ∧ (ys.map (·.length)).sum + ys.length * a.length ≤ 16777216 ∧ Q (.str (Txt.join a ys)) H) := hK ▸ mt_join
end
/-! ### own errors -/
/-- what the written part says of an error's class -/
structure ExcCls (K : PySem.W.Frag) (mg : Str → Option Value) (x : Str) (C : Addr) : Prop where
  gC : mg x = some (.ref C)
  oex : OexC K C
  xf : XfC K C
  ha : PySem.W.findIn K (.ref C) "__class__" = some (some (.builtin "object.__class__"))
  hn : PySem.W.specialIn K (.builtin "object.__class__") "__get__" = some (some (.builtin "getset_descriptor.__get__"))
  ht : PySem.W.takesIn K (.builtin "object.__class__") = some true
  hm : PySem.W.mroIn K C (.type "object") = some true
/-- the error's own dict -/
def DOk (d : Option Addr) (H : Hp) : Prop := d = none ∨ ∃ dd fs, d = some dd ∧ H dd = some (.xd fs)
section
variable {X : Cx} {a : Addr} {oe : Obj} {cls : Value} {d : Option Addr} {pn : List (Addr × Obj)}
def rIsEd (K : PySem.W.Frag) (mg : Str → Option Value) (a : Addr) (cls : Value) (d : Option Addr) : List V → Hp → VK → Prop := fun xs H Q => ∃ (C D : Addr) (x : Str) (b : Bool), xs = [.ref a, .ref D] ∧ cls = .ref C ∧ ExcCls K mg x C ∧ DOk d H ∧ PySem.W.kitOne K (.ref C) (.ref D) = some b ∧ Q (.bl b) H
theorem oex_cls {K : PySem.W.Frag} {C : Addr} (T : OexC K C) : (PySem.W.clsIn K C).isSome = true := by
  obtain ⟨nm, q, N, bs, bm, sn, sub, ab, col, dd, k0, k1, k2, k3, k5, hC, hbm⟩ := T.cls
  unfold PySem.W.clsIn
  rw [hC] <;> rfl
theorem inst_exc {pins : List (Addr × Obj)} {σ : L2.St} {H : Hp} {s : Shared} {C : Addr} (I : Inv (X.suite a ((a, oe) :: pn)) pins σ H s) (hz : Zc (.ref C) d oe) (hf : ∃ vs, oe.data = .fields vs) (hd : DOk d H) : ∃ od, PySem.W.InstAt s.heap a oe C od := by
  obtain ⟨hget, _⟩ := I.pin (a, oe) (List.mem_append_left _ List.mem_cons_self)
  obtain ⟨vs, hv⟩ := hf
  rcases hd with rfl | ⟨dd, fs, rfl, ea⟩
  · exact ⟨none, hget, hz.1, by unfold PySem.W.notCls; rw [hv] <;> rfl, by rw [hz.2]; trivial⟩
  · have hx : ObjOk X.prog X.w H s.heap dd (.xd fs) := I.hok dd _ ea
    obtain ⟨mA, hns, hr⟩ := hx
    obtain ⟨od, ho, hl⟩ := lookIn_ns hns
    exact ⟨some od, hget, hz.1, by unfold PySem.W.notCls; rw [hv] <;> rfl, by rw [hz.2]; exact ho⟩
theorem call_isEd (hz : Zc cls d oe) (hf : ∃ vs, oe.data = .fields vs) : CallR (X.suite a ((a, oe) :: pn)) (.builtin "isinstance") (rIsEd X.K X.mg a cls d) := by
  intro pins s σ H xs us Q I r h
  obtain ⟨C, D, x, b, rfl, rfl, T, hd, e, q⟩ := h
  obtain ⟨od, J⟩ := inst_exc I hz hf hd
  cases r with
  | cons rx rr =>
    cases rr with
    | cons rt rr =>
      cases rr
      cases rx
      cases rt
      exact PySem.W.kia_one (PySem.W.kitx_exc (oex_cls T.oex) T.xf.ga T.xf.gg T.xf.exC T.ha T.hn T.ht T.hm) I.kIn J e (fun z => nomatch z) fun tk => ⟨.bl b, H, I.tok tk, rfl, q⟩
end
/-! ### an error with one field, made by its __init__ -/
def spInit1 (K : PySem.W.Frag) (C : Addr) (f : Str) : Sp := fun vs H Q _ => ∃ (a : Addr) (y : V), vs = [.ref a, y] ∧ H a = some (exo a C none) ∧ ∀ dx, H dx = none → dx ≠ a → Q .non (upd (upd H dx (exd dx [(f, y)])) a (exo a C (some dx)))
/-- the __init__ of the class at C stands -/
structure ExcInit1 (P : Program) (w : World) (K : PySem.W.Frag) (mg : Str → Option Value) (base : Heap) (C : Addr) (f : Str) : Prop where
  no : PySem.W.findIn K (.ref C) f = some none
  init : ∃ (fI : Addr) (fd : FuncData) (ps : List Str), PySem.W.findIn K (.ref C) "__init__" = some (some (.ref fI)) ∧ PySem.W.typeIn K (.ref fI) = some (.type "function") ∧ FnOk P w K mg base CX0 1 fI fd ps (spInit1 K C f) ∧ Binds K fd ps []
theorem raise1 {K : PySem.W.Frag} {C : Addr} {f : Str} {H1 : Hp} {y : V} {Q : XK} (q : ∀ d H', H1 d = none → Same H1 H' → H' d = some (.xd [(f, y)]) → Q (.ref C) (some d) H') :
    ∀ a, H1 a = none → spInit1 K C f (.ref a :: ([y] ++ [])) (upd H1 a (exo a C none)) (fun v H2 => v = .non ∧ ∃ (d : Addr) (fs : List (Str × V)), H2 a = some (exo a C (some d)) ∧ H2 d = some (exd d fs) ∧ H1 d = none ∧ Q (.ref C) (some d) (upd (del H2 a) d (.xd fs))) (fun _ _ _ => False) := fun a na => by
  refine ⟨a, y, rfl, upd_same, fun dx nx ne => ⟨rfl, dx, [(f, y)], upd_same, ?_, ?_, ?_⟩⟩
  · rw [upd_ne ne, upd_same]
  · rw [upd_ne ne] at nx
    exact nx
  · have nx1 : H1 dx = none := by
      rw [upd_ne ne] at nx
      exact nx
    refine q dx _ nx1 (fun b o hb => ?_) upd_same
    have h1 : b ≠ dx := ne_of_none hb nx1
    have h2 : b ≠ a := ne_of_none hb na
    rw [upd_ne h1, del_ne h2, upd_ne h2, upd_ne h1, upd_ne h2]
    exact hb
section
variable {X : Cx} {C : Addr} {f x : Str} {W : WX} {ta : TA} {e : Expr} {p pos pos2 : Pos} {k : Nat}
theorem ps_raise1 (hc : X.calm = true) (tk : Takes X W) (T : ExcCls X.K X.mg x C) (F : ExcInit1 X.prog X.w X.K X.mg X.base C f) (hr : Room k X.A) (hk : 2 ≤ k) (ha : PA X [e] ta) (hg : Gl X x := by rfl) (hdb : (x == ("__debug__" : Str)) = false := by decide)
    (he : starEach (e :: []) X.env = (false, eval e X.env) :: starEach [] X.env := by rfl) (hpl : (backTo pos (starEach [] X.env)).any (·.1) = false := by rfl) :
    PS X (.Raise (some (.Call (.Name x p) [e] [] pos)) none pos2) (fun _ σ H => tMkO C (spInit1 X.K C f) [] ta σ H fun cls d H' => W cls d σ H') := by
  obtain ⟨fI, fd, ps, iC, tI, F1, hb⟩ := F.init
  exact ps_raise hc tk (pmk_oex (dvs := []) T.oex iC tI F1 (hr.mono hk) hb .nil pass0 hg T.gC ha hdb he hpl)
end
/-! ### defs that may raise -/
section
variable {P : Program} {w : World} {K : PySem.W.Frag} {mg : Str → Option Value} {base : Heap}
theorem DefAt.calX {x : Str} {st : Stmt} {N ps : List Str} {k : Nat} {sp : Sp} (D : DefAt K mg x st ps) (S : FnScope N ps (defScope st)) (len : ∀ vs H Q E, sp vs H Q E → vs.length = ps.length)
    (hbody : ∀ (f : Addr) (cdv : Value) (A : Around) (outer : List Env) (s : Shared) (H : Hp) (vs : List V) (Q : VK) (E : XK), Room k (A.deeper (envOfC x (defScope st) s.heap.objs.size f cdv)) → sp vs H Q E →
      ∃ t, PSs (cxOf (L2.CX P w) P w K mg base N x (defScope st) f cdv A outer s H E) (defBody st) t ∧ t { nx := fun _ H' => Q .non H', rt := Q } (start N vs) H) : Cal P w K mg base (L2.CX P w) x (k + 1) ps sp := by
  obtain ⟨f, fd, F, m, b⟩ := D.ex
  exact ⟨f, fd, F.okX S len (hbody f), m, F.kp, b⟩
end
section
variable {X : Cx} {k j : Nat} {ps : List Str} {sp : Sp} {x : Str} {p pos : Pos} {e : Expr} {es : List Expr} {t : TA} {W : WX}
/-- a call of a def that may raise: what it lets out is wished for here -/
theorem pe_ownS (C : Cal X.prog X.w X.K X.mg X.base (L2.CX X.prog X.w) x k ps sp) (tk : Takes X W) (hr : Room j X.A) (hk : k ≤ j) (ha : PA X (e :: es) t) (hg : Gl X x := by rfl) (hdb : (x == ("__debug__" : Str)) = false := by decide)
    (he : starEach (e :: es) X.env = (false, eval e X.env) :: starEach es X.env := by rfl) (hpl : (backTo pos (starEach es X.env)).any (·.1) = false := by rfl) : PE X (.Call (.Name x p) (e :: es) [] pos) (tCallS sp (WE W) t) := by
  obtain ⟨f, fd, F, m, kp, b⟩ := C.ex
  exact pe_callS F (hr.mono hk) hg m kp b (fun σ => passAt tk σ) ha hdb he hpl
end
section
variable {X : Cx} {k j : Nat} {ps : List Str} {sp : Sp} {x : Str} {p pos : Pos} {e : Expr} {es : List Expr} {t : TA}
/-- a call of such a def where it raises nothing -/
theorem pe_ownL (C : Cal X.prog X.w X.K X.mg X.base (L2.CX X.prog X.w) x k ps sp) (hr : Room j X.A) (hk : k ≤ j) (ha : PA X (e :: es) t) (hg : Gl X x := by rfl) (hdb : (x == ("__debug__" : Str)) = false := by decide)
    (he : starEach (e :: es) X.env = (false, eval e X.env) :: starEach es X.env := by rfl) (hpl : (backTo pos (starEach es X.env)).any (·.1) = false := by rfl) : PE X (.Call (.Name x p) (e :: es) [] pos) (tCall sp [] E0 t) := by
  obtain ⟨f, fd, F, m, kp, b⟩ := C.ex
  exact pe_call F (hr.mono hk) hg m kp b .nil passL ha hdb he hpl
end
/-! ### one step at a time -/
theorem asg_lst {t : TA} {g : TG} {D : Ends} {σ : L2.St} {H : Hp} (h : t σ H (fun xs H1 => xs.length ≤ sizeLine ∧ ∀ p, H1 p = none → g (.ref p) σ (upd H1 p (.lst xs)) D.nx)) : tAsg (tLst t) g D σ H := h
theorem asg_op {r : R2} {i : Nat} {v : V} {t : TA} {g : TG} {D : Ends} {σ : L2.St} {H : Hp} (e : σ[i]? = some (some v)) (h : t σ H (fun xs H1 => xs.length ≤ sizeLine ∧ ∀ p, H1 p = none → r v (.ref p) (upd H1 p (.lst xs)) fun z H3 => g z σ H3 D.nx)) : tAsg (tOp r (tVar i) (tLst t)) g D σ H := ⟨v, e, h⟩
theorem seq_of {t u : TS} {D : Ends} {σ : L2.St} {H : Hp} (h : t { D with nx := u D } σ H) : tSeq t u D σ H := h
theorem next_of {D : Ends} {σ : L2.St} {H : Hp} (h : D.nx σ H) : tNext D σ H := h
theorem if_not {A B : Prop} (h : B) : if (!true) = true then A else B := h
/-! ### lists of pairs, a text and a number -/
/-- an expression that gives the text s, laying things at most -/
def Evs (ta : TE) (s : Str) : Prop := ∀ σ H (Q : VK), (∀ H', Same H H' → Q (.str s) H') → ta σ H Q
theorem evs_c {s : Str} : Evs (tC (.str s)) s := fun σ H Q q => q H (Same.refl H)
def tPairs : List (TE × V) → TA
  | [] => tNil
  | p :: r => tCons (tTup (tCons p.1 (tCons (tC p.2) tNil))) (tPairs r)
abbrev PairsAt (H : Hp) : List Addr → List (Str × V) → Prop := Paired fun a q => H a = some (.tup [.str q.1, q.2])
theorem PairsAt.same {H H' : Hp} (s : Same H H') : ∀ {as : List Addr} {qs : List (Str × V)}, PairsAt H as qs → PairsAt H' as qs
  | _, _, .nil => .nil
  | _, _, .cons h r => .cons (s _ _ h) (PairsAt.same s r)
theorem PairsAt.app {H : Hp} : ∀ {as bs : List Addr} {qs rs : List (Str × V)}, PairsAt H as qs → PairsAt H bs rs → PairsAt H (as ++ bs) (qs ++ rs)
  | _, _, _, _, .nil, h => h
  | _, _, _, _, .cons h r, h' => .cons h (PairsAt.app r h')
theorem PairsAt.get {H : Hp} : ∀ {as : List Addr} {qs : List (Str × V)} {i : Nat} {a : Addr}, PairsAt H as qs → as[i]? = some a → ∃ q, qs[i]? = some q ∧ H a = some (.tup [.str q.1, q.2])
  | _, _, _, _, .nil, e => by simp at e
  | _, _, 0, _, .cons h r, e => by
    have e := Option.some.inj e
    subst e
    exact ⟨_, rfl, h⟩
  | _, _, i + 1, _, .cons h r, e => PairsAt.get (i := i) r e
theorem pairs_run : ∀ {ps : List (TE × V)} {qs : List (Str × V)}, Paired (fun p q => Evs p.1 q.1 ∧ p.2 = q.2) ps qs → ∀ (σ : L2.St) (H : Hp) (Q : List V → Hp → Prop), (∀ as H', Same H H' → PairsAt H' as qs → Q (as.map V.ref) H') → tPairs ps σ H Q
  | _, _, .nil, σ, H, Q, q => q [] H (Same.refl H) .nil
  | _, _, @Paired.cons _ _ _ p w ps qs h r, σ, H, Q, q => by
    obtain ⟨h1, h2⟩ := h
    refine h1 σ H _ fun H1 s1 => ?_
    refine ⟨Nat.le_of_ble_eq_true rfl, fun a na => ?_⟩
    refine pairs_run r σ _ _ fun as H2 s2 hp => ?_
    refine q (a :: as) H2 (Same.trans (Same.trans s1 (Same.new na)) s2) (.cons ?_ hp)
    rw [← h2]
    exact s2 _ _ upd_same
theorem rows_first {ps : List (TE × V)} {qs : List (Str × V)} {i : Nat} {D : Ends} {σ : L2.St} {H : Hp} (hp : Paired (fun p q => Evs p.1 q.1 ∧ p.2 = q.2) ps qs) (hl : qs.length ≤ 1000)
    (k : ∀ (as : List Addr) (R : Addr) (H' : Hp), Same H H' → PairsAt H' as qs → H' R = some (.lst (as.map V.ref)) → as.length = qs.length → D.nx (σ.set i (some (.ref R))) H') : tAsg (tLst (tPairs ps)) (gName i) D σ H := by
  refine pairs_run hp σ H _ fun as H1 s1 pa => ?_
  have la : as.length = qs.length := Paired.length pa
  refine ⟨small_le (by rw [List.length_map]; omega), fun R nR => ?_⟩
  exact k as R _ (Same.trans s1 (Same.new nR)) (PairsAt.same (Same.new nR) pa) upd_same la
theorem rows_step {ps : List (TE × V)} {qs qs' : List (Str × V)} {i : Nat} {D : Ends} {σ : L2.St} {H : Hp} {R : Addr} {as : List Addr} (hp : Paired (fun p q => Evs p.1 q.1 ∧ p.2 = q.2) ps qs') (hR : H R = some (.lst (as.map V.ref))) (pa : PairsAt H as qs)
    (hs : σ[i]? = some (some (.ref R))) (hl : as.length + qs'.length ≤ 1000)
    (k : ∀ (as' : List Addr) (R' : Addr) (H' : Hp), Same H H' → PairsAt H' as' (qs ++ qs') → H' R' = some (.lst (as'.map V.ref)) → as'.length = as.length + qs'.length → D.nx (σ.set i (some (.ref R'))) H') : tAsg (tOp rCat (tVar i) (tLst (tPairs ps))) (gName i) D σ H := by
  refine ⟨_, hs, pairs_run hp σ H _ fun bs H1 s1 pb => ?_⟩
  have lb : bs.length = qs'.length := Paired.length pb
  refine ⟨small_le (by rw [List.length_map]; omega), fun B nB => ?_⟩
  refine ⟨R, B, as.map V.ref, bs.map V.ref, rfl, rfl, Same.new nB _ _ (s1 _ _ hR), upd_same, small_le (by rw [List.length_map, List.length_map]; omega), fun R' nR' => ?_⟩
  have s2 : Same H1 (upd (upd H1 B (.lst (bs.map V.ref))) R' (.lst (as.map V.ref ++ bs.map V.ref))) := Same.trans (Same.new nB) (Same.new nR')
  refine k (as ++ bs) R' _ (Same.trans s1 s2) (PairsAt.app (PairsAt.same (Same.trans s1 s2) pa) (PairsAt.same s2 pb)) (by rw [upd_same, List.map_append]) (by rw [List.length_append, lb])
/-! ### __init__: self.f = f -/
/-- the class's __init__, as it stands -/
structure MetAt (K : PySem.W.Frag) (C : Addr) (m qual : Str) (st : Stmt) (ps : List Str) : Prop where
  ex : ∃ (f : Addr) (fd : FuncData), PySem.W.findIn K (.ref C) m = some (some (.ref f)) ∧ PySem.W.typeIn K (.ref f) = some (.type "function") ∧ Fun K m qual st f fd ∧ Binds K fd ps []
local macro_rules | `(tactic| walk_at "cl") => `(tactic| first | assumption | omega | exact rfl | exact SqL.of (by assumption) | exact SqT.of (by assumption) | exact SqL.of upd_same | exact SqT.of upd_same | exact upd_same | exact tyx_tup (by assumption) | exact TyX.base (.int _) | exact TyX.base (.str _) | exact TyX.base .non | exact TyX.base (.bl _) | exact tyx_lst (by first | assumption | exact SqL.of (by assumption)) | exact at0 | exact at1 | exact at2 | exact at3 | exact ⟨_, by assumption⟩ | exact ⟨_, rfl⟩ | exact ⟨_, SqL.of (by assumption)⟩ | exact ⟨_, SqL.of upd_same⟩ | exact ⟨_, SqT.of (by assumption)⟩ | exact Nat.le_of_ble_eq_true rfl | exact Or.inl ⟨rfl, _, SqL.of (by assumption)⟩ | exact Or.inl ⟨rfl, _, SqL.of upd_same⟩ | exact Dp.non | exact Dp.int _ | exact Dp.bl _ | exact Dp.str _ | exact True.intro | solve_by_elim | decide)
local macro_rules | `(tactic| walk_at "lp") => `(tactic| (fail_if_success refine Exists.intro (w := (fun (_ : Nat) (_ : Nat) (_ : L2.St) (_ : Hp) => True)) ?_); (fail_if_success refine Exists.intro (w := (fun (_ : Nat) (_ : L2.St) (_ : Hp) => True)) ?_); (fail_if_success refine Exists.intro (w := (fun (_ : Nat) (_ : Nat) (_ : Hp) => True)) ?_))
local macro_rules | `(tactic| walk_at "st") => `(tactic| repeat (first | (apply And.intro; (· walk_at "cl")) | (walk_at "lp"; apply Exists.intro)))
def topS (i : Nat) : Stmt := PySem.Challenge.pw_streetpapers_k00_whole_tables.main.body.getD i (.Pass ⟨0, 0, 0, 0⟩)
abbrev s_is_whole : Stmt := topS 6
theorem sc_is_whole : FnScope ["value", "least", "greatest"] ["value", "least", "greatest"] (defScope s_is_whole) := ⟨rfl, rfl, rfl, by decide +kernel, rfl, by decide +kernel, by decide +kernel⟩
abbrev s_check_text : Stmt := topS 7
theorem sc_check_text : FnScope ["value"] ["value"] (defScope s_check_text) := ⟨rfl, rfl, rfl, by decide +kernel, rfl, by decide +kernel, by decide +kernel⟩
abbrev s_write_table : Stmt := topS 14
theorem sc_write_table : FnScope ["table", "state", "entry"] ["table"] (defScope s_write_table) := ⟨rfl, rfl, rfl, by decide +kernel, rfl, by decide +kernel, by decide +kernel⟩
abbrev s_read_table : Stmt := topS 15
theorem sc_read_table : FnScope ["text", "states", "place", "word", "table", "state"] ["text"] (defScope s_read_table) := ⟨rfl, rfl, rfl, by decide +kernel, rfl, by decide +kernel, by decide +kernel⟩
abbrev s_check_table : Stmt := topS 16
theorem sc_check_table : FnScope ["value"] ["value"] (defScope s_check_table) := ⟨rfl, rfl, rfl, by decide +kernel, rfl, by decide +kernel, by decide +kernel⟩
abbrev s_is_table : Stmt := topS 17
theorem sc_is_table : FnScope ["value", "state", "entry"] ["value"] (defScope s_is_table) := ⟨rfl, rfl, rfl, by decide +kernel, rfl, by decide +kernel, by decide +kernel⟩
abbrev s_u_is_entry : Stmt := topS 18
theorem sc_u_is_entry : FnScope ["value", "colours", "states", "paint", "turn", "state"] ["value", "colours", "states"] (defScope s_u_is_entry) := ⟨rfl, rfl, rfl, by decide +kernel, rfl, by decide +kernel, by decide +kernel⟩
abbrev s_u_word_of : Stmt := topS 19
theorem sc_u_word_of : FnScope ["entry", "paint", "turn", "state"] ["entry"] (defScope s_u_word_of) := ⟨rfl, rfl, rfl, by decide +kernel, rfl, by decide +kernel, by decide +kernel⟩
abbrev s_u_is_word : Stmt := topS 20
theorem sc_u_is_word : FnScope ["word"] ["word"] (defScope s_u_is_word) := ⟨rfl, rfl, rfl, by decide +kernel, rfl, by decide +kernel, by decide +kernel⟩
abbrev s_u_entry_of : Stmt := topS 21
theorem sc_u_entry_of : FnScope ["word"] ["word"] (defScope s_u_entry_of) := ⟨rfl, rfl, rfl, by decide +kernel, rfl, by decide +kernel, by decide +kernel⟩
abbrev s_law_taken : Stmt := topS 23
theorem sc_law_taken : FnScope ["row", "many", "found", "cell"] ["row", "many"] (defScope s_law_taken) := ⟨rfl, rfl, rfl, by decide +kernel, rfl, by decide +kernel, by decide +kernel⟩
abbrev s_law_table : Stmt := topS 24
theorem sc_law_table : FnScope ["row", "states", "colours", "stop", "found", "state", "line", "colour", "entry"] ["row"] (defScope s_law_table) := ⟨rfl, rfl, rfl, by decide +kernel, rfl, by decide +kernel, by decide +kernel⟩
abbrev s_law_alike : Stmt := topS 25
theorem sc_law_alike : FnScope ["found", "due", "k"] ["found", "due"] (defScope s_law_alike) := ⟨rfl, rfl, rfl, by decide +kernel, rfl, by decide +kernel, by decide +kernel⟩
abbrev s_law : Stmt := topS 26
theorem sc_law : FnScope ["script", "row", "table", "text", "rows", "some", "place", "told", "error", "line", "one"] ["script"] (defScope s_law) := ⟨rfl, rfl, rfl, by decide +kernel, rfl, by decide +kernel, by decide +kernel⟩
abbrev s_InvalidText_init : Stmt := inClass (topS 4) 0
theorem sc_InvalidText_init : FnScope ["self", "place"] ["self", "place"] (defScope s_InvalidText_init) := ⟨rfl, rfl, rfl, by decide +kernel, rfl, by decide +kernel, by decide +kernel⟩
/-- what the top has left of built-in names and constants -/
structure Txt (K : PySem.W.Frag) (mg : Str → Option Value) : Prop where
  m_ValueError : mg "ValueError" = none
  m_all : mg "all" = none
  m_bool : mg "bool" = none
  m_int : mg "int" = none
  m_isinstance : mg "isinstance" = none
  m_len : mg "len" = none
  m_list : mg "list" = none
  m_range : mg "range" = none
  m_str : mg "str" = none
  m_tuple : mg "tuple" = none
  most_states : ∃ t, mg "MOST_STATES" = some (.int 10 t)
  fewest_colours : ∃ t, mg "FEWEST_COLOURS" = some (.int 2 t)
  most_colours : ∃ t, mg "MOST_COLOURS" = some (.int 6 t)
  figures : ∃ t, mg "FIGURES" = some (.str "0123456789" t)
  turns : ∃ t, mg "TURNS" = some (.str "arbl" t)
section
variable {P : Program} {w : World} {K : PySem.W.Frag} {mg : Str → Option Value} {base : Heap}
theorem ok_law_taken (T : Txt K mg) (D : DefAt K mg "_law_taken" s_law_taken ["row", "many"]) : Cal P w K mg base CX0 "_law_taken" 1 ["row", "many"] (spTaken K) := by
  refine D.cal sc_law_taken (fun vs H Q E h => ?_) (fun f cdv A outer s H vs Q E hr h => ?_)
  · obtain ⟨r, many, rfl, _⟩ := h
    rfl
  · obtain ⟨r, many, rfl, ⟨t, ns, i, m, c, hrow, hS, hi, hm0, hm1, hc⟩, hp, hb, q⟩ := h
    refine ⟨_, (pss_cons (ps_if (pt_cmpR op_gt (pe_ix (k_ix_list (K := K)) (pv 0) pe_int (fun _ _ => rfl)) pe_int (nomark _)) (pss_cons (ps_set (i := 2) sc_law_taken.nd rfl (Or.inl rfl) (pe_op op_mod (pe_callTy call_int_i (by rfl) T.m_int (by decide +kernel) (pa_cons (pe_ix (k_ix_list (K := K)) (pv 0) pe_int (fun _ _ => rfl)) pa_nil)) (pv 1)))
      (pss_cons (ps_asg (pe_op op_fdivW (pe_ix (k_ix_list (K := K)) (pv 0) pe_int (fun _ _ => rfl)) (pv 1)) (pg_sub (pv 0) pe_int set_list))
      (pss_one (ps_ret (pv 2))))) pss_nil)
      (pss_cons (ps_asg (pe_op op_add (pe_ix (k_ix_list (K := K)) (pv 0) pe_int (fun _ _ => rfl)) pe_int) (pg_sub (pv 0) pe_int set_list))
      (pss_cons (ps_if (pt_cmpR op_gt (pe_ix (k_ix_list (K := K)) (pv 0) pe_int (fun _ _ => rfl)) (pe_callB (k_len_l (K := K)) (by rfl) T.m_len (by decide +kernel) (pa_cons (pe_ix (k_ix_list (K := K)) (pv 0) pe_int (fun _ _ => rfl)) pa_nil)) (nomark _)) (pss_cons (ps_asg (pe_op op_mod (pe_callTy call_int_i (by rfl) T.m_int (by decide +kernel) (pa_cons (pe_op op_add (pe_op op_mul (pe_ix (k_ix_list (K := K)) (pv 0) pe_int (fun _ _ => rfl)) pe_int) pe_int) pa_nil)) pe_int) (pg_sub (pv 0) pe_int set_list))
      (pss_one (ps_ret (pe_op op_mod (pe_callTy call_int_i (by rfl) T.m_int (by decide +kernel) (pa_cons (pe_op op_fdivW (pe_ix (k_ix_list (K := K)) (pv 0) pe_int (fun _ _ => rfl)) pe_int) pa_nil)) (pv 1))))) pss_nil)
      (pss_cons (ps_set (i := 3) sc_law_taken.nd rfl (Or.inl rfl) (pe_ix (k_ix_list (K := K)) (pe_ix (k_ix_list (K := K)) (pv 0) pe_int (fun _ _ => rfl)) (pe_op op_sub (pe_ix (k_ix_list (K := K)) (pv 0) pe_int (fun _ _ => rfl)) pe_int) (fun _ _ => rfl)))
      (pss_cons (ps_asg (pe_op op_mod (pe_callTy call_int_i (by rfl) T.m_int (by decide +kernel) (pa_cons (pe_op op_add (pe_op op_add (pe_op op_mul (pe_ix (k_ix_list (K := K)) (pv 0) pe_int (fun _ _ => rfl)) pe_int) (pv 3)) pe_int) pa_nil)) pe_int) (pg_sub (pv 0) pe_int set_list))
      (pss_cons (ps_if (pt_cmpR op_ge (pv 3) (pe_op op_pow pe_int pe_int) (nomark _)) (pss_one (ps_asg (pe_op op_fdivW (pv 3) (pv 1)) (pg_sub (pv 0) pe_int set_list))) pss_nil)
      (pss_one (ps_ret (pe_op op_mod (pe_callTy call_int_i (by rfl) T.m_int (by decide +kernel) (pa_cons (pv 3) pa_nil)) (pv 1)))))))))), ?_⟩
    have hdiv : ∀ c, CDivW c many := fun c => wide_div hp (show many.natAbs < 2 ^ 250 by omega) (by decide) (by decide)
    have hdiv7 : ∀ c, CDivW c 7 := fun c => ⟨by decide, by decide⟩
    have hmul : ∀ c, CMul c 48271 := fun c => .inr ⟨by decide, by decide⟩
    have hpow : CPow 10 18 := ⟨by decide, by decide, by decide⟩
    have hk : ∀ o, KeepB r H (upd H r o) := fun o => KeepB.put
    have hs := hS.sq
    have hS1 : ∀ o, Scr K (upd H r o) t ns := fun o => hS.mono (TK.lst hrow)
    have hs1 : ∀ o, SqL K (upd H r o) t (ns.map V.int) := fun o => (hS1 o).sq
    have hs2 : ∀ o o', SqL K (upd (upd H r o) r o') t (ns.map V.int) := fun o o' => by rw [upd_upd]; exact hs1 _
    have hmod : ∀ x : Int, 0 ≤ x % 2147483647 ∧ x % 2147483647 < 2147483647 := fun x => ⟨Int.emod_nonneg _ (by decide), Int.emod_lt_of_pos _ (by decide)⟩
    have fin : ∀ (x i' m' c' : Int), 0 ≤ i' → 0 ≤ m' → m' < 2147483647 → 0 ≤ c' → Q (.int (x % many)) (upd H r (.lst [.ref t, .int i', .int m', .int c'])) := fun x i' m' c' h1 h2 h3 h4 =>
      q _ _ (Int.emod_nonneg _ (by omega)) (Int.emod_lt_of_pos _ hp) ⟨t, ns, i', m', c', upd_same, hS1 _, h1, h2, h3, h4⟩ (hk _)
    walk_at "st"
    refine ite2 (fun e => ?_) (fun e => ?_)
    · have e := of_decide_eq_true e
      walk_at "st"
      exact fin c i m (c / many) hi hm0 hm1 (Int.ediv_nonneg hc (by omega))
    · walk_at "st"
      refine ite2 (fun e => ?_) (fun e => ?_)
      · walk_at "st"
        simp only [upd_upd]
        exact fin _ (i + 1) _ c (by omega) (hmod _).1 (hmod _).2 hc
      · have e2 : ¬ ((i + 1 : Int) > ((ns.map V.int).length : Int)) := fun z => e (decide_eq_true z)
        rw [List.length_map] at e2
        have hat : ∃ z, atI (ns.map V.int) (i + 1 - 1) = some (.int z) := by
          obtain ⟨j, rfl⟩ : ∃ j : Nat, i = (j : Int) := ⟨i.toNat, by omega⟩
          have hj : j < ns.length := by omega
          refine ⟨ns[j], ?_⟩
          rw [show ((j : Int) + 1 - 1) = (j : Int) by omega]
          exact atI_nat (by rw [List.getElem?_map, List.getElem?_eq_getElem hj]; rfl)
        obtain ⟨z, hat⟩ := hat
        walk_at "st"
        refine ite2 (fun e => ?_) (fun e => ?_)
        · have e := of_decide_eq_true e
          walk_at "st"
          simp only [upd_upd]
          have hz : (0 : Int) ≤ z := Int.le_trans (by decide) e
          exact fin _ (i + 1) _ _ (by omega) (hmod _).1 (hmod _).2 (Int.ediv_nonneg hz (by omega))
        · walk_at "st"
          simp only [upd_upd]
          exact fin _ (i + 1) _ c (by omega) (hmod _).1 (hmod _).2 hc
end

/-! ### tables -/
abbrev Ent := Option (Int × Int × Int)
def entD : Ent → PyData
  | none => .none
  | some e => .tuple [.int e.1, .int e.2.1, .int e.2.2]
def rowD (r : List Ent) : PyData := .tuple (r.map entD)
def tabD (T : List (List Ent)) : PyData := .tuple (T.map rowD)
def EntOk (c n : Int) : Ent → Prop
  | none => True
  | some e => (0 ≤ e.1 ∧ e.1 < c) ∧ (0 ≤ e.2.1 ∧ e.2.1 < 4) ∧ (0 ≤ e.2.2 ∧ e.2.2 < n)
def TabOk (c n : Nat) (T : List (List Ent)) : Prop := T.length = n ∧ ∀ r ∈ T, r.length = c ∧ ∀ e ∈ r, EntOk c n e
def spTable (K : PySem.W.Frag) : Sp := fun vs H Q _ => ∃ r : Addr, vs = [.ref r] ∧ Row K H r ∧
  ∀ (v : V) (H' : Hp) (c n : Nat) (T : List (List Ent)), 1 ≤ n → n ≤ 2 → 2 ≤ c → c ≤ 3 → TabOk c n T → Tp K H' v (tabD T) → Row K H' r → KeepB r H H' → Q v H'
section
variable {P : Program} {w : World} {K : PySem.W.Frag} {mg : Str → Option Value} {base : Heap}
theorem ok_law_table (T : Txt K mg) (D : DefAt K mg "_law_table" s_law_table ["row"]) (C_law_taken : Cal P w K mg base CX0 "_law_taken" 1 ["row", "many"] (spTaken K)) : Cal P w K mg base CX0 "_law_table" 2 ["row"] (spTable K) := by
  refine D.cal sc_law_table (fun vs H Q E h => ?_) (fun f cdv A outer s H vs Q E hr h => ?_)
  · obtain ⟨r, rfl, _⟩ := h
    rfl
  · obtain ⟨r, rfl, hrow, q⟩ := h
    refine ⟨_, (pss_cons (ps_par3 (i := 1) (j := 2) (l := 3) (by rfl) sc_law_table.nd rfl rfl rfl (by decide) (by decide) (by decide) rfl rfl rfl (pa_cons (pe_op op_add pe_int (pe_own C_law_taken hr (by first | decide | omega) (pa_cons (pv 0) (pa_cons pe_int pa_nil)))) (pa_cons (pe_op op_add pe_int (pe_own C_law_taken hr (by first | decide | omega) (pa_cons (pv 0) (pa_cons pe_int pa_nil)))) (pa_cons (pe_own C_law_taken hr (by first | decide | omega) (pa_cons (pv 0) (pa_cons pe_int pa_nil))) pa_nil))) (by rfl))
      (pss_cons (ps_set (i := 4) sc_law_table.nd rfl (Or.inl rfl) (pe_lst pa_nil))
      (pss_cons (ps_for PassesOwn.never rfl (pi_range1 (by rfl) T.m_range (pa_cons (pv 1) pa_nil)) (pg_name (i := 5) sc_law_table.nd rfl (Or.inl rfl))
      (pss_cons (ps_set (i := 6) sc_law_table.nd rfl (Or.inl rfl) (pe_lst pa_nil))
      (pss_cons (ps_for PassesOwn.never rfl (pi_range1 (by rfl) T.m_range (pa_cons (pv 2) pa_nil)) (pg_name (i := 7) sc_law_table.nd rfl (Or.inl rfl))
      (pss_cons (ps_set (i := 8) sc_law_table.nd rfl (Or.inl rfl) (pe_tup (pa_cons (pe_own C_law_taken hr (by first | decide | omega) (pa_cons (pv 0) (pa_cons (pv 2) pa_nil))) (pa_cons (pe_own C_law_taken hr (by first | decide | omega) (pa_cons (pv 0) (pa_cons pe_int pa_nil))) (pa_cons (pe_own C_law_taken hr (by first | decide | omega) (pa_cons (pv 0) (pa_cons (pv 1) pa_nil))) pa_nil)))))
      (pss_one (ps_expr (pe_bm PySem.F.plainAttrs_list PySem.F.slot_list_append PySem.F.type_list_append mt_append (pv 6) (pa_cons (pe_ifExp (PW.pt (pw_and (pt_cmpR op_eq (pv 3) pe_int (nomark _)) (pw_and1 (pt_cmpR op_eq (pe_own C_law_taken hr (by first | decide | omega) (pa_cons (pv 0) (pa_cons pe_int pa_nil))) pe_int (nomark _))))) pe_non (pv 8)) pa_nil))))))
      (pss_one (ps_expr (pe_bm PySem.F.plainAttrs_list PySem.F.slot_list_append PySem.F.type_list_append mt_append (pv 4) (pa_cons (pe_callTy (k_tuple_l (K := K)) (by rfl) T.m_tuple (by decide +kernel) (pa_cons (pv 6) pa_nil)) pa_nil)))))))
      (pss_one (ps_ret (pe_callTy (k_tuple_l (K := K)) (by rfl) T.m_tuple (by decide +kernel) (pa_cons (pv 4) pa_nil))))))), ?_⟩
    walk_at "st"
    intro n' H1 hn0 hn2 R1 k1
    walk_at "st"
    intro c' H2 hc0 hc2 R2 k2
    walk_at "st"
    intro stop H3 hs0 hs4 R3 k3
    walk_at "st"
    intro p np
    have k03 : KeepB r H H3 := (k1.trans k2).trans k3
    have npr : p ≠ r := R3.ne np
    walk_at "st"
    refine for_range (lo := 0) (n := (1 + n').toNat) (fun i σ H' => Ok (∃ (y5 y6 y7 y8 : Option V) (vs : List V) (rows : List (List Ent)), σ = [some (.ref r), some (.int (1 + n')), some (.int (2 + c')), some (.int stop), some (.ref p), y5, y6, y7, y8] ∧
      rows.length = i ∧ (∀ row ∈ rows, row.length = (2 + c').toNat ∧ ∀ e ∈ row, EntOk (2 + c') (1 + n') e) ∧ H' p = some (.lst vs) ∧ TpAll K H' vs (rows.map rowD) ∧ Row K H' r ∧ KeepB r H3 H')) ?_ ?_ ?_
    · exact ⟨_, _, _, _, [], [], rfl, rfl, fun _ h => absurd h List.not_mem_nil, upd_same, .nil, R3.new np, KeepB.new np⟩
    · rintro i σ H4 hi ⟨y5, y6, y7, y8, vs, rows, rfl, hl, hok, hp, hvs, R4, k4⟩
      walk_at "st"
      intro l nl
      have nlp : l ≠ p := (ne_of_none hp nl).symm
      have nlr : l ≠ r := R4.ne nl
      walk_at "st"
      refine for_range (lo := 0) (n := (2 + c').toNat) (fun j σ H' => Ok (∃ (y7 y8 : Option V) (ws : List V) (row : List Ent), σ = [some (.ref r), some (.int (1 + n')), some (.int (2 + c')), some (.int stop), some (.ref p), some (.int (0 + (i : Int))), some (.ref l), y7, y8] ∧
        row.length = j ∧ (∀ e ∈ row, EntOk (2 + c') (1 + n') e) ∧ H' l = some (.lst ws) ∧ TpAll K H' ws (row.map entD) ∧ H' p = some (.lst vs) ∧ TpAll K H' vs (rows.map rowD) ∧ Row K H' r ∧ KeepB r H3 H')) ?_ ?_ ?_
      · exact ⟨_, _, [], [], rfl, rfl, fun _ h => absurd h List.not_mem_nil, upd_same, .nil, by rw [upd_ne nlp.symm]; exact hp, TpAll.mono (TK.new nl) _ _ hvs, R4.new nl, k4.trans (KeepB.new nl)⟩
      · rintro j σ H5 hj ⟨y7, y8, ws, row, rfl, hrl, hrok, hl5, hws, hp5, hvs5, R5, k5⟩
        walk_at "st"
        intro a1 H6 a10 a11 R6 k6
        walk_at "st"
        intro a2 H7 a20 a21 R7 k7
        walk_at "st"
        intro a3 H8 a30 a31 R8 k8
        walk_at "st"
        intro e ne
        have k58 : KeepB r H5 H8 := (k6.trans k7).trans k8
        have hl8 : H8 l = some (.lst ws) := k58 _ _ nlr hl5
        have hp8 : H8 p = some (.lst vs) := k58 _ _ npr hp5
        have t58 : TK H5 H8 := k58.row R5
        have hsz : ws.length < sizeLine := by
          have z := TpAll.length hws
          rw [List.length_map] at z
          exact small1000 (by omega)
        have hE : EntOk (2 + c') (1 + n') (some (a1, a2, a3)) := ⟨⟨a10, a11⟩, ⟨a20, a21⟩, ⟨a30, a31⟩⟩
        have fin : ∀ (x : V) (en : Ent) (Hx : Hp), EntOk (2 + c') (1 + n') en → Tp K Hx x (entD en) → TK H5 Hx → Hx l = some (.lst ws) → Hx p = some (.lst vs) → Row K Hx r → KeepB r H3 Hx →
            Ok (∃ (y7 y8 : Option V) (ws2 : List V) (row : List Ent), ([some (.ref r), some (.int (1 + n')), some (.int (2 + c')), some (.int stop), some (.ref p), some (.int (0 + (i : Int))), some (.ref l), some (.int (0 + (j : Int))), some (.ref e)] : L2.St) = [some (.ref r), some (.int (1 + n')), some (.int (2 + c')), some (.int stop), some (.ref p), some (.int (0 + (i : Int))), some (.ref l), y7, y8] ∧
            row.length = j + 1 ∧ (∀ e ∈ row, EntOk (2 + c') (1 + n') e) ∧ (upd Hx l (.lst (ws ++ [x]))) l = some (.lst ws2) ∧ TpAll K (upd Hx l (.lst (ws ++ [x]))) ws2 (row.map entD) ∧ (upd Hx l (.lst (ws ++ [x]))) p = some (.lst vs) ∧ TpAll K (upd Hx l (.lst (ws ++ [x]))) vs (rows.map rowD) ∧ Row K (upd Hx l (.lst (ws ++ [x]))) r ∧ KeepB r H3 (upd Hx l (.lst (ws ++ [x])))) := fun x en Hx he hx t5 hlx hpx Rx kx => by
          have tu : TK Hx (upd Hx l (.lst (ws ++ [x]))) := TK.lst hlx
          refine ⟨_, _, ws ++ [x], row ++ [en], rfl, ?_, ?_, upd_same, ?_, ?_, TpAll.mono (t5.trans tu) _ _ hvs5, Rx.put hlx nlr, kx.fresh (k4.back nl nlr)⟩
          · rw [List.length_append, hrl]; rfl
          · intro y hy
            rcases List.mem_append.mp hy with h | h
            · exact hrok y h
            · rw [List.mem_singleton.mp h]; exact he
          · rw [List.map_append]
            exact TpAll.append (TpAll.mono (t5.trans tu) _ _ hws) (.cons (Tp.mono tu _ _ hx) .nil)
          · rw [upd_ne nlp.symm]; exact hpx
        have te : TK H8 (upd H8 e (.tup [.int a1, .int a2, .int a3])) := TK.new ne
        have hl9 : (upd H8 e (.tup [.int a1, .int a2, .int a3])) l = some (.lst ws) := by rw [upd_ne (ne_of_none hl8 ne)]; exact hl8
        have hp9 : (upd H8 e (.tup [.int a1, .int a2, .int a3])) p = some (.lst vs) := by rw [upd_ne (ne_of_none hp8 ne)]; exact hp8
        have R9 : Row K (upd H8 e (.tup [.int a1, .int a2, .int a3])) r := R8.new ne
        have hx9 : Tp K (upd H8 e (.tup [.int a1, .int a2, .int a3])) (.ref e) (entD (some (a1, a2, a3))) := .tup (SqT.of upd_same) (.cons (.int _) (.cons (.int _) (.cons (.int _) .nil)))
        have k39 : KeepB r H3 (upd H8 e (.tup [.int a1, .int a2, .int a3])) := (k5.trans k58).trans (KeepB.new ne)
        walk_at "st"
        refine ite2 (fun e0 => ?_) (fun e0 => ?_)
        · walk_at "st"
          intro b H10 b0 b1 R10 k10
          walk_at "st"
          have hl10 : H10 l = some (.lst ws) := k10 _ _ nlr hl9
          have hp10 : H10 p = some (.lst vs) := k10 _ _ npr hp9
          have t10 : TK (upd H8 e (.tup [.int a1, .int a2, .int a3])) H10 := k10.row R9
          refine ite2 (fun e1 => ?_) (fun e1 => ?_)
          · walk_at "st"
            exact fin _ none _ trivial .non ((t58.trans te).trans t10) hl10 hp10 R10 (k39.trans k10)
          · walk_at "st"
            exact fin _ (some (a1, a2, a3)) _ hE (Tp.mono t10 _ _ hx9) ((t58.trans te).trans t10) hl10 hp10 R10 (k39.trans k10)
        · walk_at "st"
          exact fin _ (some (a1, a2, a3)) _ hE hx9 (t58.trans te) hl9 hp9 R9 k39
      · rintro σ H5 ⟨y7, y8, ws, row, rfl, hrl, hrok, hl5, hws, hp5, hvs5, R5, k5⟩
        have hsz : vs.length < sizeLine := by
          have z := TpAll.length hvs5
          rw [List.length_map] at z
          exact small1000 (by omega)
        walk_at "st"
        intro u nu
        have hp6 : (upd H5 u (.tup ws)) p = some (.lst vs) := by rw [upd_ne (ne_of_none hp5 nu)]; exact hp5
        have R6 : Row K (upd H5 u (.tup ws)) r := R5.new nu
        walk_at "st"
        have tu : TK H5 (upd H5 u (.tup ws)) := TK.new nu
        have tv : TK (upd H5 u (.tup ws)) (upd (upd H5 u (.tup ws)) p (.lst (vs ++ [.ref u]))) := TK.lst hp6
        have hx : Tp K (upd H5 u (.tup ws)) (.ref u) (rowD row) := .tup (SqT.of upd_same) (TpAll.mono tu _ _ hws)
        refine ⟨_, _, _, _, vs ++ [.ref u], rows ++ [row], rfl, ?_, ?_, upd_same, ?_, R6.put hp6 npr, (k5.trans (KeepB.new nu)).fresh np⟩
        · rw [List.length_append, hl]; rfl
        · intro y hy
          rcases List.mem_append.mp hy with h | h
          · exact hok y h
          · rw [List.mem_singleton.mp h]; exact ⟨hrl, hrok⟩
        · rw [List.map_append]
          exact TpAll.append (TpAll.mono (tu.trans tv) _ _ hvs5) (.cons (Tp.mono tv _ _ hx) .nil)
    · rintro σ H4 ⟨y5, y6, y7, y8, vs, rows, rfl, hl, hok, hp, hvs, R4, k4⟩
      walk_at "st"
      intro u nu
      refine q _ _ (2 + c').toNat (1 + n').toNat rows (by omega) (by omega) (by omega) (by omega) ⟨hl, fun row hrow => ?_⟩ (.tup (SqT.of upd_same) (TpAll.mono (TK.new nu) _ _ hvs)) (R4.new nu) ((k03.trans k4).trans (KeepB.new nu))
      obtain ⟨h1, h2⟩ := hok row hrow
      refine ⟨h1, fun e he => ?_⟩
      rw [show (((2 + c').toNat : Nat) : Int) = 2 + c' by omega, show (((1 + n').toNat : Nat) : Int) = 1 + n' by omega]
      exact h2 e he
end

/-! ### is it a table? -/
def entB (c n : Int) : Ent → Bool
  | none => true
  | some e => (decide (0 ≤ e.1) && decide (e.1 ≤ c - 1)) && ((decide (0 ≤ e.2.1) && decide (e.2.1 ≤ 3)) && (decide (0 ≤ e.2.2) && decide (e.2.2 ≤ n - 1)))
def tabB : List (List Ent) → Bool
  | [] => false
  | r0 :: rs => decide ((r0 :: rs).length ≤ 10) && (((r0 :: rs).all fun r => decide (r.length = r0.length) && r.all (entB r.length (r0 :: rs).length)) && (decide (2 ≤ r0.length) && decide (r0.length ≤ 6)))
def spWhole : Sp := fun vs H Q _ => ∃ v lo hi : Int, vs = [.int v, .int lo, .int hi] ∧ Q (.bl (decide (lo ≤ v) && decide (v ≤ hi))) H
def spEntry (K : PySem.W.Frag) : Sp := fun vs H Q _ => ∃ (v : V) (c n : Int) (e : Ent), vs = [v, .int c, .int n] ∧ Tp K H v (entD e) ∧ Q (.bl (entB c n e)) H
def spIsTable (K : PySem.W.Frag) : Sp := fun vs H Q _ => ∃ (v : V) (T : List (List Ent)), vs = [v] ∧ Tp K H v (tabD T) ∧ T.length ≤ 1000 ∧ (∀ r ∈ T, r.length ≤ 1000) ∧ ∀ H', Same H H' → Q (.bl (tabB T)) H'
section
variable {P : Program} {w : World} {K : PySem.W.Frag} {mg : Str → Option Value} {base : Heap}
theorem ok_is_whole (T : Txt K mg) (D : DefAt K mg "is_whole" s_is_whole ["value", "least", "greatest"]) : Cal P w K mg base CX0 "is_whole" 1 ["value", "least", "greatest"] spWhole := by
  refine D.cal sc_is_whole (fun vs H Q E h => ?_) (fun f cdv A outer s H vs Q E hr h => ?_)
  · obtain ⟨v, lo, hi, rfl, _⟩ := h
    rfl
  · obtain ⟨v, lo, hi, rfl, q⟩ := h
    refine ⟨_, (pss_cons (ps_if (PW.pt (pw_or (pt_not (pt_val (pe_callB (k_isN (K := K)) (by rfl) T.m_isinstance (by decide +kernel) (pa_cons (pv 0) (pa_cons (pe_ty "int" (by rfl) T.m_int (by decide +kernel)) pa_nil))))) (pw_or1 (pt_val (pe_callB (k_isN (K := K)) (by rfl) T.m_isinstance (by decide +kernel) (pa_cons (pv 0) (pa_cons (pe_ty "bool" (by rfl) T.m_bool (by decide +kernel)) pa_nil))))))) (pss_one (ps_ret pe_bl)) pss_nil)
      (pss_one (ps_ret (pe_chain op_le op_le (pv 1) (pv 0) (pv 2))))), ?_⟩
    walk_at "st"
    refine ite2 (fun e => ?_) (fun e => ?_)
    · walk_at "st"
      rw [e, Bool.true_and] at q
      exact q
    · rw [Bool.eq_false_iff.mpr e, Bool.false_and] at q
      exact q
theorem ok_u_is_entry (T : Txt K mg) (D : DefAt K mg "_is_entry" s_u_is_entry ["value", "colours", "states"]) (C_is_whole : Cal P w K mg base CX0 "is_whole" 1 ["value", "least", "greatest"] spWhole) : Cal P w K mg base CX0 "_is_entry" 2 ["value", "colours", "states"] (spEntry K) := by
  refine D.cal sc_u_is_entry (fun vs H Q E h => ?_) (fun f cdv A outer s H vs Q E hr h => ?_)
  · obtain ⟨v, c, n, e, rfl, _⟩ := h
    rfl
  · obtain ⟨v, c, n, e, rfl, hv, q⟩ := h
    refine ⟨_, (pss_cons (ps_if (pt_cmpR op_isN (pv 0) pe_non (nomark _)) (pss_one (ps_ret pe_bl)) pss_nil)
      (pss_cons (ps_if (PW.pt (pw_or (pt_not (pt_val (pe_callB (k_isN (K := K)) (by rfl) T.m_isinstance (by decide +kernel) (pa_cons (pv 0) (pa_cons (pe_ty "tuple" (by rfl) T.m_tuple (by decide +kernel)) pa_nil))))) (pw_or1 (pt_cmpR op_ne (pe_callB (k_len_t (K := K)) (by rfl) T.m_len (by decide +kernel) (pa_cons (pv 0) pa_nil)) pe_int (nomark _))))) (pss_one (ps_ret pe_bl)) pss_nil)
      (pss_cons (ps_asg (pv 0) (pg_tup (by rfl) (pgs_cons (pg_name (i := 3) sc_u_is_entry.nd rfl (Or.inl rfl)) (pgs_cons (pg_name (i := 4) sc_u_is_entry.nd rfl (Or.inl rfl)) (pgs_cons (pg_name (i := 5) sc_u_is_entry.nd rfl (Or.inl rfl)) pgs_nil)))))
      (pss_one (ps_ret (pe_and (pe_own C_is_whole hr (by first | decide | omega) (pa_cons (pv 3) (pa_cons pe_int (pa_cons (pe_op op_sub (pv 1) pe_int) pa_nil)))) (pe_and (pe_own C_is_whole hr (by first | decide | omega) (pa_cons (pv 4) (pa_cons pe_int (pa_cons pe_int pa_nil)))) (pe_one (pe_own C_is_whole hr (by first | decide | omega) (pa_cons (pv 5) (pa_cons pe_int (pa_cons (pe_op op_sub (pv 2) pe_int) pa_nil)))))))))))), ?_⟩
    cases e with
    | none =>
      obtain rfl := hv.nonI
      walk_at "st"
      exact q
    | some e =>
      obtain ⟨a, rfl, hs⟩ := hv.int3
      walk_at "st"
      have q : Q (.bl ((decide (0 ≤ e.1) && decide (e.1 ≤ c - 1)) && ((decide (0 ≤ e.2.1) && decide (e.2.1 ≤ 3)) && (decide (0 ≤ e.2.2) && decide (e.2.2 ≤ n - 1))))) H := q
      refine ite2 (fun e1 => ?_) (fun e1 => ?_)
      · walk_at "st"
        rw [e1, Bool.true_and] at q
        refine ite2 (fun e2 => ?_) (fun e2 => ?_)
        · walk_at "st"
          rw [e2, Bool.true_and] at q
          exact q
        · rw [Bool.eq_false_iff.mpr e2, Bool.false_and] at q
          exact q
      · rw [Bool.eq_false_iff.mpr e1, Bool.false_and] at q
        exact q
theorem ok_is_table (T : Txt K mg) (D : DefAt K mg "is_table" s_is_table ["value"]) (C_is_entry : Cal P w K mg base CX0 "_is_entry" 2 ["value", "colours", "states"] (spEntry K)) : Cal P w K mg base CX0 "is_table" 3 ["value"] (spIsTable K) := by
  refine D.cal sc_is_table (fun vs H Q E h => ?_) (fun f cdv A outer s H vs Q E hr h => ?_)
  · obtain ⟨v, T, rfl, _⟩ := h
    rfl
  · obtain ⟨v, Tb, rfl, hv, hl, hr1, q⟩ := h
    refine ⟨_, (pss_cons (ps_if (PW.pt (pw_or (pt_not (pt_val (pe_callB (k_isN (K := K)) (by rfl) T.m_isinstance (by decide +kernel) (pa_cons (pv 0) (pa_cons (pe_ty "tuple" (by rfl) T.m_tuple (by decide +kernel)) pa_nil))))) (pw_or1 (pt_not (pt_chain op_le op_le pe_int (pe_callB (k_len_t (K := K)) (by rfl) T.m_len (by decide +kernel) (pa_cons (pv 0) pa_nil)) (pe_gint (by rfl) T.most_states)))))) (pss_one (ps_ret pe_bl)) pss_nil)
      (pss_cons (ps_for PassesOwn.never rfl (k_pi_tup (K := K) (pv 0)) (pg_name (i := 1) sc_is_table.nd rfl (Or.inr rfl))
      (pss_cons (ps_if (PW.pt (pw_or (pt_not (pt_val (pe_callB (k_isN (K := K)) (by rfl) T.m_isinstance (by decide +kernel) (pa_cons (pv 1) (pa_cons (pe_ty "tuple" (by rfl) T.m_tuple (by decide +kernel)) pa_nil))))) (pw_or1 (pt_cmpR op_ne (pe_callB (k_len_t (K := K)) (by rfl) T.m_len (by decide +kernel) (pa_cons (pv 1) pa_nil)) (pe_callB (k_len_t (K := K)) (by rfl) T.m_len (by decide +kernel) (pa_cons (pe_ix (k_ix_tup (K := K)) (pv 0) pe_int (fun _ _ => rfl)) pa_nil)) (nomark _))))) (pss_one (ps_ret pe_bl)) pss_nil)
      (pss_one (ps_if (pt_not (pt_val (pe_callB (k_all (K := K) rfl) (by rfl) T.m_all (by decide +kernel) (pa_cons (pe_lc (own := [("entry", 2)]) (g := gName 2) rfl sc_is_table.nd (k_pi_tup (K := K) (pv 1)) (blkOk_by (by rfl)) (fun _ _ _ _ _ => (pg_name (i := 2) sc_is_table.nd rfl (Or.inl rfl))) (fun _ _ _ _ _ => pts_nil) (fun _ _ _ _ _ => (pe_own C_is_entry hr (by first | decide | omega) (pa_cons (pv 2) (pa_cons (pe_callB (k_len_t (K := K)) (by rfl) T.m_len (by decide +kernel) (pa_cons (pv 1) pa_nil)) (pa_cons (pe_callB (k_len_t (K := K)) (by rfl) T.m_len (by decide +kernel) (pa_cons (pv 0) pa_nil)) pa_nil)))))) pa_nil)))) (pss_one (ps_ret pe_bl)) pss_nil))))
      (pss_one (ps_ret (pe_chain op_le op_le (pe_gint (by rfl) T.fewest_colours) (pe_callB (k_len_t (K := K)) (by rfl) T.m_len (by decide +kernel) (pa_cons (pe_ix (k_ix_tup (K := K)) (pv 0) pe_int (fun _ _ => rfl)) pa_nil)) (pe_gint (by rfl) T.most_colours)))))), ?_⟩
    obtain ⟨a, vs, rfl, hs, hvs⟩ := hv.tupI
    have hlen : vs.length = Tb.length := by rw [TpAll.length hvs, List.length_map]
    cases Tb with
    | nil =>
      obtain rfl := hvs.nilI
      walk_at "st"
      exact q H (Same.refl H)
    | cons r0 rs =>
      obtain ⟨v0, vr, rfl, h0, hvr⟩ := hvs.consI
      obtain ⟨a0, w0, rfl, hs0, hw0⟩ := h0.tupI
      have hl0 : w0.length = r0.length := by rw [TpAll.length hw0, List.length_map]
      have q : ∀ H', Same H H' → Q (.bl (decide ((r0 :: rs).length ≤ 10) && (((r0 :: rs).all fun r => decide (r.length = r0.length) && r.all (entB r.length (r0 :: rs).length)) && (decide (2 ≤ r0.length) && decide (r0.length ≤ 6))))) H' := q
      have hT : TpAll K H (V.ref a0 :: vr) ((r0 :: rs).map rowD) := hvs
      generalize hTb : (r0 :: rs) = Tb at *
      generalize hVs : (V.ref a0 :: vr) = vs at *
      have hat : atI vs (0 : Int) = some (.ref a0) := by rw [← hVs]; exact at0
      have hpos : 0 < vs.length := by rw [← hVs]; exact Nat.succ_pos _
      walk_at "st"
      refine ite2 (fun e1 => ?_) (fun e1 => ?_)
      · walk_at "st"
        refine ite2 (fun e2 => ?_) (fun e2 => ?_)
        · have e2 : ¬ ((vs.length : Int) ≤ 10) := nd_tr e2
          walk_at "st"
          rw [decide_eq_false (by omega), Bool.false_and] at q
          exact q H (Same.refl H)
        · have e2 : (vs.length : Int) ≤ 10 := nd_fl e2
          rw [decide_eq_true (by omega), Bool.true_and] at q
          walk_at "st"
          refine for_tup (K := K) (a := a) (xs := vs) (fun i σ H' => Ok (∃ y1 y2, σ = [some (.ref a), y1, y2] ∧ Same H H' ∧ ∀ r ∈ Tb.take i, (decide (r.length = r0.length) && r.all (entB r.length Tb.length)) = true))
            ⟨_, _, rfl, Same.refl H, fun r h => absurd h List.not_mem_nil⟩ (fun i σ H' _ ⟨y1, y2, _, sm, _⟩ => TK.seqT (Same.tk sm) hs) ?_ ?_
          · rintro i x σ H' hx ⟨y1, y2, rfl, sm, hall⟩
            have hi : i < Tb.length := by
              have z : i < vs.length := (List.getElem?_eq_some_iff.mp hx).1
              omega
            have hxr : Tp K H x (rowD Tb[i]) := by
              obtain ⟨z, e, hz⟩ := hT.get (i := i) (d := rowD Tb[i]) (by rw [List.getElem?_map, List.getElem?_eq_getElem hi]; rfl)
              rw [hx] at e
              cases e
              exact hz
            have hmem : Tb[i] ∈ Tb := List.getElem_mem hi
            have htk := take_more (List.getElem?_eq_getElem hi)
            generalize hrw : Tb[i] = rw at *
            obtain ⟨b, ws, rfl, hsb, hws⟩ := hxr.tupI
            have hlw : ws.length = rw.length := by rw [TpAll.length hws, List.length_map]
            have hs' := TK.seqT (Same.tk sm) hs
            have hs0' := TK.seqT (Same.tk sm) hs0
            have hsb' := TK.seqT (Same.tk sm) hsb
            have bad : (decide (rw.length = r0.length) && rw.all (entB rw.length Tb.length)) = false → Q (.bl false) H' := fun z => by
              have z2 : (Tb.all fun r => decide (r.length = r0.length) && r.all (entB r.length Tb.length)) = false := List.all_eq_false.mpr ⟨rw, hmem, by rw [z]; exact Bool.false_ne_true⟩
              have q' := q H' sm
              rw [z2, Bool.false_and] at q'
              exact q'
            have badS : (decide (rw.length = r0.length) && rw.all (entB rw.length Tb.length)) = false → ∀ H2, Same H' H2 → Q (.bl false) H2 := fun z H2 s2 => by
              have z2 : (Tb.all fun r => decide (r.length = r0.length) && r.all (entB r.length Tb.length)) = false := List.all_eq_false.mpr ⟨rw, hmem, by rw [z]; exact Bool.false_ne_true⟩
              have q' := q H2 (Same.trans sm s2)
              rw [z2, Bool.false_and] at q'
              exact q'
            walk_at "st"
            refine ite2 (fun e3 => ?_) (fun e3 => ?_)
            · have e3 := ne_tr e3
              walk_at "st"
              exact bad (by rw [decide_eq_false (by omega), Bool.false_and])
            · have e3 := ne_fl e3
              walk_at "st"
              intro L nL
              refine lc_tup (K := K) (a := b) (xs := ws) (fun j H2 => Ok (Same H' H2 ∧ H2 L = some (.lst (((rw.take j).map (entB rw.length Tb.length)).map V.bl)))) ⟨Same.new nL, upd_same⟩ (fun j H2 _ ⟨s2, _⟩ => TK.seqT (Same.tk s2) hsb') ?_ ?_
              · rintro j y H2 hy ⟨s2, hL⟩
                have hj : j < rw.length := by
                  have z : j < ws.length := (List.getElem?_eq_some_iff.mp hy).1
                  omega
                have hye : Tp K H y (entD rw[j]) := by
                  obtain ⟨z, e, hz⟩ := hws.get (i := j) (d := entD rw[j]) (by rw [List.getElem?_map, List.getElem?_eq_getElem hj]; rfl)
                  rw [hy] at e
                  cases e
                  exact hz
                have hye2 : Tp K H2 y (entD rw[j]) := Tp.mono (Same.tk (Same.trans sm s2)) _ _ hye
                have hs2 := TK.seqT (Same.tk s2) hs'
                have hsb2 := TK.seqT (Same.tk s2) hsb'
                have hsz : (((rw.take j).map (entB rw.length Tb.length)).map V.bl).length < sizeLine := by
                  rw [List.length_map, List.length_map, List.length_take]
                  have := hr1 rw hmem
                  exact small1000 (by omega)
                walk_at "st"
                refine ⟨Same.fresh s2 nL, ?_⟩
                rw [upd_same, take_more (List.getElem?_eq_getElem hj), List.map_append, List.map_append, hlw, hlen]
                rfl
              · rintro H2 ⟨s2, hL⟩
                rw [hlw, List.take_length] at hL
                walk_at "st"
                rw [List.all_map, show (id ∘ entB rw.length Tb.length) = entB rw.length Tb.length from rfl]
                refine ite2 (fun e4 => ?_) (fun e4 => ?_)
                · have e4 := nb_tr e4
                  walk_at "st"
                  exact badS (by rw [e4, Bool.and_false]) H2 s2
                · have e4 := nb_fl e4
                  refine ⟨_, _, rfl, Same.trans sm s2, fun r hr => ?_⟩
                  rw [htk] at hr
                  rcases List.mem_append.mp hr with h | h
                  · exact hall r h
                  · rw [List.mem_singleton.mp h, e4, decide_eq_true (by omega)]
                    rfl
          · rintro σ H' ⟨y1, y2, rfl, sm, hall⟩
            rw [hlen, List.take_length] at hall
            have hs' := TK.seqT (Same.tk sm) hs
            have hs0' := TK.seqT (Same.tk sm) hs0
            have q := q H' sm
            rw [List.all_eq_true.mpr hall, Bool.true_and] at q
            walk_at "st"
            refine ite2 (fun e3 => ?_) (fun e3 => ?_)
            · have e3 : (2 : Int) ≤ w0.length := of_decide_eq_true e3
              rw [decide_eq_true (by omega), Bool.true_and] at q
              walk_at "st"
              rw [show decide (r0.length ≤ 6) = decide ((w0.length : Int) ≤ 6) from decide_eq_decide.mpr (by omega)] at q
              exact q
            · have e3 : ¬ (2 : Int) ≤ w0.length := d_fl e3
              rw [decide_eq_false (by omega), Bool.false_and] at q
              exact q
      · exact absurd (decide_eq_true (show (1 : Int) ≤ vs.length by omega)) e1
end

/-! ### a table's text -/
def numI (i : Int) : List Nat := tl (Str.ofString (toString i))
def turnC (t : Int) : Nat := [97, 114, 98, 108].getD t.toNat 0
def wordL : Ent → List Nat
  | none => [45]
  | some e => numI e.1 ++ ([turnC e.2.1] ++ numI e.2.2)
def wordS (e : Ent) : Str := ⟨(wordL e).toArray⟩
def rowS (r : List Ent) : Str := Txt.join (Str.ofString " ") (r.map wordS)
def tabS (T : List (List Ent)) : Str := Txt.join (Str.ofString " / ") (T.map rowS)
theorem dig {i : Int} (h0 : 0 ≤ i) (h1 : i < 10) : numI i = [48 + i.toNat] := by
  obtain ⟨n, rfl⟩ := Int.eq_ofNat_of_zero_le h0
  unfold numI
  rw [tl_num, numL_lt (by omega)]
  rfl
theorem turn_at {t : Int} (h0 : 0 ≤ t) (h1 : t < 4) : atI (Str.ofString "arbl").cps.toList t = some (turnC t) := by
  obtain ⟨n, rfl⟩ := Int.eq_ofNat_of_zero_le h0
  have h : n = 0 ∨ n = 1 ∨ n = 2 ∨ n = 3 := by omega
  rcases h with rfl | rfl | rfl | rfl <;> rfl
theorem tl_word (e : Ent) : tl (wordS e) = wordL e := rfl
theorem app_le {x y : Str} (h : (tl x).length + (tl y).length ≤ 1000) : (x ++ y).length ≤ sizeLine := by
  rw [len_tl, tl_append, List.length_append]
  exact small_le h
theorem word_len {e : Ent} (h : EntOk 10 10 e) : (wordL e).length ≤ 3 := by
  cases e with
  | none => decide
  | some e =>
    obtain ⟨⟨a, b⟩, _, c, d⟩ := h
    show (numI e.1 ++ ([turnC e.2.1] ++ numI e.2.2)).length ≤ 3
    rw [dig a b, dig c d]
    exact Nat.le_of_ble_eq_true rfl
theorem log_small {i : Int} (h0 : 0 ≤ i) (h1 : i < 10) : i.natAbs.log2 < 1920 := by
  obtain ⟨n, rfl⟩ := Int.eq_ofNat_of_zero_le h0
  have h : n = 0 ∨ n = 1 ∨ n = 2 ∨ n = 3 ∨ n = 4 ∨ n = 5 ∨ n = 6 ∨ n = 7 ∨ n = 8 ∨ n = 9 := by omega
  rcases h with rfl | rfl | rfl | rfl | rfl | rfl | rfl | rfl | rfl | rfl <;> decide
theorem joinL_len (S : List Nat) : ∀ ps : List (List Nat), (joinL S ps).length ≤ (ps.map List.length).sum + ps.length * S.length
  | [] => Nat.zero_le _
  | [p] => by
    show p.length ≤ p.length + 0 + 1 * S.length
    omega
  | p :: q :: r => by
    have h := joinL_len S (q :: r)
    show (p ++ (S ++ joinL S (q :: r))).length ≤ p.length + ((q :: r).map List.length).sum + ((q :: r).length + 1) * S.length
    rw [List.length_append, List.length_append, Nat.add_mul]
    omega
theorem join_len (y : Str) (ps : List Str) : (tl (Txt.join y ps)).length ≤ (ps.map (·.length)).sum + ps.length * y.length := by
  have h := joinL_len (tl y) (ps.map tl)
  rw [join_eq, tl_join]
  rw [List.map_map, List.length_map] at h
  rw [len_tl y, show (fun x : Str => x.length) = List.length ∘ tl from funext fun x => len_tl x]
  exact h
theorem sum_le {α : Type} (f : α → Nat) (m : Nat) : ∀ l : List α, (∀ x ∈ l, f x ≤ m) → (l.map f).sum ≤ l.length * m
  | [], _ => Nat.zero_le _
  | x :: l, h => by
    have h1 := h x List.mem_cons_self
    have h2 := sum_le f m l fun y hy => h y (List.mem_cons_of_mem _ hy)
    rw [List.map_cons, List.sum_cons, List.length_cons, Nat.add_mul]
    omega
structure TabGood (T : List (List Ent)) : Prop where
  len : T.length ≤ 10
  rows : ∀ r ∈ T, r.length ≤ 6
  ents : ∀ r ∈ T, ∀ e ∈ r, EntOk 10 10 e
  ne : T ≠ []
  rne : ∀ r ∈ T, r ≠ []
theorem entB_ok {c n : Int} {e : Ent} (h : entB c n e = true) : EntOk c n e := by
  cases e with
  | none => trivial
  | some e =>
    simp only [entB, Bool.and_eq_true, decide_eq_true_eq] at h
    obtain ⟨⟨a, b⟩, ⟨c, d⟩, e, f⟩ := h
    exact ⟨⟨a, by omega⟩, ⟨c, by omega⟩, ⟨e, by omega⟩⟩
theorem EntOk.mono {c n c' n' : Int} {e : Ent} (h : EntOk c n e) (hc : c ≤ c') (hn : n ≤ n') : EntOk c' n' e := by
  cases e with
  | none => trivial
  | some e =>
    obtain ⟨⟨a, b⟩, ⟨c, d⟩, e, f⟩ := h
    exact ⟨⟨a, by omega⟩, ⟨c, d⟩, ⟨e, by omega⟩⟩
theorem tabB_all {r0 : List Ent} {rs : List (List Ent)} (h : tabB (r0 :: rs) = true) : (r0 :: rs).length ≤ 10 ∧ (∀ r ∈ r0 :: rs, r.length = r0.length ∧ ∀ e ∈ r, EntOk r.length (r0 :: rs).length e) ∧ 2 ≤ r0.length ∧ r0.length ≤ 6 := by
  have h : (decide ((r0 :: rs).length ≤ 10) && (((r0 :: rs).all fun r => decide (r.length = r0.length) && r.all (entB r.length (r0 :: rs).length)) && (decide (2 ≤ r0.length) && decide (r0.length ≤ 6)))) = true := h
  generalize hT : (r0 :: rs) = T at *
  simp only [Bool.and_eq_true, decide_eq_true_eq, List.all_eq_true] at h
  obtain ⟨a, b, c, d⟩ := h
  exact ⟨a, fun r hr => ⟨(b r hr).1, fun e he => entB_ok ((b r hr).2 e he)⟩, c, d⟩
theorem tabB_good {T : List (List Ent)} (h : tabB T = true) : TabGood T := by
  cases T with
  | nil => cases h
  | cons r0 rs =>
    obtain ⟨a, b, c, d⟩ := tabB_all h
    refine ⟨a, fun r hr => ?_, fun r hr e he => ?_, by simp, fun r hr z => ?_⟩
    · rw [(b r hr).1]; exact d
    · have := (b r hr).1
      exact ((b r hr).2 e he).mono (by omega) (by omega)
    · have := (b r hr).1
      rw [z] at this
      simp at this
      omega
theorem TabOk.good {c n : Nat} {T : List (List Ent)} (h : TabOk c n T) (h1 : 1 ≤ n) (h2 : n ≤ 2) (h3 : 2 ≤ c) (h4 : c ≤ 3) : tabB T = true := by
  obtain ⟨hl, hr⟩ := h
  cases T with
  | nil => simp at hl; omega
  | cons r0 rs =>
    have h0 := (hr r0 List.mem_cons_self).1
    show (decide ((r0 :: rs).length ≤ 10) && (((r0 :: rs).all fun r => decide (r.length = r0.length) && r.all (entB r.length (r0 :: rs).length)) && (decide (2 ≤ r0.length) && decide (r0.length ≤ 6)))) = true
    generalize hT : (r0 :: rs) = T at *
    simp only [Bool.and_eq_true, decide_eq_true_eq, List.all_eq_true]
    refine ⟨by omega, fun r hr' => ⟨by rw [(hr r hr').1, h0], fun e he => ?_⟩, by omega, by omega⟩
    have z := (hr r hr').2 e he
    rw [(hr r hr').1, hl]
    cases e with
    | none => rfl
    | some e =>
      obtain ⟨⟨a, b⟩, ⟨c, d⟩, e, f⟩ := z
      simp only [entB, Bool.and_eq_true, decide_eq_true_eq]
      exact ⟨⟨a, by omega⟩, ⟨c, by omega⟩, e, by omega⟩
def spCheckT (K : PySem.W.Frag) : Sp := fun vs H Q _ => ∃ (v : V) (T : List (List Ent)), vs = [v] ∧ Tp K H v (tabD T) ∧ tabB T = true ∧ ∀ H', Same H H' → Q .non H'
def spWord (K : PySem.W.Frag) : Sp := fun vs H Q _ => ∃ (v : V) (e : Ent), vs = [v] ∧ Tp K H v (entD e) ∧ EntOk 10 10 e ∧ Q (.str (wordS e)) H
def spWrite (K : PySem.W.Frag) : Sp := fun vs H Q _ => ∃ (v : V) (T : List (List Ent)), vs = [v] ∧ Tp K H v (tabD T) ∧ tabB T = true ∧ ∀ H', Same H H' → Q (.str (tabS T)) H'
theorem row_sizes {r : List Ent} (h1 : r.length ≤ 6) (h2 : ∀ e ∈ r, EntOk 10 10 e) : ((r.map wordS).map (·.length)).sum + (r.map wordS).length * (Str.ofString " ").length ≤ 24 := by
  have z := sum_le (fun x : Str => x.length) 3 (r.map wordS) fun x hx => by
    obtain ⟨e, he, rfl⟩ := List.mem_map.mp hx
    show (wordS e).length ≤ 3
    rw [len_tl]
    exact word_len (h2 e he)
  rw [List.length_map] at z ⊢
  rw [show (Str.ofString " ").length = 1 from rfl]
  omega
theorem row_len {r : List Ent} (h1 : r.length ≤ 6) (h2 : ∀ e ∈ r, EntOk 10 10 e) : (rowS r).length ≤ 24 := by
  rw [len_tl]
  exact Nat.le_trans (join_len _ _) (row_sizes h1 h2)
theorem tab_sizes {T : List (List Ent)} (g : TabGood T) : ((T.map rowS).map (·.length)).sum + (T.map rowS).length * (Str.ofString " / ").length ≤ 270 := by
  have z := sum_le (fun x : Str => x.length) 24 (T.map rowS) fun x hx => by
    obtain ⟨r, hr, rfl⟩ := List.mem_map.mp hx
    exact row_len (g.rows r hr) (g.ents r hr)
  have := g.len
  rw [List.length_map] at z ⊢
  rw [show (Str.ofString " / ").length = 3 from rfl]
  omega
section
variable {P : Program} {w : World} {K : PySem.W.Frag} {mg : Str → Option Value} {base : Heap}
theorem ok_check_table (T : Txt K mg) (D : DefAt K mg "check_table" s_check_table ["value"]) (C_is_table : Cal P w K mg base CX0 "is_table" 3 ["value"] (spIsTable K)) : Cal P w K mg base CX0 "check_table" 4 ["value"] (spCheckT K) := by
  refine D.cal sc_check_table (fun vs H Q E h => ?_) (fun f cdv A outer s H vs Q E hr h => ?_)
  · obtain ⟨v, Tb, rfl, _⟩ := h
    rfl
  · obtain ⟨v, Tb, rfl, hv, hg, q⟩ := h
    refine ⟨_, (pss_one (ps_if (pt_not (pt_val (pe_own C_is_table hr (by first | decide | omega) (pa_cons (pv 0) pa_nil)))) (pss_one ps_never) pss_nil)), ?_⟩
    have g := tabB_good hg
    have h1 : Tb.length ≤ 1000 := by have := g.len; omega
    have h2 : ∀ r ∈ Tb, r.length ≤ 1000 := fun r hr => by have := g.rows r hr; omega
    walk_at "st"
    intro H' s'
    rw [hg]
    walk_at "st"
    exact q H' s'
theorem ok_u_word_of (T : Txt K mg) (D : DefAt K mg "_word_of" s_u_word_of ["entry"]) : Cal P w K mg base CX0 "_word_of" 1 ["entry"] (spWord K) := by
  refine D.cal sc_u_word_of (fun vs H Q E h => ?_) (fun f cdv A outer s H vs Q E hr h => ?_)
  · obtain ⟨v, e, rfl, _⟩ := h
    rfl
  · obtain ⟨v, e, rfl, hv, he, q⟩ := h
    refine ⟨_, (pss_cons (ps_if (pt_cmpR op_isN (pv 0) pe_non (nomark _)) (pss_one (ps_ret pe_str)) pss_nil)
      (pss_cons (ps_asg (pv 0) (pg_tup (by rfl) (pgs_cons (pg_name (i := 1) sc_u_word_of.nd rfl (Or.inl rfl)) (pgs_cons (pg_name (i := 2) sc_u_word_of.nd rfl (Or.inl rfl)) (pgs_cons (pg_name (i := 3) sc_u_word_of.nd rfl (Or.inl rfl)) pgs_nil)))))
      (pss_one (ps_ret (pe_joined (PJ.cons (pe_fmt (pv 1)) (PJ.cons (pe_fmt (pe_ix ix_str (pe_gstr (by rfl) T.turns) (pv 2) (fun _ _ => rfl))) (PJ.cons (pe_fmt (pv 3)) PJ.nil)))))))), ?_⟩
    cases e with
    | none =>
      obtain rfl := hv.nonI
      walk_at "st"
      exact q
    | some e =>
      obtain ⟨a, rfl, hs⟩ := hv.int3
      obtain ⟨⟨a0, a1⟩, ⟨b0, b1⟩, c0, c1⟩ := he
      have d1 := dig a0 a1
      have d3 := dig c0 c1
      have l1 := log_small a0 a1
      have l3 := log_small c0 c1
      have ht := turn_at b0 b1
      walk_at "st"
      refine Or.inr ?_
      walk_at "st"
      refine ⟨app_le (by rw [show tl (Str.ofString (toString e.1)) = [48 + e.1.toNat] from d1]; exact Nat.le_of_ble_eq_true rfl), ?_⟩
      walk_at "st"
      refine Or.inl ?_
      walk_at "st"
      refine ⟨app_le (by rw [tl_append, show tl (Str.ofString (toString e.1)) = [48 + e.1.toNat] from d1]; exact Nat.le_of_ble_eq_true rfl), ?_⟩
      walk_at "st"
      refine Or.inr ?_
      walk_at "st"
      refine ⟨app_le (by rw [tl_append, tl_append, show tl (Str.ofString (toString e.1)) = [48 + e.1.toNat] from d1, show tl (Str.ofString (toString e.2.2)) = [48 + e.2.2.toNat] from d3]; exact Nat.le_of_ble_eq_true rfl), ?_⟩
      have z : Str.empty ++ Str.ofString (toString e.1) ++ ⟨#[turnC e.2.1]⟩ ++ Str.ofString (toString e.2.2) = wordS (some e) := ext_tl (by
        rw [tl_append, tl_append, tl_append, tl_word]
        show ([] ++ numI e.1) ++ [turnC e.2.1] ++ numI e.2.2 = numI e.1 ++ ([turnC e.2.1] ++ numI e.2.2)
        rw [List.nil_append, List.append_assoc])
      have q : Q (.str (Str.empty ++ Str.ofString (toString e.1) ++ ⟨#[turnC e.2.1]⟩ ++ Str.ofString (toString e.2.2))) H := by rw [z]; exact q
      exact q
theorem ok_write_table (T : Txt K mg) (D : DefAt K mg "write_table" s_write_table ["table"]) (C_check_table : Cal P w K mg base CX0 "check_table" 4 ["value"] (spCheckT K)) (C_word_of : Cal P w K mg base CX0 "_word_of" 1 ["entry"] (spWord K)) : Cal P w K mg base CX0 "write_table" 5 ["table"] (spWrite K) := by
  refine D.cal sc_write_table (fun vs H Q E h => ?_) (fun f cdv A outer s H vs Q E hr h => ?_)
  · obtain ⟨v, Tb, rfl, _⟩ := h
    rfl
  · obtain ⟨v, Tb, rfl, hv, hg, q⟩ := h
    refine ⟨_, (pss_cons (ps_expr (pe_own C_check_table hr (by first | decide | omega) (pa_cons (pv 0) pa_nil)))
      (pss_one (ps_ret (pe_m1 PySem.F.slot_str_join PySem.F.type_str_join (k_mt_join (K := K)) pe_str (pe_lc (own := [("state", 1)]) (g := gName 1) rfl sc_write_table.nd (k_pi_tup (K := K) (pv 0)) (blkOk_by (by rfl)) (fun _ _ _ _ _ => (pg_name (i := 1) sc_write_table.nd rfl (Or.inl rfl))) (fun _ _ _ _ _ => pts_nil) (fun _ _ _ _ _ => (pe_m1 PySem.F.slot_str_join PySem.F.type_str_join (k_mt_join (K := K)) pe_str (pe_lc (own := [("entry", 2)]) (g := gName 2) rfl sc_write_table.nd (k_pi_tup (K := K) (pv 1)) (blkOk_by (by rfl)) (fun _ _ _ _ _ => (pg_name (i := 2) sc_write_table.nd rfl (Or.inl rfl))) (fun _ _ _ _ _ => pts_nil) (fun _ _ _ _ _ => (pe_own C_word_of hr (by first | decide | omega) (pa_cons (pv 2) pa_nil))))))))))), ?_⟩
    have g := tabB_good hg
    obtain ⟨a, vs, rfl, hs, hvs⟩ := hv.tupI
    walk_at "st"
    intro H1 s1
    have hs1 := TK.seqT (Same.tk s1) hs
    have hlen : vs.length = Tb.length := by rw [TpAll.length hvs, List.length_map]
    walk_at "st"
    intro L nL
    refine lc_tup (K := K) (a := a) (xs := vs) (fun i H2 => Ok (Same H1 H2 ∧ H2 L = some (.lst (((Tb.take i).map rowS).map V.str)))) ⟨Same.new nL, upd_same⟩ (fun i H2 _ ⟨s2, _⟩ => TK.seqT (Same.tk s2) hs1) ?_ ?_
    · rintro i x H2 hx ⟨s2, hL⟩
      have hi : i < Tb.length := by
        have z : i < vs.length := (List.getElem?_eq_some_iff.mp hx).1
        omega
      have hxr : Tp K H x (rowD Tb[i]) := by
        obtain ⟨z, e, hz⟩ := hvs.get (i := i) (d := rowD Tb[i]) (by rw [List.getElem?_map, List.getElem?_eq_getElem hi]; rfl)
        rw [hx] at e
        cases e
        exact hz
      have hmem : Tb[i] ∈ Tb := List.getElem_mem hi
      have htk := take_more (List.getElem?_eq_getElem hi)
      generalize hrw : Tb[i] = rw at *
      obtain ⟨b, ws, rfl, hsb, hws⟩ := hxr.tupI
      have hlw : ws.length = rw.length := by rw [TpAll.length hws, List.length_map]
      have hsb2 := TK.seqT (Same.tk (Same.trans s1 s2)) hsb
      have g1 := g.rows rw hmem
      have g2 := g.ents rw hmem
      walk_at "st"
      intro M nM
      refine lc_tup (K := K) (a := b) (xs := ws) (fun j H3 => Ok (Same H2 H3 ∧ H3 M = some (.lst (((rw.take j).map wordS).map V.str)))) ⟨Same.new nM, upd_same⟩ (fun j H3 _ ⟨s3, _⟩ => TK.seqT (Same.tk s3) hsb2) ?_ ?_
      · rintro j y H3 hy ⟨s3, hM⟩
        have hj : j < rw.length := by
          have z : j < ws.length := (List.getElem?_eq_some_iff.mp hy).1
          omega
        have hye : Tp K H y (entD rw[j]) := by
          obtain ⟨z, e, hz⟩ := hws.get (i := j) (d := entD rw[j]) (by rw [List.getElem?_map, List.getElem?_eq_getElem hj]; rfl)
          rw [hy] at e
          cases e
          exact hz
        have hye3 : Tp K H3 y (entD rw[j]) := Tp.mono (Same.tk (Same.trans (Same.trans s1 s2) s3)) _ _ hye
        have hok := g2 rw[j] (List.getElem_mem hj)
        have hsz : (((rw.take j).map wordS).map V.str).length < sizeLine := by
          rw [List.length_map, List.length_map, List.length_take]
          exact small1000 (by omega)
        walk_at "st"
        refine ⟨Same.fresh s3 nM, ?_⟩
        rw [upd_same, take_more (List.getElem?_eq_getElem hj), List.map_append, List.map_append]
        rfl
      · rintro H3 ⟨s3, hM⟩
        rw [hlw, List.take_length] at hM
        have hL3 := s3 _ _ hL
        have hsz := row_sizes g1 g2
        have hsz2 : (((Tb.take i).map rowS).map V.str).length < sizeLine := by
          have := g.len
          rw [List.length_map, List.length_map, List.length_take]
          exact small1000 (by omega)
        walk_at "st"
        refine ⟨Same.fresh (Same.trans s2 s3) nL, ?_⟩
        rw [upd_same, htk, List.map_append, List.map_append]
        rfl
    · rintro H2 ⟨s2, hL⟩
      rw [hlen, List.take_length] at hL
      have hsz := tab_sizes g
      walk_at "st"
      exact q H2 (Same.trans s1 s2)
end

/-! ### equal, and of the same structure -/
def okD : Nat → PyData → Prop
  | 0, _ => False
  | n + 1, .list ds => ds.length ≤ 5000 ∧ ∀ d ∈ ds, okD n d
  | n + 1, .tuple ds => ds.length ≤ 5000 ∧ ∀ d ∈ ds, okD n d
  | _ + 1, .dict _ => False
  | _ + 1, _ => True
def spAlike (K : PySem.W.Frag) (n : Nat) : Sp := fun vs H Q _ => ∃ (u v : V) (d : PyData), vs = [u, v] ∧ Dp K H u d ∧ Dp K H v d ∧ okD n d ∧ ∀ H', Same H H' → Q (.bl true) H'
section
variable {K : PySem.W.Frag} {H : Hp}
theorem DpAll.length : ∀ {vs : List V} {ds : List PyData}, DpAll K H vs ds → vs.length = ds.length
  | [], [], _ => rfl
  | _ :: _, [], h => by cases h
  | [], _ :: _, h => by cases h
  | v :: vs, d :: ds, h => by
    cases h with
    | cons h1 h2 =>
      show vs.length + 1 = ds.length + 1
      rw [DpAll.length h2]
theorem DpAll.get : ∀ {vs : List V} {ds : List PyData} {i : Nat} {d : PyData}, DpAll K H vs ds → ds[i]? = some d → ∃ v, vs[i]? = some v ∧ Dp K H v d
  | [], [], _, _, _, e => by simp at e
  | _ :: _, [], _, _, h, _ => by cases h
  | [], _ :: _, _, _, h, _ => by cases h
  | v :: vs, d :: ds, 0, _, h, e => by
    cases h with
    | cons h1 h2 =>
      have e : d = _ := Option.some.inj e
      subst e
      exact ⟨v, rfl, h1⟩
  | v :: vs, d :: ds, i + 1, _, h, e => by
    cases h with
    | cons h1 h2 => exact DpAll.get (i := i) h2 e
theorem SqA.same {H' : Hp} {a : Addr} {xs : List V} (s : Same H H') (h : SqL K H a xs ∨ SqT K H a xs) : SqL K H' a xs ∨ SqT K H' a xs := by
  rcases h with h | h
  · exact .inl (s.seq h)
  · exact .inr (TK.seqT (Same.tk s) h)
end
section
variable {P : Program} {w : World} {K : PySem.W.Frag} {mg : Str → Option Value} {base : Heap}
theorem ok_law_alike (T : Txt K mg) (D : DefAt K mg "_law_alike" s_law_alike ["found", "due"]) : ∀ n : Nat, Cal P w K mg base CX0 "_law_alike" (n + 1) ["found", "due"] (spAlike K n)
  | 0 => by
    refine D.cal sc_law_alike (fun vs H Q E h => ?_) (fun f cdv A outer s H vs Q E hr h => ?_)
    · obtain ⟨u, v, d, _, _, _, z, _⟩ := h
      exact z.elim
    · obtain ⟨u, v, d, _, _, _, z, _⟩ := h
      exact z.elim
  | n + 1 => by
    have C_law_alike := ok_law_alike T D n
    refine D.cal sc_law_alike (fun vs H Q E h => ?_) (fun f cdv A outer s H vs Q E hr h => ?_)
    · obtain ⟨u, v, d, rfl, _⟩ := h
      rfl
    · obtain ⟨u, v, d, rfl, hu, hv, hd, q⟩ := h
      refine ⟨_, (pss_cons (ps_if (pt_val (pe_callB (k_isT2 (K := K)) (by rfl) T.m_isinstance (by decide +kernel) (pa_cons (pv 1) (pa_cons (pe_tup (pa_cons (pe_ty "tuple" (by rfl) T.m_tuple (by decide +kernel)) (pa_cons (pe_ty "list" (by rfl) T.m_list (by decide +kernel)) pa_nil))) pa_nil)))) (pss_cons (ps_if (PW.pt (pw_or (pt_not (pt_val (pe_callB (k_isT2 (K := K)) (by rfl) T.m_isinstance (by decide +kernel) (pa_cons (pv 0) (pa_cons (pe_tup (pa_cons (pe_ty "tuple" (by rfl) T.m_tuple (by decide +kernel)) (pa_cons (pe_ty "list" (by rfl) T.m_list (by decide +kernel)) pa_nil))) pa_nil))))) (pw_or1 (pt_cmpR op_ne (pe_callB (k_isN (K := K)) (by rfl) T.m_isinstance (by decide +kernel) (pa_cons (pv 0) (pa_cons (pe_ty "list" (by rfl) T.m_list (by decide +kernel)) pa_nil))) (pe_callB (k_isN (K := K)) (by rfl) T.m_isinstance (by decide +kernel) (pa_cons (pv 1) (pa_cons (pe_ty "list" (by rfl) T.m_list (by decide +kernel)) pa_nil))) (nomark _))))) (pss_one (ps_ret pe_bl)) pss_nil)
        (pss_cons (ps_if (pt_cmpR op_ne (pe_callB (k_len_seq (K := K)) (by rfl) T.m_len (by decide +kernel) (pa_cons (pv 0) pa_nil)) (pe_callB (k_len_seq (K := K)) (by rfl) T.m_len (by decide +kernel) (pa_cons (pv 1) pa_nil)) (nomark _)) (pss_one (ps_ret pe_bl)) pss_nil)
        (pss_one (ps_ret (pe_cmpR (k_eqD (K := K) hr.units) (pe_lc (own := [("k", 2)]) (g := gName 2) rfl sc_law_alike.nd (pi_range1 (by rfl) T.m_range (pa_cons (pe_callB (k_len_seq (K := K)) (by rfl) T.m_len (by decide +kernel) (pa_cons (pv 1) pa_nil)) pa_nil)) (blkOk_by (by rfl)) (fun _ _ _ _ _ => (pg_name (i := 2) sc_law_alike.nd rfl (Or.inl rfl))) (fun _ _ _ _ _ => pts_one (pt_not (pt_val (pe_own C_law_alike hr (by first | decide | omega) (pa_cons (pe_ix (k_ix_seq (K := K)) (pv 0) (pv 2) (fun _ _ => rfl)) (pa_cons (pe_ix (k_ix_seq (K := K)) (pv 1) (pv 2) (fun _ _ => rfl)) pa_nil)))))) (fun _ _ _ _ _ => (pv 2))) (pe_lst pa_nil) (nomark _)))))) pss_nil)
        (pss_cons (ps_if (PW.pt (pw_or (pt_cmpR op_isN (pv 1) pe_non (nomark _)) (pw_or1 (pt_val (pe_callB (k_isN (K := K)) (by rfl) T.m_isinstance (by decide +kernel) (pa_cons (pv 1) (pa_cons (pe_ty "str" (by rfl) T.m_str (by decide +kernel)) pa_nil))))))) (pss_one (ps_ret (pe_and (pe_cmpR op_eq (pv 0) (pv 1) (nomark _)) (pe_one (pe_cmpR op_eq (pe_callB (k_isN (K := K)) (by rfl) T.m_isinstance (by decide +kernel) (pa_cons (pv 0) (pa_cons (pe_ty "str" (by rfl) T.m_str (by decide +kernel)) pa_nil))) (pe_callB (k_isN (K := K)) (by rfl) T.m_isinstance (by decide +kernel) (pa_cons (pv 1) (pa_cons (pe_ty "str" (by rfl) T.m_str (by decide +kernel)) pa_nil))) (nomark _)))))) pss_nil)
        (pss_one (ps_ret (pe_and (pe_callB (k_isN (K := K)) (by rfl) T.m_isinstance (by decide +kernel) (pa_cons (pv 0) (pa_cons (pe_ty "int" (by rfl) T.m_int (by decide +kernel)) pa_nil))) (pe_and (pe_cmpR op_eq (pe_callB (k_isN (K := K)) (by rfl) T.m_isinstance (by decide +kernel) (pa_cons (pv 0) (pa_cons (pe_ty "bool" (by rfl) T.m_bool (by decide +kernel)) pa_nil))) (pe_callB (k_isN (K := K)) (by rfl) T.m_isinstance (by decide +kernel) (pa_cons (pv 1) (pa_cons (pe_ty "bool" (by rfl) T.m_bool (by decide +kernel)) pa_nil))) (nomark _)) (pe_one (pe_cmpR op_eq (pv 0) (pv 1) (nomark _))))))))), ?_⟩
      cases d with
      | dict _ => exact hd.elim
      | none =>
        cases hu
        cases hv
        walk_at "st"
        intro p np
        walk_at "st"
        exact q _ (Same.new np)
      | bool b =>
        cases hu
        cases hv
        walk_at "st"
        intro p np
        cases b
        · walk_at "st"
          exact q _ (Same.new np)
        · walk_at "st"
          exact q _ (Same.new np)
      | int i =>
        cases hu
        cases hv
        walk_at "st"
        intro p np
        walk_at "st"
        have q' := q _ (Same.new (o := .tup [.ty "tuple", .ty "list"]) np)
        rw [show true = decide (V.int i = V.int i) from (decide_eq_true rfl).symm] at q'
        exact q'
      | str x =>
        cases hu
        cases hv
        walk_at "st"
        intro p np
        walk_at "st"
        refine ite2 (fun _ => ?_) (fun e => absurd (decide_eq_true rfl) e)
        walk_at "st"
        exact q _ (Same.new np)
      | list ds =>
        cases hu with
        | @lst a us _ hsu hau =>
          cases hv with
          | @lst b ws _ hsv hav =>
            have hlu := DpAll.length hau
            have hlv := DpAll.length hav
            walk_at "st"
            intro p np
            have s1 : Same H (upd H p (.tup [.ty "tuple", .ty "list"])) := Same.new np
            have hsu1 := SqA.same s1 (Or.inl hsu)
            have hsv1 := SqA.same s1 (Or.inl hsv)
            have tu1 := tyx_lst (s1.seq hsu)
            have tv1 := tyx_lst (s1.seq hsv)
            walk_at "st"
            intro p2 np2
            have s2 : Same H (upd (upd H p (.tup [.ty "tuple", .ty "list"])) p2 (.tup [.ty "tuple", .ty "list"])) := Same.trans s1 (Same.new np2)
            have hsu2 := SqA.same s2 (Or.inl hsu)
            have hsv2 := SqA.same s2 (Or.inl hsv)
            have tu2 := tyx_lst (s2.seq hsu)
            have tv2 := tyx_lst (s2.seq hsv)
            obtain ⟨H2, hH2⟩ : ∃ H2, H2 = (upd (upd H p (.tup [.ty "tuple", .ty "list"])) p2 (.tup [.ty "tuple", .ty "list"])) := ⟨_, rfl⟩
            walk_at "st"
            refine ite2 (fun e => absurd (by rw [hlu, hlv]) (ne_tr e)) (fun _ => ?_)
            have hln := hd.1
            walk_at "st"
            intro L nL
            refine lc_range (lo := 0) (n := (ws.length : Int).toNat) (fun i H' => Ok (Same H H' ∧ H' L = some (.lst []))) ⟨Same.trans s2 (Same.new nL), upd_same⟩ ?_ ?_
            · rintro i H' hi ⟨s3, hL⟩
              have hi' : i < ds.length := by omega
              obtain ⟨x, ex, hx⟩ := DpAll.get hau (List.getElem?_eq_getElem hi')
              obtain ⟨y, ey, hy⟩ := DpAll.get hav (List.getElem?_eq_getElem hi')
              have hsu3 := SqA.same s3 (Or.inl hsu)
              have hsv3 := SqA.same s3 (Or.inl hsv)
              have ax := atI_nat ex
              have ay := atI_nat ey
              rw [← Int.zero_add ((i : Nat) : Int)] at ax ay
              have hx3 := Dp.mono s3 _ _ hx
              have hy3 := Dp.mono s3 _ _ hy
              have hdi := hd.2 _ (List.getElem_mem hi')
              walk_at "st"
              intro H4 s4
              walk_at "st"
              exact ⟨Same.trans s3 s4, s4 _ _ hL⟩
            · rintro H' ⟨s3, hL⟩
              walk_at "st"
              intro M nM
              have z : PyData.eqv (.list []) (.list []) = true := rfl
              have q' := q _ (Same.trans s3 (Same.new (o := .lst []) nM))
              have hL2 : (upd H' M (.lst [])) L = some (.lst []) := Same.new nM _ _ hL
              exact ⟨.list [], .list [], .lst (SqL.of hL2) .nil, .lst (SqL.of upd_same) .nil, rfl, rfl, by rw [z]; exact q'⟩
      | tuple ds =>
        cases hu with
        | @tup a us _ hsu hau =>
          cases hv with
          | @tup b ws _ hsv hav =>
            have hlu := DpAll.length hau
            have hlv := DpAll.length hav
            walk_at "st"
            intro p np
            have s1 : Same H (upd H p (.tup [.ty "tuple", .ty "list"])) := Same.new np
            have hsu1 := SqA.same s1 (Or.inr hsu)
            have hsv1 := SqA.same s1 (Or.inr hsv)
            have tu1 := tyx_tup (TK.seqT (Same.tk s1) hsu)
            have tv1 := tyx_tup (TK.seqT (Same.tk s1) hsv)
            walk_at "st"
            intro p2 np2
            have s2 : Same H (upd (upd H p (.tup [.ty "tuple", .ty "list"])) p2 (.tup [.ty "tuple", .ty "list"])) := Same.trans s1 (Same.new np2)
            have hsu2 := SqA.same s2 (Or.inr hsu)
            have hsv2 := SqA.same s2 (Or.inr hsv)
            have tu2 := tyx_tup (TK.seqT (Same.tk s2) hsu)
            have tv2 := tyx_tup (TK.seqT (Same.tk s2) hsv)
            obtain ⟨H2, hH2⟩ : ∃ H2, H2 = (upd (upd H p (.tup [.ty "tuple", .ty "list"])) p2 (.tup [.ty "tuple", .ty "list"])) := ⟨_, rfl⟩
            walk_at "st"
            refine ite2 (fun e => absurd (by rw [hlu, hlv]) (ne_tr e)) (fun _ => ?_)
            have hln := hd.1
            walk_at "st"
            intro L nL
            refine lc_range (lo := 0) (n := (ws.length : Int).toNat) (fun i H' => Ok (Same H H' ∧ H' L = some (.lst []))) ⟨Same.trans s2 (Same.new nL), upd_same⟩ ?_ ?_
            · rintro i H' hi ⟨s3, hL⟩
              have hi' : i < ds.length := by omega
              obtain ⟨x, ex, hx⟩ := DpAll.get hau (List.getElem?_eq_getElem hi')
              obtain ⟨y, ey, hy⟩ := DpAll.get hav (List.getElem?_eq_getElem hi')
              have hsu3 := SqA.same s3 (Or.inr hsu)
              have hsv3 := SqA.same s3 (Or.inr hsv)
              have ax := atI_nat ex
              have ay := atI_nat ey
              rw [← Int.zero_add ((i : Nat) : Int)] at ax ay
              have hx3 := Dp.mono s3 _ _ hx
              have hy3 := Dp.mono s3 _ _ hy
              have hdi := hd.2 _ (List.getElem_mem hi')
              walk_at "st"
              intro H4 s4
              walk_at "st"
              exact ⟨Same.trans s3 s4, s4 _ _ hL⟩
            · rintro H' ⟨s3, hL⟩
              walk_at "st"
              intro M nM
              have z : PyData.eqv (.list []) (.list []) = true := rfl
              have q' := q _ (Same.trans s3 (Same.new (o := .lst []) nM))
              have hL2 : (upd H' M (.lst [])) L = some (.lst []) := Same.new nM _ _ hL
              exact ⟨.list [], .list [], .lst (SqL.of hL2) .nil, .lst (SqL.of upd_same) .nil, rfl, rfl, by rw [z]; exact q'⟩
end

/-! ### a text read -/
def figs : List Nat := tl (Str.ofString "0123456789")
def turnsL : List Nat := tl (Str.ofString "arbl")
def wordB : List Nat → Bool
  | [a] => decide (a = 45)
  | [a, b, c] => decide (a ∈ figs) && (decide (b ∈ turnsL) && decide (c ∈ figs))
  | _ => false
def idxC (b : Nat) : Nat := if b = 97 then 0 else if b = 114 then 1 else if b = 98 then 2 else 3
def entOf : List Nat → Ent
  | [a, b, c] => some ((a : Int) - 48, (idxC b : Int), (c : Int) - 48)
  | _ => none
def putL (rs : List (List Ent)) (e : Ent) : List (List Ent) := rs.dropLast ++ [rs.getLastD [] ++ [e]]
def rdW : List Str → Nat → List (List Ent) → Nat ⊕ List (List Ent)
  | [], _, rs => .inr rs
  | z :: ws, p, rs => if z = Str.ofString "/" then rdW ws (p + z.length + 1) (rs ++ [[]]) else if wordB (tl z) = true then rdW ws (p + z.length + 1) (putL rs (entOf (tl z))) else .inl p
def readT (z : Str) : Nat ⊕ List (List Ent) := match rdW (Txt.split z (Str.ofString " ")) 0 [[]] with
  | .inl p => .inl p
  | .inr T => if tabB T = true then .inr T else .inl 0
theorem spl_len (S : List Nat) : ∀ (l : List Nat) (k : Nat) (acc : List Nat), ∀ y ∈ spl S k acc l, y.length ≤ acc.length + l.length
  | [], k, acc, y, h => by
    rw [spl_nil] at h
    rw [List.mem_singleton.mp h]
    exact Nat.le_add_right _ _
  | c :: r, 0, acc, y, h => by
    by_cases e : pre S (c :: r) = true
    · rw [spl_hit e] at h
      rcases List.mem_cons.mp h with h | h
      · rw [h]; exact Nat.le_add_right _ _
      · have z := spl_len S r _ [] y h
        rw [List.length_cons]
        rw [List.length_nil] at z
        omega
    · rw [spl_miss (Bool.eq_false_iff.mpr e)] at h
      have z := spl_len S r 0 (acc ++ [c]) y h
      rw [List.length_append, List.length_singleton] at z
      rw [List.length_cons]
      omega
  | c :: r, k + 1, acc, y, h => by
    have z := spl_len S r k acc y h
    rw [List.length_cons]
    omega
theorem spl_count (S : List Nat) : ∀ (l : List Nat) (k : Nat) (acc : List Nat), (spl S k acc l).length ≤ l.length + 1
  | [], k, acc => by rw [spl_nil]; exact Nat.le_refl _
  | c :: r, 0, acc => by
    by_cases e : pre S (c :: r) = true
    · rw [spl_hit e]
      have z := spl_count S r (S.length - 1) []
      rw [List.length_cons, List.length_cons]
      omega
    · rw [spl_miss (Bool.eq_false_iff.mpr e)]
      have z := spl_count S r 0 (acc ++ [c])
      rw [List.length_cons]
      omega
  | c :: r, k + 1, acc => by
    have z := spl_count S r k acc
    show (spl S k acc r).length ≤ (c :: r).length + 1
    rw [List.length_cons]
    omega
theorem split_sp (z : Str) : (Txt.split z (Str.ofString " ")).map tl = spl [32] 0 [] (tl z) := split_spl z (Str.ofString " ") (by decide) (kind_ok (by decide +kernel))
theorem split_len {z y : Str} (h : y ∈ Txt.split z (Str.ofString " ")) : y.length ≤ z.length := by
  have h1 : tl y ∈ spl [32] 0 [] (tl z) := by rw [← split_sp]; exact List.mem_map_of_mem h
  have h2 := spl_len [32] (tl z) 0 [] (tl y) h1
  rw [len_tl, len_tl z]
  rw [List.length_nil] at h2
  omega
theorem split_count (z : Str) : (Txt.split z (Str.ofString " ")).length ≤ z.length + 1 := by
  have h := spl_count [32] (tl z) 0 []
  rw [← split_sp, List.length_map] at h
  rw [len_tl]
  exact h
theorem fig_cases {c : Nat} (h : c ∈ figs) : c = 48 ∨ c = 49 ∨ c = 50 ∨ c = 51 ∨ c = 52 ∨ c = 53 ∨ c = 54 ∨ c = 55 ∨ c = 56 ∨ c = 57 := by
  have h : c ∈ [48, 49, 50, 51, 52, 53, 54, 55, 56, 57] := h
  simpa using h
theorem turn_cases {c : Nat} (h : c ∈ turnsL) : c = 97 ∨ c = 114 ∨ c = 98 ∨ c = 108 := by
  have h : c ∈ [97, 114, 98, 108] := h
  simpa using h
theorem int_fig {c : Nat} (h : c ∈ figs) : PySem.intText? (⟨#[c]⟩ : Str) = some ((c : Int) - 48) := by
  rcases fig_cases h with rfl | rfl | rfl | rfl | rfl | rfl | rfl | rfl | rfl | rfl <;> decide +kernel
theorem idx_turn {c : Nat} (h : c ∈ turnsL) : Txt.index0 (Str.ofString "arbl") (⟨#[c]⟩ : Str) = some (idxC c) := by
  rcases turn_cases h with rfl | rfl | rfl | rfl <;> decide +kernel
def spCheckText : Sp := fun vs H Q _ => ∃ z : Str, vs = [.str z] ∧ Q .non H
def spIsWord : Sp := fun vs H Q _ => ∃ z : Str, vs = [.str z] ∧ z.length ≤ 1000 ∧ Q (.bl (wordB (tl z))) H
def spEntryOf (K : PySem.W.Frag) : Sp := fun vs H Q _ => ∃ z : Str, vs = [.str z] ∧ z.length ≤ 1000 ∧ wordB (tl z) = true ∧ ∀ v H', Tp K H' v (entD (entOf (tl z))) → Same H H' → Q v H'
def spRead (K : PySem.W.Frag) (C : Addr) : Sp := fun vs H Q E => ∃ z : Str, vs = [.str z] ∧ z.length ≤ 900 ∧ (∀ T, readT z = .inr T → ∀ v H', Tp K H' v (tabD T) → Same H H' → Q v H') ∧
  (∀ p, readT z = .inl p → ∀ d H', H d = none → Same H H' → H' d = some (.xd [("place", .int (p : Nat))]) → E (.ref C) (some d) H')
theorem tl3 {z : Str} (h : z.length = 3) : ∃ a b c, tl z = [a, b, c] := by
  rw [len_tl] at h
  generalize tl z = l at *
  match l, h with
  | [a, b, c], _ => exact ⟨a, b, c, rfl⟩
theorem tl_inj {x y : Str} (h : tl x = tl y) : x = y := ext_tl h
theorem wordB_not3 {z : Str} (h : z.length ≠ 3) (h1 : z ≠ Str.ofString "-") : wordB (tl z) = false := by
  have h2 : tl z ≠ [45] := fun e => h1 (tl_inj e)
  rw [len_tl] at h
  generalize tl z = l at *
  match l, h, h2 with
  | [], _, _ => rfl
  | [a], _, h2 => exact decide_eq_false fun e => h2 (by rw [e])
  | [_, _], _, _ => rfl
  | [_, _, _], h, _ => exact absurd rfl h
  | _ :: _ :: _ :: _ :: _, _, _ => rfl
section
variable {P : Program} {w : World} {K : PySem.W.Frag} {mg : Str → Option Value} {base : Heap}
theorem ok_InvalidText_init {C : Addr} (M : MetAt K C "__init__" "InvalidText.__init__" s_InvalidText_init ["self", "place"]) (T : OexC K C) (no : PySem.W.findIn K (.ref C) "place" = some none) : ExcInit1 P w K mg base C "place" := by
  obtain ⟨f, fd, iC, tI, F, b⟩ := M.ex
  refine ⟨no, f, fd, _, iC, tI, F.ok sc_InvalidText_init (fun vs H Q E h => ?_) (fun cdv A outer s H vs Q E hr h => ?_), b⟩
  · obtain ⟨a, y, rfl, _⟩ := h
    rfl
  · obtain ⟨a, y, rfl, ha, q⟩ := h
    refine ⟨_, (pss_one (ps_ost (pv 0) (pv 1))), ?_⟩
    walk_at "st"
    exact Or.inl ⟨ha, fun dx nd ne => q dx nd ne⟩
theorem ok_check_text (T : Txt K mg) (D : DefAt K mg "check_text" s_check_text ["value"]) : Cal P w K mg base CX0 "check_text" 1 ["value"] spCheckText := by
  refine D.cal sc_check_text (fun vs H Q E h => ?_) (fun f cdv A outer s H vs Q E hr h => ?_)
  · obtain ⟨z, rfl, _⟩ := h
    rfl
  · obtain ⟨z, rfl, q⟩ := h
    refine ⟨_, (pss_one (ps_if (pt_not (pt_val (pe_callB (k_isN (K := K)) (by rfl) T.m_isinstance (by decide +kernel) (pa_cons (pv 0) (pa_cons (pe_ty "str" (by rfl) T.m_str (by decide +kernel)) pa_nil))))) (pss_one ps_never) pss_nil)), ?_⟩
    walk_at "st"
    exact q
theorem ok_u_is_word (T : Txt K mg) (D : DefAt K mg "_is_word" s_u_is_word ["word"]) : Cal P w K mg base CX0 "_is_word" 1 ["word"] spIsWord := by
  refine D.cal sc_u_is_word (fun vs H Q E h => ?_) (fun f cdv A outer s H vs Q E hr h => ?_)
  · obtain ⟨z, rfl, _⟩ := h
    rfl
  · obtain ⟨z, rfl, hz, q⟩ := h
    refine ⟨_, (pss_cons (ps_if (pt_cmpR op_eq (pv 0) pe_str (nomark _)) (pss_one (ps_ret pe_bl)) pss_nil)
      (pss_one (ps_ret (pe_and (pe_cmpR op_eq (pe_callB call_len_str (by rfl) T.m_len (by decide +kernel) (pa_cons (pv 0) pa_nil)) pe_int (nomark _)) (pe_and (pe_cmpR op_in_sign (pe_ix ix_str (pv 0) pe_int (fun _ _ => rfl)) (pe_gstr (by rfl) T.figures) (by rfl)) (pe_and (pe_cmpR op_in_sign (pe_ix ix_str (pv 0) pe_int (fun _ _ => rfl)) (pe_gstr (by rfl) T.turns) (by rfl)) (pe_one (pe_cmpR op_in_sign (pe_ix ix_str (pv 0) pe_int (fun _ _ => rfl)) (pe_gstr (by rfl) T.figures) (by rfl))))))))), ?_⟩
    have hz2 : z.length ≤ sizeLine := small_le hz
    walk_at "st"
    refine ite2 (fun e => ?_) (fun e => ?_)
    · have e : z = Str.ofString "-" := V.str.inj (of_decide_eq_true e)
      subst e
      walk_at "st"
      exact q
    · have e : z ≠ Str.ofString "-" := fun h => e (decide_eq_true (by rw [h]))
      walk_at "st"
      refine ite2 (fun e3 => ?_) (fun e3 => ?_)
      · have e3 := eq_tr e3
        obtain ⟨a, b, c, habc⟩ := tl3 (show z.length = 3 by omega)
        have a0 : atI z.cps.toList (0 : Int) = some a := by rw [show z.cps.toList = [a, b, c] from habc]; exact at0
        have a1 : atI z.cps.toList (1 : Int) = some b := by rw [show z.cps.toList = [a, b, c] from habc]; exact at1
        have a2 : atI z.cps.toList (2 : Int) = some c := by rw [show z.cps.toList = [a, b, c] from habc]; exact at2
        rw [habc] at q
        have q : Q (.bl (decide (a ∈ figs) && (decide (b ∈ turnsL) && decide (c ∈ figs)))) H := q
        walk_at "st"
        refine ite2 (fun e4 => ?_) (fun e4 => ?_)
        · rw [show decide (a ∈ figs) = true from e4, Bool.true_and] at q
          walk_at "st"
          refine ite2 (fun e5 => ?_) (fun e5 => ?_)
          · rw [show decide (b ∈ turnsL) = true from e5, Bool.true_and] at q
            walk_at "st"
            exact q
          · rw [show decide (b ∈ turnsL) = false from Bool.eq_false_iff.mpr e5, Bool.false_and] at q
            exact q
        · rw [show decide (a ∈ figs) = false from Bool.eq_false_iff.mpr e4, Bool.false_and] at q
          exact q
      · have e3 := eq_fl e3
        rw [wordB_not3 (by omega) e] at q
        exact q
theorem ok_u_entry_of (T : Txt K mg) (D : DefAt K mg "_entry_of" s_u_entry_of ["word"]) : Cal P w K mg base CX0 "_entry_of" 1 ["word"] (spEntryOf K) := by
  refine D.cal sc_u_entry_of (fun vs H Q E h => ?_) (fun f cdv A outer s H vs Q E hr h => ?_)
  · obtain ⟨z, rfl, _⟩ := h
    rfl
  · obtain ⟨z, rfl, hz, hw, q⟩ := h
    refine ⟨_, (pss_cons (ps_if (pt_cmpR op_eq (pv 0) pe_str (nomark _)) (pss_one (ps_ret pe_non)) pss_nil)
      (pss_one (ps_ret (pe_tup (pa_cons (pe_callTy call_int_str (by rfl) T.m_int (by decide +kernel) (pa_cons (pe_ix ix_str (pv 0) pe_int (fun _ _ => rfl)) pa_nil)) (pa_cons (pe_bmS PySem.F.plainAttrs_str PySem.F.slot_str_index PySem.F.type_str_index (mt_indexIn rfl) (pe_gstr (by rfl) T.turns) (pa_cons (pe_ix ix_str (pv 0) pe_int (fun _ _ => rfl)) pa_nil)) (pa_cons (pe_callTy call_int_str (by rfl) T.m_int (by decide +kernel) (pa_cons (pe_ix ix_str (pv 0) pe_int (fun _ _ => rfl)) pa_nil)) pa_nil))))))), ?_⟩
    have hz2 : z.length ≤ sizeLine := small_le hz
    walk_at "st"
    refine ite2 (fun e => ?_) (fun e => ?_)
    · have e : z = Str.ofString "-" := V.str.inj (of_decide_eq_true e)
      subst e
      walk_at "st"
      exact q _ _ .non (Same.refl H)
    · have e : z ≠ Str.ofString "-" := fun h => e (decide_eq_true (by rw [h]))
      have h3 : z.length = 3 := by
        by_cases h3 : z.length = 3
        · exact h3
        · rw [wordB_not3 h3 e] at hw
          cases hw
      obtain ⟨a, b, c, habc⟩ := tl3 h3
      have a0 : atI z.cps.toList (0 : Int) = some a := by rw [show z.cps.toList = [a, b, c] from habc]; exact at0
      have a1 : atI z.cps.toList (1 : Int) = some b := by rw [show z.cps.toList = [a, b, c] from habc]; exact at1
      have a2 : atI z.cps.toList (2 : Int) = some c := by rw [show z.cps.toList = [a, b, c] from habc]; exact at2
      rw [habc] at hw q
      have hw : (decide (a ∈ figs) && (decide (b ∈ turnsL) && decide (c ∈ figs))) = true := hw
      simp only [Bool.and_eq_true, decide_eq_true_eq] at hw
      obtain ⟨w1, w2, w3⟩ := hw
      have i1 := int_fig w1
      have i3 := int_fig w3
      have i2 := idx_turn w2
      have l1 : (⟨#[a]⟩ : Str).length ≤ 640 := Nat.le_of_ble_eq_true rfl
      have l3 : (⟨#[c]⟩ : Str).length ≤ 640 := Nat.le_of_ble_eq_true rfl
      walk_at "st"
      intro p np
      exact q _ _ (.tup (SqT.of upd_same) (.cons (.int _) (.cons (.int _) (.cons (.int _) .nil)))) (Same.new np)
end

/-! ### read_table -/
/-- the rows under way: lists of their own at as -/
structure Lists (K : PySem.W.Frag) (H0 H : Hp) (S : Addr) (as : List Addr) (rs : List (List Ent)) : Prop where
  len : as.length = rs.length
  nd : as.Nodup
  out : S ∉ as
  new : ∀ a ∈ as, H0 a = none
  at_ : ∀ (k : Nat) (a : Addr) (r : List Ent), as[k]? = some a → rs[k]? = some r → ∃ vs, H a = some (.lst vs) ∧ TpAll K H vs (r.map entD)
section
variable {K : PySem.W.Frag} {H0 H H' : Hp} {S : Addr} {as : List Addr} {rs : List (List Ent)}
theorem Lists.same (L : Lists K H0 H S as rs) (s : Same H H') : Lists K H0 H' S as rs := ⟨L.len, L.nd, L.out, L.new, fun k a r h1 h2 => by
  obtain ⟨vs, e, t⟩ := L.at_ k a r h1 h2
  exact ⟨vs, s _ _ e, TpAll.mono (Same.tk s) _ _ t⟩⟩
/-- the outer list changes -/
theorem Lists.outer {o : HO} {xs : List V} (L : Lists K H0 H S as rs) (h : H S = some (.lst xs)) : Lists K H0 (upd H S o) S as rs := ⟨L.len, L.nd, L.out, L.new, fun k a r h1 h2 => by
  obtain ⟨vs, e, t⟩ := L.at_ k a r h1 h2
  have n : a ≠ S := fun z => L.out (by rw [← z]; exact List.mem_of_getElem? h1)
  exact ⟨vs, by rw [upd_ne n]; exact e, TpAll.mono (TK.lst h) _ _ t⟩⟩
/-- one more row -/
theorem Lists.more {p : Addr} (L : Lists K H0 H S as rs) (np : H p = none) (n0 : H0 p = none) (nS : p ≠ S) : Lists K H0 (upd H p (.lst [])) S (as ++ [p]) (rs ++ [[]]) := by
  have L' := L.same (Same.new (o := .lst []) np)
  have hp : p ∉ as := fun h => by
    obtain ⟨k, hk⟩ := List.getElem?_of_mem h
    have hl : k < rs.length := by rw [← L.len]; exact (List.getElem?_eq_some_iff.mp hk).1
    obtain ⟨vs, e, _⟩ := L.at_ k p rs[k] hk (List.getElem?_eq_getElem hl)
    rw [np] at e
    cases e
  refine ⟨by rw [List.length_append, List.length_append, L.len]; rfl, ?_, ?_, ?_, fun k a r h1 h2 => ?_⟩
  · exact List.nodup_append.mpr ⟨L.nd, by simp, fun a ha b hb e => hp (by rw [← List.mem_singleton.mp hb, ← e]; exact ha)⟩
  · intro h
    rcases List.mem_append.mp h with h | h
    · exact L.out h
    · exact nS (List.mem_singleton.mp h).symm
  · intro a h
    rcases List.mem_append.mp h with h | h
    · exact L.new a h
    · rw [List.mem_singleton.mp h]; exact n0
  · by_cases hk : k < as.length
    · rw [List.getElem?_append_left hk] at h1
      rw [List.getElem?_append_left (by rw [← L.len]; exact hk)] at h2
      exact L'.at_ k a r h1 h2
    · rw [List.getElem?_append_right (by omega)] at h1
      rw [List.getElem?_append_right (by rw [← L.len]; omega)] at h2
      have e1 : k - as.length = 0 := by
        have := (List.getElem?_eq_some_iff.mp h1).1
        rw [List.length_singleton] at this
        omega
      rw [e1] at h1
      rw [← L.len, e1] at h2
      have e2 : p = a := Option.some.inj h1
      have e3 : [] = r := Option.some.inj h2
      subst e2 e3
      exact ⟨[], upd_same, .nil⟩
/-- one more entry in the last row -/
theorem Lists.put {a : Addr} {as0 : List Addr} {vs : List V} {x : V} {e : Ent} (L : Lists K H0 H S (as0 ++ [a]) rs) (ha : H a = some (.lst vs)) (hvs : TpAll K H vs ((rs.getLastD []).map entD)) (hx : Tp K H x (entD e)) : Lists K H0 (upd H a (.lst (vs ++ [x]))) S (as0 ++ [a]) (putL rs e) := by
  have hl := L.len
  rw [List.length_append, List.length_singleton] at hl
  have hne : rs ≠ [] := fun z => by rw [z] at hl; simp at hl
  have hrs : rs = rs.dropLast ++ [rs.getLastD []] := by
    rw [List.getLastD_eq_getLast?, List.getLast?_eq_getLast hne]
    exact (List.dropLast_concat_getLast hne).symm
  have hdl : rs.dropLast.length = as0.length := by rw [List.length_dropLast]; omega
  have tk : TK H (upd H a (.lst (vs ++ [x]))) := TK.lst ha
  refine ⟨?_, L.nd, L.out, L.new, fun k b r h1 h2 => ?_⟩
  · unfold putL
    rw [List.length_append, List.length_append, hdl]
    rfl
  · unfold putL at h2
    by_cases hk : k < as0.length
    · have h1' := h1
      rw [List.getElem?_append_left hk] at h1'
      rw [List.getElem?_append_left (by rw [hdl]; exact hk)] at h2
      have h2' : rs[k]? = some r := by rw [hrs, List.getElem?_append_left (by rw [hdl]; exact hk)]; exact h2
      obtain ⟨ws, e1, t⟩ := L.at_ k b r h1 h2'
      have n : b ≠ a := fun z => by
        have nd := L.nd
        rw [List.nodup_append] at nd
        exact nd.2.2 b (List.mem_of_getElem? h1') a (List.mem_singleton.mpr rfl) z
      exact ⟨ws, by rw [upd_ne n]; exact e1, TpAll.mono tk _ _ t⟩
    · rw [List.getElem?_append_right (by omega)] at h1
      rw [List.getElem?_append_right (by rw [hdl]; omega)] at h2
      have e1 : k - as0.length = 0 := by
        have := (List.getElem?_eq_some_iff.mp h1).1
        rw [List.length_singleton] at this
        omega
      rw [e1] at h1
      rw [hdl, e1] at h2
      have e2 : a = b := Option.some.inj h1
      have e3 : rs.getLastD [] ++ [e] = r := Option.some.inj h2
      subst e2 e3
      refine ⟨_, upd_same, ?_⟩
      rw [List.map_append]
      exact TpAll.append (TpAll.mono tk _ _ hvs) (.cons (Tp.mono tk _ _ hx) .nil)
theorem putL_len (hne : rs ≠ []) {e : Ent} : (putL rs e).length = rs.length := by
  unfold putL
  rw [List.length_append, List.length_dropLast]
  have := List.length_pos_iff.mpr hne
  show rs.length - 1 + 1 = rs.length
  omega
theorem getLastD_mem (hne : rs ≠ []) : rs.getLastD [] ∈ rs := by
  rw [List.getLastD_eq_getLast?, List.getLast?_eq_getLast hne]
  exact List.getLast_mem hne
theorem putL_rows {n : Nat} {e : Ent} (hne : rs ≠ []) (h : ∀ r ∈ rs, r.length ≤ n) : ∀ r ∈ putL rs e, r.length ≤ n + 1 := by
  intro r hr
  unfold putL at hr
  rcases List.mem_append.mp hr with h1 | h1
  · have := h r ((List.dropLast_subset _ h1))
    omega
  · have := h _ (getLastD_mem hne)
    rw [List.mem_singleton.mp h1, List.length_append, List.length_singleton]
    omega
end
section
variable {P : Program} {w : World} {K : PySem.W.Frag} {mg : Str → Option Value} {base : Heap}
theorem ok_read_table {CI : Addr} (T : Txt K mg) (TI : ExcCls K mg "InvalidText" CI) (FI : ExcInit1 P w K mg base CI "place") (D : DefAt K mg "read_table" s_read_table ["text"]) (C_check_text : Cal P w K mg base CX0 "check_text" 1 ["value"] spCheckText) (C_is_word : Cal P w K mg base CX0 "_is_word" 1 ["word"] spIsWord) (C_entry_of : Cal P w K mg base CX0 "_entry_of" 1 ["word"] (spEntryOf K)) (C_is_table : Cal P w K mg base CX0 "is_table" 3 ["value"] (spIsTable K)) : Cal P w K mg base (L2.CX P w) "read_table" 4 ["text"] (spRead K CI) := by
  refine D.calX sc_read_table (fun vs H Q E h => ?_) (fun f cdv A outer s H vs Q E hr h => ?_)
  · obtain ⟨z, rfl, _⟩ := h
    rfl
  · obtain ⟨z, rfl, hz, q, qe⟩ := h
    refine ⟨_, (pss_cons (ps_expr (pe_own C_check_text hr (by first | decide | omega) (pa_cons (pv 0) pa_nil)))
      (pss_cons (ps_set (i := 1) sc_read_table.nd rfl (Or.inl rfl) (pe_lst (pa_cons (pe_lst pa_nil) pa_nil)))
      (pss_cons (ps_set (i := 2) sc_read_table.nd rfl (Or.inl rfl) pe_int)
      (pss_cons (ps_for (passes_of rfl) rfl (k_pi_list (K := K) (pe_split (pv 0) pe_str)) (pg_name (i := 3) sc_read_table.nd rfl (Or.inl rfl))
      (pss_cons (ps_if (pt_cmpR op_eq (pv 3) pe_str (nomark _)) (pss_one (ps_expr (pe_bm PySem.F.plainAttrs_list PySem.F.slot_list_append PySem.F.type_list_append mt_append (pv 1) (pa_cons (pe_lst pa_nil) pa_nil)))) (pss_one (ps_if (pt_val (pe_own C_is_word hr (by first | decide | omega) (pa_cons (pv 3) pa_nil))) (pss_one (ps_expr (pe_bm PySem.F.plainAttrs_list PySem.F.slot_list_append PySem.F.type_list_append mt_append (pe_ix (k_ix_list (K := K)) (pv 1) (pe_un un_neg pe_int) (fun _ _ => rfl)) (pa_cons (pe_own C_entry_of hr (by first | decide | omega) (pa_cons (pv 3) pa_nil)) pa_nil)))) (pss_one (ps_raise1 rfl (takes_of rfl rfl rfl rfl) TI FI hr (by decide) (by exact (pa_cons (pv 2) pa_nil)))))))
      (pss_one (ps_aug (i := 2) sc_read_table.nd rfl (Or.inl rfl) (pe_op op_add (pe_callB call_len_str (by rfl) T.m_len (by decide +kernel) (pa_cons (pv 3) pa_nil)) pe_int) ip_add))))
      (pss_cons (ps_set (i := 4) sc_read_table.nd rfl (Or.inl rfl) (pe_callTy (k_tuple_l (K := K)) (by rfl) T.m_tuple (by decide +kernel) (pa_cons (pe_lc (own := [("state", 5)]) (g := gName 5) rfl sc_read_table.nd (k_pi_list (K := K) (pv 1)) (blkOk_by (by rfl)) (fun _ _ _ _ _ => (pg_name (i := 5) sc_read_table.nd rfl (Or.inl rfl))) (fun _ _ _ _ _ => pts_nil) (fun _ _ _ _ _ => (pe_callTy (k_tuple_l (K := K)) (by rfl) T.m_tuple (by decide +kernel) (pa_cons (pv 5) pa_nil)))) pa_nil)))
      (pss_cons (ps_if (pt_not (pt_val (pe_own C_is_table hr (by first | decide | omega) (pa_cons (pv 4) pa_nil)))) (pss_one (ps_raise1 rfl (takes_of rfl rfl rfl rfl) TI FI hr (by decide) (by exact (pa_cons pe_int pa_nil)))) pss_nil)
      (pss_one (ps_ret (pv 4))))))))), ?_⟩
    have hz2 : z.length + 2 ≤ sizeLine := small_le (by omega)
    walk_at "st"
    intro a0 n0
    walk_at "st"
    intro S nS
    have nS0 : S ≠ a0 := fun e => by rw [e, upd_same] at nS; cases nS
    have nSH : H S = none := by rw [upd_ne nS0] at nS; exact nS
    walk_at "st"
    intro W nW
    have nWS : W ≠ S := fun e => by rw [e, upd_same] at nW; cases nW
    have nW1 : (upd H a0 (.lst [])) W = none := by rw [upd_ne nWS] at nW; exact nW
    have nW0 : W ≠ a0 := fun e => by rw [e, upd_same] at nW1; cases nW1
    have nWH : H W = none := by rw [upd_ne nW0] at nW1; exact nW1
    have hwl := fun y (h : y ∈ Txt.split z (Str.ofString " ")) => split_len h
    have hwc := split_count z
    have hread : ∀ rs, rdW (Txt.split z (Str.ofString " ")) 0 [[]] = .inr rs → readT z = if tabB rs = true then .inr rs else .inl 0 := fun rs h => by unfold readT; rw [h]
    have hreadl : ∀ p, rdW (Txt.split z (Str.ofString " ")) 0 [[]] = .inl p → readT z = .inl p := fun p h => by unfold readT; rw [h]
    generalize Txt.split z (Str.ofString " ") = ws at *
    walk_at "st"
    refine for_list (K := K) (a := W) (xs := ws.map V.str) (fun i σ H' => Ok (∃ (y3 : Option V) (pl : Nat) (pi : Int) (as : List Addr) (rs : List (List Ent)), pi = pl ∧ σ = [some (.str z), some (.ref S), some (.int pi), y3, none, none] ∧ rdW ws 0 [[]] = rdW (ws.drop i) pl rs ∧
      H' S = some (.lst (as.map V.ref)) ∧ Lists K H H' S as rs ∧ rs ≠ [] ∧ rs.length ≤ i + 1 ∧ (∀ r ∈ rs, r.length ≤ i) ∧ H' W = some (.lst (ws.map V.str)) ∧ W ∉ as ∧ Same H H')) ?_ ?_ ?_ ?_
    · refine ⟨_, 0, _, [a0], [[]], rfl, rfl, rfl, ?_, ⟨rfl, by simp, by simpa using nS0, fun a h => by rw [List.mem_singleton.mp h]; exact n0, fun k a r h1 h2 => ?_⟩, by simp, Nat.le_refl _, by simp, upd_same, by simpa using nW0, ?_⟩
      · rw [upd_ne nWS.symm, upd_same]
        rfl
      · cases k with
        | zero =>
          have e1 : a0 = a := Option.some.inj h1
          have e2 : [] = r := Option.some.inj h2
          subst e1 e2
          exact ⟨[], by rw [upd_ne nW0.symm, upd_ne nS0.symm, upd_same], .nil⟩
        | succ k => simp at h1
      · exact Same.fresh (Same.fresh (Same.new n0) nSH) nWH
    · rintro i σ H' _ ⟨y3, pl, pi, as, rs, _, _, _, _, _, _, _, _, hW, _⟩
      exact SqL.of hW
    · rintro i x σ H' hx ⟨y3, pl, pi, as, rs, rfl, rfl, hrd, hS, hL, hne, hlen, hrows, hW, hWa, sm⟩
      have hi : i < ws.length := by
        have := (List.getElem?_eq_some_iff.mp hx).1
        rw [List.length_map] at this
        exact this
      have hxe : x = .str ws[i] := by
        rw [List.getElem?_map, List.getElem?_eq_getElem hi] at hx
        exact (Option.some.inj hx).symm
      subst hxe
      have hwz := hwl _ (List.getElem_mem hi)
      rw [List.drop_eq_getElem_cons hi] at hrd
      generalize hwd : ws[i] = wd at *
      have hwsz : wd.length ≤ sizeLine := small_le (by omega)
      have hasz : (as.map V.ref).length < sizeLine := by
        rw [List.length_map, hL.len]
        exact small1000 (by omega)
      have hwS : W ≠ S := nWS
      walk_at "st"
      refine ite2 (fun e => ?_) (fun e => ?_)
      · have e : wd = Str.ofString "/" := V.str.inj (of_decide_eq_true e)
        rw [show rdW (wd :: ws.drop (i + 1)) pl rs = rdW (ws.drop (i + 1)) (pl + wd.length + 1) (rs ++ [[]]) from if_pos e] at hrd
        walk_at "st"
        intro p np
        have npS : p ≠ S := fun e => by rw [e, hS] at np; cases np
        have npW : p ≠ W := fun e => by rw [e, hW] at np; cases np
        have npH : H p = none := Same.free sm np
        have hS' : (upd H' p (.lst [])) S = some (.lst (as.map V.ref)) := by rw [upd_ne npS.symm]; exact hS
        have hW' : (upd H' p (.lst [])) W = some (.lst (ws.map V.str)) := by rw [upd_ne npW.symm]; exact hW
        walk_at "st"
        refine ⟨_, pl + wd.length + 1, _, as ++ [p], rs ++ [[]], ?_, rfl, hrd, ?_, (hL.more np npH npS).outer hS', by simp, ?_, ?_, ?_, ?_, Same.fresh (Same.fresh sm npH) nSH⟩
        · show (pl : Int) + ((wd.length : Int) + 1) = ((pl + wd.length + 1 : Nat) : Int)
          omega
        · rw [upd_same, List.map_append]
          rfl
        · rw [List.length_append, List.length_singleton]; omega
        · intro r hr
          rcases List.mem_append.mp hr with h | h
          · have := hrows r h; omega
          · rw [List.mem_singleton.mp h]; exact Nat.zero_le _
        · rw [upd_ne hwS]; exact hW'
        · intro h
          rcases List.mem_append.mp h with h | h
          · exact hWa h
          · exact npW (List.mem_singleton.mp h).symm
      · have e : ¬ wd = Str.ofString "/" := fun h => e (decide_eq_true (by rw [h]))
        rw [show rdW (wd :: ws.drop (i + 1)) pl rs = if wordB (tl wd) = true then rdW (ws.drop (i + 1)) (pl + wd.length + 1) (putL rs (entOf (tl wd))) else .inl pl from if_neg e] at hrd
        walk_at "st"
        refine ite2 (fun e2 => ?_) (fun e2 => ?_)
        · rw [if_pos e2] at hrd
          have hasne : as ≠ [] := fun z => by
            have := hL.len
            rw [z] at this
            exact hne (List.length_eq_zero_iff.mp this.symm)
          obtain ⟨as0, a, rfl⟩ : ∃ as0 a, as = as0 ++ [a] := ⟨as.dropLast, as.getLast hasne, (List.dropLast_concat_getLast hasne).symm⟩
          have hl := hL.len
          rw [List.length_append, List.length_singleton] at hl
          obtain ⟨vs, ha, hvs⟩ := hL.at_ as0.length a (rs.getLastD []) (by rw [List.getElem?_append_right (Nat.le_refl _), Nat.sub_self]; rfl) (by
            rw [List.getLastD_eq_getLast?, List.getLast?_eq_getLast hne, List.getLast_eq_getElem]
            rw [show as0.length = rs.length - 1 by omega]
            exact List.getElem?_eq_getElem _)
          have hneg : atI ((as0 ++ [a]).map V.ref) (-1 : Int) = some (.ref a) := by
            rw [List.map_append]
            exact atI_last _ _
          have haS : a ≠ S := fun z => hL.out (by rw [← z]; simp)
          have haW : a ≠ W := fun z => hWa (by rw [← z]; simp)
          have haH : H a = none := hL.new a (by simp)
          have hvsz : vs.length < sizeLine := by
            have h1 := TpAll.length hvs
            rw [List.length_map] at h1
            have h2 := hrows _ (getLastD_mem hne)
            exact small1000 (by omega)
          walk_at "st"
          intro v H2 hv s2
          have ha2 := s2 _ _ ha
          have hS2 := s2 _ _ hS
          have hW2 := s2 _ _ hW
          walk_at "st"
          refine ⟨_, pl + wd.length + 1, _, as0 ++ [a], putL rs (entOf (tl wd)), ?_, rfl, hrd, ?_, (hL.same s2).put ha2 (TpAll.mono (Same.tk s2) _ _ hvs) hv, ?_, ?_, ?_, ?_, hWa, Same.fresh (Same.trans sm s2) haH⟩
          · show (pl : Int) + ((wd.length : Int) + 1) = ((pl + wd.length + 1 : Nat) : Int)
            omega
          · rw [upd_ne haS.symm]; exact hS2
          · exact fun z => by
              have := putL_len (e := entOf (tl wd)) hne
              rw [z] at this
              exact hne (List.length_eq_zero_iff.mp this.symm)
          · rw [putL_len hne]; omega
          · exact putL_rows hne hrows
          · rw [upd_ne haW.symm]; exact hW2
        · rw [if_neg e2] at hrd
          walk_at "st"
          refine raise1 (fun d H2 nd s2 hd => ?_)
          exact qe pl (hreadl _ hrd) d H2 (Same.free sm nd) (Same.trans sm s2) hd
    · rintro σ H' ⟨y3, pl, pi, as, rs, rfl, rfl, hrd, hS, hL, hne, hlen, hrows, hW, hWa, sm⟩
      rw [List.length_map] at hlen hrows hrd
      rw [List.drop_length] at hrd
      have hR := hread rs hrd
      have hl1 : rs.length ≤ 1000 := by omega
      have hl2 : ∀ r ∈ rs, r.length ≤ 1000 := fun r h => by have := hrows r h; omega
      walk_at "st"
      intro L nL
      refine lc_list (K := K) (a := S) (xs := as.map V.ref) (fun j H2 => Ok (∃ ts, Same H' H2 ∧ H2 L = some (.lst ts) ∧ TpAll K H2 ts ((rs.take j).map rowD))) ⟨[], Same.new nL, upd_same, .nil⟩ (fun j H2 _ ⟨ts, s2, _⟩ => SqL.of (s2 _ _ hS)) ?_ ?_
      · rintro j x H2 hx ⟨ts, s2, hLt, hts⟩
        have hj : j < as.length := by
          have := (List.getElem?_eq_some_iff.mp hx).1
          rw [List.length_map] at this
          exact this
        have hxe : x = .ref as[j] := by
          rw [List.getElem?_map, List.getElem?_eq_getElem hj] at hx
          exact (Option.some.inj hx).symm
        subst hxe
        have hj2 : j < rs.length := by rw [← hL.len]; exact hj
        obtain ⟨vs, ha, hvs⟩ := hL.at_ j _ _ (List.getElem?_eq_getElem hj) (List.getElem?_eq_getElem hj2)
        have ha2 := s2 _ _ ha
        have htsz : ts.length < sizeLine := by
          have h1 := TpAll.length hts
          rw [List.length_map, List.length_take] at h1
          exact small1000 (by omega)
        walk_at "st"
        intro u nu
        have hL3 : (upd H2 u (.tup vs)) L = some (.lst ts) := Same.new nu _ _ hLt
        walk_at "st"
        have t3 : TK H2 (upd H2 u (.tup vs)) := TK.new nu
        have t4 : TK (upd H2 u (.tup vs)) (upd (upd H2 u (.tup vs)) L (.lst (ts ++ [.ref u]))) := TK.lst hL3
        refine ⟨ts ++ [.ref u], Same.fresh (Same.trans s2 (Same.new nu)) nL, upd_same, ?_⟩
        rw [take_more (List.getElem?_eq_getElem hj2), List.map_append]
        refine TpAll.append (TpAll.mono (t3.trans t4) _ _ hts) (.cons (.tup (t4.seqT (SqT.of upd_same)) ?_) .nil)
        exact TpAll.mono (((Same.tk s2).trans t3).trans t4) _ _ hvs
      · rintro H2 ⟨ts, s2, hLt, hts⟩
        rw [List.length_map, hL.len, List.take_length] at hts
        walk_at "st"
        intro t nt
        have ht : Tp K (upd H2 t (.tup ts)) (.ref t) (tabD rs) := .tup (SqT.of upd_same) (TpAll.mono (TK.new nt) _ _ hts)
        have st : Same H (upd H2 t (.tup ts)) := Same.trans (Same.trans sm s2) (Same.new nt)
        walk_at "st"
        intro H3 s3
        walk_at "st"
        refine ite2 (fun e => ?_) (fun e => ?_)
        · have e := nb_tr e
          rw [e, if_neg Bool.false_ne_true] at hR
          walk_at "st"
          refine raise1 (fun d H4 nd s4 hd => ?_)
          exact qe 0 hR d H4 (Same.free (Same.trans st s3) nd) (Same.trans (Same.trans st s3) s4) hd
        · have e := nb_fl e
          rw [if_pos e] at hR
          walk_at "st"
          exact q rs hR _ _ (Tp.mono (Same.tk s3) _ _ ht) (Same.trans st s3)
end

/-! ### there and back -/
def rdL : List (List Nat) → Nat → List (List Ent) → Nat ⊕ List (List Ent)
  | [], _, rs => .inr rs
  | z :: ws, p, rs => if z = [47] then rdL ws (p + z.length + 1) (rs ++ [[]]) else if wordB z = true then rdL ws (p + z.length + 1) (putL rs (entOf z)) else .inl p
def readL (z : List Nat) : Nat ⊕ List (List Ent) := match rdL (spl [32] 0 [] z) 0 [[]] with
  | .inl p => .inl p
  | .inr T => if tabB T = true then .inr T else .inl 0
theorem rdW_rdL : ∀ (ws : List Str) (p : Nat) (rs : List (List Ent)), rdW ws p rs = rdL (ws.map tl) p rs
  | [], _, _ => rfl
  | z :: ws, p, rs => by
    have h : (z = Str.ofString "/") ↔ tl z = [47] := ⟨fun e => by rw [e]; rfl, fun e => tl_inj (by rw [e]; rfl)⟩
    show (if z = Str.ofString "/" then rdW ws (p + z.length + 1) (rs ++ [[]]) else if wordB (tl z) = true then rdW ws (p + z.length + 1) (putL rs (entOf (tl z))) else .inl p) =
      (if tl z = [47] then rdL (ws.map tl) (p + (tl z).length + 1) (rs ++ [[]]) else if wordB (tl z) = true then rdL (ws.map tl) (p + (tl z).length + 1) (putL rs (entOf (tl z))) else .inl p)
    rw [rdW_rdL ws, rdW_rdL ws, ← len_tl]
    by_cases e : tl z = [47]
    · rw [if_pos e, if_pos (h.mpr e)]
    · rw [if_neg e, if_neg (fun z => e (h.mp z))]
theorem readT_readL (z : Str) : readT z = readL (tl z) := by
  unfold readT readL
  rw [rdW_rdL, split_sp]
  try (generalize rdL (spl [32] 0 [] (tl z)) 0 [[]] = q; cases q <;> rfl)
def wordsL : List (List Ent) → List (List Nat)
  | [] => []
  | [r] => r.map wordL
  | r :: s :: T => r.map wordL ++ ([47] :: wordsL (s :: T))
theorem joinL_app {S : List Nat} : ∀ {a b : List (List Nat)}, a ≠ [] → b ≠ [] → joinL S (a ++ b) = joinL S a ++ (S ++ joinL S b)
  | [], _, h, _ => absurd rfl h
  | [x], [], _, h => absurd rfl h
  | [x], y :: b, _, _ => rfl
  | x :: y :: a, b, _, h => by
    have z := joinL_app (S := S) (a := y :: a) (b := b) (by simp) h
    show x ++ (S ++ joinL S ((y :: a) ++ b)) = x ++ (S ++ joinL S (y :: a)) ++ (S ++ joinL S b)
    rw [z]
    simp only [List.append_assoc]
theorem wordsL_ne {T : List (List Ent)} (h : T ≠ []) (hr : ∀ r ∈ T, r ≠ []) : wordsL T ≠ [] := by
  match T, h with
  | [r], _ =>
    have := hr r (by simp)
    simpa [wordsL] using this
  | r :: s :: T, _ => simp [wordsL]
theorem join_words : ∀ {T : List (List Ent)}, T ≠ [] → (∀ r ∈ T, r ≠ []) → joinL [32, 47, 32] (T.map fun r => joinL [32] (r.map wordL)) = joinL [32] (wordsL T)
  | [], h, _ => absurd rfl h
  | [r], _, _ => rfl
  | r :: s :: T, _, hr => by
    have ih := join_words (T := s :: T) (by simp) fun x hx => hr x (List.mem_cons_of_mem _ hx)
    have hne := wordsL_ne (T := s :: T) (by simp) fun x hx => hr x (List.mem_cons_of_mem _ hx)
    show joinL [32] (r.map wordL) ++ ([32, 47, 32] ++ joinL [32, 47, 32] ((s :: T).map fun r => joinL [32] (r.map wordL))) = joinL [32] (r.map wordL ++ ([47] :: wordsL (s :: T)))
    rw [ih, joinL_app (by have := hr r (by simp); simpa using this) (by simp), show ([47] :: wordsL (s :: T)) = [[47]] ++ wordsL (s :: T) from rfl, joinL_app (by simp) hne]
    simp [joinL]
theorem tl_tabS {T : List (List Ent)} (h : T ≠ []) (hr : ∀ r ∈ T, r ≠ []) : tl (tabS T) = joinL [32] (wordsL T) := by
  unfold tabS
  rw [join_eq, tl_join, List.map_map]
  rw [← join_words h hr]
  congr 1
  refine List.map_congr_left fun r _ => ?_
  show tl (Txt.join (Str.ofString " ") (r.map wordS)) = _
  rw [join_eq, tl_join, List.map_map]
  rfl
theorem turnC_mem {t : Int} (h0 : 0 ≤ t) (h1 : t < 4) : turnC t ∈ turnsL ∧ (idxC (turnC t) : Int) = t := by
  obtain ⟨n, rfl⟩ := Int.eq_ofNat_of_zero_le h0
  have h : n = 0 ∨ n = 1 ∨ n = 2 ∨ n = 3 := by omega
  rcases h with rfl | rfl | rfl | rfl <;> decide +kernel
theorem fig_mem {i : Int} (h0 : 0 ≤ i) (h1 : i < 10) : 48 + i.toNat ∈ figs ∧ ((48 + i.toNat : Nat) : Int) - 48 = i := by
  refine ⟨?_, by omega⟩
  obtain ⟨n, rfl⟩ := Int.eq_ofNat_of_zero_le h0
  have h : n = 0 ∨ n = 1 ∨ n = 2 ∨ n = 3 ∨ n = 4 ∨ n = 5 ∨ n = 6 ∨ n = 7 ∨ n = 8 ∨ n = 9 := by omega
  rcases h with rfl | rfl | rfl | rfl | rfl | rfl | rfl | rfl | rfl | rfl <;> decide +kernel
theorem word_facts {e : Ent} (h : EntOk 10 10 e) : wordL e ≠ [47] ∧ wordB (wordL e) = true ∧ entOf (wordL e) = e ∧ 32 ∉ wordL e := by
  cases e with
  | none => exact ⟨by decide, by decide, rfl, by decide⟩
  | some e =>
    obtain ⟨⟨a, b⟩, ⟨c, d⟩, f, g⟩ := h
    have ew : wordL (some e) = [48 + e.1.toNat, turnC e.2.1, 48 + e.2.2.toNat] := by
      show numI e.1 ++ ([turnC e.2.1] ++ numI e.2.2) = _
      rw [dig a b, dig f g]
      rfl
    obtain ⟨m1, v1⟩ := fig_mem a b
    obtain ⟨m3, v3⟩ := fig_mem f g
    obtain ⟨m2, v2⟩ := turnC_mem c d
    rw [ew]
    refine ⟨by simp, ?_, ?_, ?_⟩
    · show (decide (48 + e.1.toNat ∈ figs) && (decide (turnC e.2.1 ∈ turnsL) && decide (48 + e.2.2.toNat ∈ figs))) = true
      rw [decide_eq_true m1, decide_eq_true m2, decide_eq_true m3]
      rfl
    · show some (((48 + e.1.toNat : Nat) : Int) - 48, (idxC (turnC e.2.1) : Int), ((48 + e.2.2.toNat : Nat) : Int) - 48) = some e
      rw [v1, v2, v3]
    · intro h
      rcases List.mem_cons.mp h with h | h
      · omega
      · rcases List.mem_cons.mp h with h | h
        · rcases turn_cases m2 with z | z | z | z <;> omega
        · have := List.mem_singleton.mp h
          omega
theorem putL_snoc (rs : List (List Ent)) (r : List Ent) (e : Ent) : putL (rs ++ [r]) e = rs ++ [r ++ [e]] := by
  unfold putL
  rw [List.dropLast_concat, List.getLastD_eq_getLast?, List.getLast?_concat]
  rfl
theorem rdL_row : ∀ (r : List Ent) (ws : List (List Nat)) (p : Nat) (rs : List (List Ent)) (r0 : List Ent), (∀ e ∈ r, EntOk 10 10 e) → ∃ p', rdL (r.map wordL ++ ws) p (rs ++ [r0]) = rdL ws p' (rs ++ [r0 ++ r])
  | [], ws, p, rs, r0, _ => ⟨p, by rw [List.append_nil]; rfl⟩
  | e :: r, ws, p, rs, r0, h => by
    obtain ⟨h1, h2, h3, _⟩ := word_facts (h e (by simp))
    obtain ⟨p', hp⟩ := rdL_row r ws (p + (wordL e).length + 1) rs (r0 ++ [e]) fun x hx => h x (List.mem_cons_of_mem _ hx)
    refine ⟨p', ?_⟩
    show (if wordL e = [47] then _ else if wordB (wordL e) = true then rdL (r.map wordL ++ ws) (p + (wordL e).length + 1) (putL (rs ++ [r0]) (entOf (wordL e))) else .inl p) = _
    rw [if_neg h1, if_pos h2, h3, putL_snoc, hp, List.append_assoc]
    rfl
theorem rdL_words : ∀ (T : List (List Ent)), T ≠ [] → (∀ r ∈ T, ∀ e ∈ r, EntOk 10 10 e) → ∀ (p : Nat) (rs : List (List Ent)), rdL (wordsL T) p (rs ++ [[]]) = .inr (rs ++ T)
  | [], h, _, _, _ => absurd rfl h
  | [r], _, h, p, rs => by
    obtain ⟨p', hp⟩ := rdL_row r [] p rs [] (h r (by simp))
    rw [List.append_nil] at hp
    show rdL (r.map wordL) p (rs ++ [[]]) = _
    rw [hp]
    rfl
  | r :: s :: T, _, h, p, rs => by
    obtain ⟨p', hp⟩ := rdL_row r ([47] :: wordsL (s :: T)) p rs [] (h r (by simp))
    show rdL (r.map wordL ++ ([47] :: wordsL (s :: T))) p (rs ++ [[]]) = _
    rw [hp]
    have ih := rdL_words (s :: T) (by simp) (fun x hx => h x (List.mem_cons_of_mem _ hx)) (p' + 1 + 1) (rs ++ [r])
    show rdL (wordsL (s :: T)) (p' + 1 + 1) ((rs ++ [[] ++ r]) ++ [[]]) = _
    rw [List.nil_append, ih, List.append_assoc]
    rfl
theorem wordsL_no32 : ∀ (T : List (List Ent)), (∀ r ∈ T, ∀ e ∈ r, EntOk 10 10 e) → ∀ p ∈ wordsL T, 32 ∉ p
  | [], _, p, hp => absurd hp List.not_mem_nil
  | [r], h, p, hp => by
    obtain ⟨e, he, rfl⟩ := List.mem_map.mp hp
    exact (word_facts (h r (by simp) e he)).2.2.2
  | r :: s :: T, h, p, hp => by
    rcases List.mem_append.mp hp with h1 | h1
    · obtain ⟨e, he, rfl⟩ := List.mem_map.mp h1
      exact (word_facts (h r (by simp) e he)).2.2.2
    · rcases List.mem_cons.mp h1 with h2 | h2
      · rw [h2]; decide
      · exact wordsL_no32 (s :: T) (fun x hx => h x (List.mem_cons_of_mem _ hx)) p h2
theorem readT_tabS {T : List (List Ent)} (h : tabB T = true) : readT (tabS T) = .inr T := by
  have g := tabB_good h
  rw [readT_readL, tl_tabS g.ne g.rne]
  unfold readL
  rw [spl_join (wordsL_ne g.ne g.rne) (wordsL_no32 T g.ents), show ([[]] : List (List Ent)) = [] ++ [[]] from rfl, rdL_words T g.ne g.ents, List.nil_append]
  show (if tabB T = true then (Sum.inr T : Nat ⊕ List (List Ent)) else .inl 0) = .inr T
  rw [if_pos h]
theorem tabS_len {T : List (List Ent)} (g : TabGood T) : (tabS T).length ≤ 270 := by
  rw [len_tl]
  exact Nat.le_trans (join_len _ _) (tab_sizes g)

/-! ### the law -/
def qs1 : List (Str × V) := [("", .int 0), ("1r0", .int 0), ("1r0 0l0 ", .int 8), ("1r0  0l0", .int 4), ("1x0 0l0", .int 0), ("1r0 0l", .int 4)]
def qs2 : List (Str × V) := [("2r0 0l0", .int 0), ("1r1 0l0", .int 0), ("1r0 0l0 /", .int 0), ("/ 1r0 0l0", .int 0)]
def dashes (n : Nat) : Str := Txt.join (Str.ofString " / ") (List.replicate n (Str.ofString "- -"))
def qs3 : List (Str × V) := [("- -", .non), ("- - / - - -", .int 0), (dashes 11, .int 0), (dashes 10, .non)]
def qs4 : List (Str × V) := [("1r0 -- -", .int 4), ("10r0 -", .int 0), ("- - - - - -", .non), ("- - - - - - -", .int 0)]
def expB (q : Str × V) : Bool := decide ((tl q.1).length ≤ 900) && match readL (tl q.1) with
  | .inr _ => decide (q.2 = .non)
  | .inl p => decide (q.2 = .int (p : Nat))
theorem tl_dashes (n : Nat) : tl (dashes n) = joinL [32, 47, 32] (List.replicate n [45, 32, 45]) := by
  unfold dashes
  rw [join_eq, tl_join, List.map_replicate]
  rfl
theorem exp_dashes {n : Nat} {v : V} (h : (decide ((joinL [32, 47, 32] (List.replicate n [45, 32, 45])).length ≤ 900) && match readL (joinL [32, 47, 32] (List.replicate n [45, 32, 45])) with
  | .inr _ => decide (v = .non)
  | .inl p => decide (v = .int (p : Nat))) = true) : expB (dashes n, v) = true := by
  unfold expB
  rw [tl_dashes]
  exact h
theorem exp_all : ∀ q ∈ qs1 ++ qs2 ++ qs3 ++ qs4, expB q = true := by
  intro q hq
  rcases List.mem_append.mp hq with hq | hq
  · rcases List.mem_append.mp hq with hq | hq
    · rcases List.mem_append.mp hq with hq | hq
      · exact List.all_eq_true.mp (show qs1.all expB = true by decide +kernel) q hq
      · exact List.all_eq_true.mp (show qs2.all expB = true by decide +kernel) q hq
    · rcases List.mem_cons.mp hq with rfl | hq
      · decide +kernel
      · rcases List.mem_cons.mp hq with rfl | hq
        · decide +kernel
        · rcases List.mem_cons.mp hq with rfl | hq
          · exact exp_dashes (by decide +kernel)
          · rw [List.mem_singleton.mp hq]
            exact exp_dashes (by decide +kernel)
  · exact List.all_eq_true.mp (show qs4.all expB = true by decide +kernel) q hq
def spLaw (K : PySem.W.Frag) : Sp := fun vs H Q _ => ∃ (a : Addr) (ns : List Int), vs = [.ref a] ∧ Scr K H a ns ∧ ∀ H', Q (.bl true) H'
theorem evs_dashes {K : PySem.W.Frag} (n : Nat) {ta : TE} {m : Int} (h : ta = tM1 (fun x xs H Q => ∃ a p, ∃ ys : List Str, x = .str a ∧ xs = [.ref p] ∧ (SqL K H p (ys.map V.str) ∨ SqT K H p (ys.map V.str)) ∧ (ys.map (·.length)).sum + ys.length * a.length ≤ 16777216 ∧ Q (.str (Txt.join a ys)) H) (tC (.str (Str.ofString " / "))) (tOp rRep (tLst (tCons (tC (.str (Str.ofString "- -"))) tNil)) (tC (.int m)))) (hm : m = n) (h1 : 1 ≤ n) (h2 : n ≤ 100) : Evs ta (dashes n) := by
  intro σ H Q q
  subst h hm
  refine ⟨⟨_, rfl⟩, Nat.le_of_ble_eq_true rfl, fun p np => ?_⟩
  refine ⟨p, (n : Int), [.str (Str.ofString "- -")], rfl, rfl, upd_same, by omega, by omega, small_le (by rw [List.length_singleton, Int.toNat_natCast]; omega), fun p2 np2 => ?_⟩
  have e : (List.replicate (n : Int).toNat [V.str (Str.ofString "- -")]).flatten = (List.replicate n (Str.ofString "- -")).map V.str := by
    rw [Int.toNat_natCast, List.flatten_replicate_singleton, List.map_replicate]
  refine ⟨_, p2, List.replicate n (Str.ofString "- -"), rfl, rfl, .inl (SqL.of (by rw [upd_same, e])), ?_, ?_⟩
  · rw [List.map_replicate, List.sum_replicate_nat, List.length_replicate, show (Str.ofString "- -").length = 3 from rfl, show (Str.ofString " / ").length = 3 from rfl]
    omega
  · exact q _ (Same.trans (Same.new np) (Same.new np2))
theorem kit_self {K : PySem.W.Frag} {v : Value} : PySem.W.kitOne K v v = some true := if_pos (beq_self_eq_true v)
section
variable {P : Program} {w : World} {K : PySem.W.Frag} {mg : Str → Option Value} {base : Heap}
theorem ok_law {CI CW f : Addr} {fd : FuncData} (T : Txt K mg) (TI : ExcCls K mg "InvalidText" CI) (FI : ExcInit1 P w K mg base CI "place") (gW : mg "WalkError" = some (.ref CW)) (hex : PySem.W.exmOne K (.ref CI) (.ref CW) = some true) (F : Fun K "law" "law" s_law f fd) (C_law_table : Cal P w K mg base CX0 "_law_table" 2 ["row"] (spTable K)) (C_law_alike : Cal P w K mg base CX0 "_law_alike" 6 ["found", "due"] (spAlike K 5)) (C_write_table : Cal P w K mg base CX0 "write_table" 5 ["table"] (spWrite K)) (C_read_table : Cal P w K mg base (L2.CX P w) "read_table" 4 ["text"] (spRead K CI)) : FnOk P w K mg base CX0 7 f fd ["script"] (spLaw K) := by
  refine F.ok sc_law (fun vs H Q E h => ?_) (fun cdv A outer s H vs Q E hr h => ?_)
  · obtain ⟨a, ns, rfl, _⟩ := h
    rfl
  · obtain ⟨a, ns, rfl, hS, q⟩ := h
    refine ⟨_, (pss_cons (ps_set (i := 1) sc_law.nd rfl (Or.inl rfl) (pe_lst (pa_cons (pv 0) (pa_cons pe_int (pa_cons pe_int (pa_cons pe_int pa_nil))))))
      (pss_cons (ps_set (i := 2) sc_law.nd rfl (Or.inl rfl) (pe_own C_law_table hr (by first | decide | omega) (pa_cons (pv 1) pa_nil)))
      (pss_cons (ps_set (i := 3) sc_law.nd rfl (Or.inl rfl) (pe_m1 PySem.F.slot_str_join PySem.F.type_str_join (k_mt_join (K := K)) pe_str (pe_lc (own := [("line", 9)]) (g := gName 9) rfl sc_law.nd (k_pi_tup (K := K) (pv 2)) (blkOk_by (by rfl)) (fun _ _ _ _ _ => (pg_name (i := 9) sc_law.nd rfl (Or.inl rfl))) (fun _ _ _ _ _ => pts_nil) (fun _ _ _ _ _ => (pe_m1 PySem.F.slot_str_join PySem.F.type_str_join (k_mt_join (K := K)) pe_str (pe_lc (own := [("one", 10)]) (g := gName 10) rfl sc_law.nd (k_pi_tup (K := K) (pv 9)) (blkOk_by (by rfl)) (fun _ _ _ _ _ => (pg_name (i := 10) sc_law.nd rfl (Or.inl rfl))) (fun _ _ _ _ _ => pts_nil) (fun _ _ _ _ _ => (pe_ifExp (pt_cmpR op_isN (pv 10) pe_non (nomark _)) pe_str (pe_op op_add_str (pe_op op_add_str (pe_callTy call_str_int (by rfl) T.m_str (by decide +kernel) (pa_cons (pe_ix (k_ix_tup (K := K)) (pv 10) pe_int (fun _ _ => rfl)) pa_nil)) (pe_ix ix_str pe_str (pe_ix (k_ix_tup (K := K)) (pv 10) pe_int (fun _ _ => rfl)) (fun _ _ => rfl))) (pe_callTy call_str_int (by rfl) T.m_str (by decide +kernel) (pa_cons (pe_ix (k_ix_tup (K := K)) (pv 10) pe_int (fun _ _ => rfl)) pa_nil)))))))))))
      (pss_cons (ps_if (pt_not (pt_val (pe_own C_law_alike hr (by first | decide | omega) (pa_cons (pe_lst (pa_cons (pe_own C_write_table hr (by first | decide | omega) (pa_cons (pv 2) pa_nil)) (pa_cons (pe_ownL C_read_table hr (by decide) (pa_cons (pv 3) pa_nil)) pa_nil))) (pa_cons (pe_lst (pa_cons (pv 3) (pa_cons (pv 2) pa_nil))) pa_nil))))) (pss_one (ps_ret pe_bl)) pss_nil)
      (pss_cons (ps_set (i := 4) sc_law.nd rfl (Or.inl rfl) (pe_lst (pa_cons (pe_tup (pa_cons pe_str (pa_cons pe_int pa_nil))) (pa_cons (pe_tup (pa_cons pe_str (pa_cons pe_int pa_nil))) (pa_cons (pe_tup (pa_cons pe_str (pa_cons pe_int pa_nil))) (pa_cons (pe_tup (pa_cons pe_str (pa_cons pe_int pa_nil))) (pa_cons (pe_tup (pa_cons pe_str (pa_cons pe_int pa_nil))) (pa_cons (pe_tup (pa_cons pe_str (pa_cons pe_int pa_nil))) pa_nil))))))))
      (pss_cons (ps_set (i := 4) sc_law.nd rfl (Or.inl rfl) (pe_op op_cat (pv 4) (pe_lst (pa_cons (pe_tup (pa_cons pe_str (pa_cons pe_int pa_nil))) (pa_cons (pe_tup (pa_cons pe_str (pa_cons pe_int pa_nil))) (pa_cons (pe_tup (pa_cons pe_str (pa_cons pe_int pa_nil))) (pa_cons (pe_tup (pa_cons pe_str (pa_cons pe_int pa_nil))) pa_nil)))))))
      (pss_cons (ps_set (i := 4) sc_law.nd rfl (Or.inl rfl) (pe_op op_cat (pv 4) (pe_lst (pa_cons (pe_tup (pa_cons pe_str (pa_cons pe_non pa_nil))) (pa_cons (pe_tup (pa_cons pe_str (pa_cons pe_int pa_nil))) (pa_cons (pe_tup (pa_cons (pe_m1 PySem.F.slot_str_join PySem.F.type_str_join (k_mt_join (K := K)) pe_str (pe_op op_rep (pe_lst (pa_cons pe_str pa_nil)) pe_int)) (pa_cons pe_int pa_nil))) (pa_cons (pe_tup (pa_cons (pe_m1 PySem.F.slot_str_join PySem.F.type_str_join (k_mt_join (K := K)) pe_str (pe_op op_rep (pe_lst (pa_cons pe_str pa_nil)) pe_int)) (pa_cons pe_non pa_nil))) pa_nil)))))))
      (pss_cons (ps_set (i := 4) sc_law.nd rfl (Or.inl rfl) (pe_op op_cat (pv 4) (pe_lst (pa_cons (pe_tup (pa_cons pe_str (pa_cons pe_int pa_nil))) (pa_cons (pe_tup (pa_cons pe_str (pa_cons pe_int pa_nil))) (pa_cons (pe_tup (pa_cons pe_str (pa_cons pe_non pa_nil))) (pa_cons (pe_tup (pa_cons pe_str (pa_cons pe_int pa_nil))) pa_nil)))))))
      (pss_cons (ps_for PassesOwn.never rfl (k_pi_list (K := K) (pv 4)) (pg_tup (by rfl) (pgs_cons (pg_name (i := 5) sc_law.nd rfl (Or.inl rfl)) (pgs_cons (pg_name (i := 6) sc_law.nd rfl (Or.inl rfl)) pgs_nil)))
      (pss_cons (ps_set (i := 7) sc_law.nd rfl (Or.inl rfl) pe_non)
      (pss_cons (ps_try_as (i := 8) (tb := fun W => tDrop (tCallS (spRead K CI) (WE W) (tCons (tVar 5) tNil))) (ts := fun a cls d => tAsg (tIf (tB (tCB (rIsEd K mg a cls d) (tCons (tVar 8) (tCons (tC (.ref CI)) tNil)))) (tXf a cls d CI "place" (tVar 8)) (tC (.str "other"))) (gName 7)) (Wout := fun _ _ _ _ => False) rfl rfl sc_law.nd rfl rfl ⟨rfl, by decide, .inl gW⟩ takes0 (fun W pn xe tk _ => pss_one (ps_expr (by exact (pe_ownS C_read_table tk hr (by decide) (by exact (pa_cons (pv 5) pa_nil)))))) (fun a oe cls d pn hz hf => pss_one (ps_set (i := 7) sc_law.nd rfl (.inl rfl) (by exact (pe_ifExp (pt_val (pe_callB (call_isEd hz hf) (by rfl) T.m_isinstance (by decide +kernel) (pa_cons (pv 8) (pa_cons (pe_glob (by rfl) TI.gC rfl) pa_nil)))) (pe_xf TI.xf FI.no hz hf (pv 8)) pe_str)))))
      (pss_one (ps_if (pt_not (pt_val (pe_own C_law_alike hr (by first | decide | omega) (pa_cons (pv 7) (pa_cons (pv 6) pa_nil))))) (pss_one (ps_ret pe_bl)) pss_nil)))))
      (pss_one (ps_ret pe_bl))))))))))), ?_⟩
    walk_at "st"
    intro r nr
    have R0 : Row K (upd H r (.lst [.ref a, .int 0, .int 11100, .int 0])) r := ⟨a, ns, 0, 11100, 0, upd_same, hS.mono (TK.new nr), by decide, by decide, by decide, by decide⟩
    walk_at "st"
    intro v H1 c n Tb h1 h2 h3 h4 hok hv R1 k1
    have hg := hok.good h1 h2 h3 h4
    have g := tabB_good hg
    obtain ⟨b, vs, rfl, hs, hvs⟩ := hv.tupI
    have hlen : vs.length = Tb.length := by rw [TpAll.length hvs, List.length_map]
    walk_at "st"
    intro L nL
    refine lc_tup (K := K) (a := b) (xs := vs) (fun i H2 => Ok (Same H1 H2 ∧ H2 L = some (.lst (((Tb.take i).map rowS).map V.str)))) ⟨Same.new nL, upd_same⟩ (fun i H2 _ ⟨s2, _⟩ => TK.seqT (Same.tk s2) hs) ?_ ?_
    · rintro i x H2 hx ⟨s2, hL⟩
      have hi : i < Tb.length := by
        have z : i < vs.length := (List.getElem?_eq_some_iff.mp hx).1
        omega
      have hxr : Tp K H1 x (rowD Tb[i]) := by
        obtain ⟨z, e, hz⟩ := hvs.get (i := i) (d := rowD Tb[i]) (by rw [List.getElem?_map, List.getElem?_eq_getElem hi]; rfl)
        rw [hx] at e
        cases e
        exact hz
      have hmem : Tb[i] ∈ Tb := List.getElem_mem hi
      have htk := take_more (List.getElem?_eq_getElem hi)
      generalize hrw : Tb[i] = rw at *
      obtain ⟨e, ws, rfl, hsb, hws⟩ := hxr.tupI
      have hlw : ws.length = rw.length := by rw [TpAll.length hws, List.length_map]
      have hsb2 := TK.seqT (Same.tk s2) hsb
      have g1 := g.rows rw hmem
      have g2 := g.ents rw hmem
      walk_at "st"
      intro M nM
      refine lc_tup (K := K) (a := e) (xs := ws) (fun j H3 => Ok (Same H2 H3 ∧ H3 M = some (.lst (((rw.take j).map wordS).map V.str)))) ⟨Same.new nM, upd_same⟩ (fun j H3 _ ⟨s3, _⟩ => TK.seqT (Same.tk s3) hsb2) ?_ ?_
      · rintro j y H3 hy ⟨s3, hM⟩
        have hj : j < rw.length := by
          have z : j < ws.length := (List.getElem?_eq_some_iff.mp hy).1
          omega
        have hye : Tp K H1 y (entD rw[j]) := by
          obtain ⟨z, e, hz⟩ := hws.get (i := j) (d := entD rw[j]) (by rw [List.getElem?_map, List.getElem?_eq_getElem hj]; rfl)
          rw [hy] at e
          cases e
          exact hz
        have hye3 : Tp K H3 y (entD rw[j]) := Tp.mono (Same.tk (Same.trans s2 s3)) _ _ hye
        have hok := g2 rw[j] (List.getElem_mem hj)
        have hsz : (((rw.take j).map wordS).map V.str).length < sizeLine := by
          rw [List.length_map, List.length_map, List.length_take]
          exact small1000 (by omega)
        have htj := take_more (List.getElem?_eq_getElem hj)
        have fin : ∀ en : Ent, rw[j] = en → Ok (Same H2 (upd H3 M (.lst ((((rw.take j).map wordS).map V.str) ++ [.str (wordS en)]))) ∧ (upd H3 M (.lst ((((rw.take j).map wordS).map V.str) ++ [.str (wordS en)]))) M = some (.lst (((rw.take (j + 1)).map wordS).map V.str))) := fun en h => by
          refine ⟨Same.fresh s3 nM, ?_⟩
          rw [upd_same, htj, List.map_append, List.map_append, h]
          rfl
        generalize hen : rw[j] = en at *
        cases en with
        | none =>
          obtain rfl := hye3.nonI
          walk_at "st"
          exact fin none rfl
        | some en =>
          obtain ⟨u, rfl, hs3⟩ := hye3.int3
          obtain ⟨⟨a0, a1⟩, ⟨b0, b1⟩, c0, c1⟩ := hok
          have d1 := dig a0 a1
          have d3 := dig c0 c1
          have l1 := log_small a0 a1
          have l3 := log_small c0 c1
          have ht := turn_at b0 b1
          walk_at "st"
          refine ⟨by rw [len_tl, show tl (Str.ofString (toString en.1)) = [48 + en.1.toNat] from d1]; exact Nat.le_of_ble_eq_true rfl, ?_⟩
          walk_at "st"
          refine ⟨by rw [len_tl, len_tl, tl_append, show tl (Str.ofString (toString en.1)) = [48 + en.1.toNat] from d1, show tl (Str.ofString (toString en.2.2)) = [48 + en.2.2.toNat] from d3]; exact Nat.le_of_ble_eq_true rfl, ?_⟩
          walk_at "st"
          have z : Str.ofString (toString en.1) ++ ⟨#[turnC en.2.1]⟩ ++ Str.ofString (toString en.2.2) = wordS (some en) := ext_tl (by
            rw [tl_append, tl_append, tl_word]
            show numI en.1 ++ [turnC en.2.1] ++ numI en.2.2 = numI en.1 ++ ([turnC en.2.1] ++ numI en.2.2)
            rw [List.append_assoc])
          have f := fin (some en) rfl
          rw [← z] at f
          exact f
      · rintro H3 ⟨s3, hM⟩
        rw [hlw, List.take_length] at hM
        have hL3 := s3 _ _ hL
        have hsz := row_sizes g1 g2
        have hsz2 : (((Tb.take i).map rowS).map V.str).length < sizeLine := by
          have := g.len
          rw [List.length_map, List.length_map, List.length_take]
          exact small1000 (by omega)
        walk_at "st"
        refine ⟨Same.fresh (Same.trans s2 s3) nL, ?_⟩
        rw [upd_same, htk, List.map_append, List.map_append]
        rfl
    · rintro H2 ⟨s2, hL⟩
      rw [hlen, List.take_length] at hL
      have hsz := tab_sizes g
      have hv2 : Tp K H2 (.ref b) (tabD Tb) := Tp.mono (Same.tk s2) _ _ hv
      have hz9 : (Txt.join (Str.ofString " / ") (Tb.map rowS)).length ≤ 900 := Nat.le_trans (tabS_len g) (by decide)
      walk_at "st"
      intro H3 s3
      walk_at "st"
      refine ⟨fun T' hT v' H4 hv' s4 => ?_, fun p hp => absurd ((readT_tabS hg).symm.trans hp) (by intro z; cases z)⟩
      obtain rfl : T' = Tb := Sum.inr.inj (hT.symm.trans (readT_tabS hg))
      walk_at "st"
      intro A1 nA1
      have sA1 : Same H4 (upd H4 A1 (.lst [.str (tabS T'), v'])) := Same.new nA1
      walk_at "st"
      intro A2 nA2
      have sA2 : Same (upd H4 A1 (.lst [.str (tabS T'), v'])) (upd (upd H4 A1 (.lst [.str (tabS T'), v'])) A2 (.lst [.str (tabS T'), .ref b])) := Same.new nA2
      have hD1 : Dp K (upd (upd H4 A1 (.lst [.str (tabS T'), v'])) A2 (.lst [.str (tabS T'), .ref b])) (.ref A1) (.list [.str (tabS T'), tabD T']) :=
        .lst (SqL.of (sA2 _ _ upd_same)) (.cons (.str _) (.cons (Dp.mono (Same.trans sA1 sA2) _ _ (Tp.dp _ _ hv')) .nil))
      have hD2 : Dp K (upd (upd H4 A1 (.lst [.str (tabS T'), v'])) A2 (.lst [.str (tabS T'), .ref b])) (.ref A2) (.list [.str (tabS T'), tabD T']) :=
        .lst (SqL.of upd_same) (.cons (.str _) (.cons (Dp.mono (Same.trans (Same.trans (Same.trans s3 s4) sA1) sA2) _ _ (Tp.dp _ _ hv2)) .nil))
      have hok5 : okD 5 (.list [.str (tabS T'), tabD T']) := by
        refine ⟨Nat.le_of_ble_eq_true rfl, fun d hd => ?_⟩
        rcases List.mem_cons.mp hd with rfl | hd
        · trivial
        · rw [List.mem_singleton.mp hd]
          refine ⟨by rw [List.length_map]; have := g.len; omega, fun d hd => ?_⟩
          obtain ⟨r, hr, rfl⟩ := List.mem_map.mp hd
          refine ⟨by rw [List.length_map]; have := g.rows r hr; omega, fun d hd => ?_⟩
          obtain ⟨e, he, rfl⟩ := List.mem_map.mp hd
          cases e with
          | none => trivial
          | some e =>
            refine ⟨Nat.le_of_ble_eq_true rfl, fun d hd => ?_⟩
            rcases List.mem_cons.mp hd with rfl | hd
            · trivial
            · rcases List.mem_cons.mp hd with rfl | hd
              · trivial
              · rw [List.mem_singleton.mp hd]; trivial
      walk_at "st"
      intro H5 s5
      refine ⟨_, rfl, ?_⟩
      refine if_not ?_
      refine next_of ?_
      dsimp only
      refine seq_of ?_
      show tAsg (tLst (tPairs [(tC (.str (Str.ofString "")), V.int 0), (tC (.str (Str.ofString "1r0")), V.int 0), (tC (.str (Str.ofString "1r0 0l0 ")), V.int 8), (tC (.str (Str.ofString "1r0  0l0")), V.int 4), (tC (.str (Str.ofString "1x0 0l0")), V.int 0), (tC (.str (Str.ofString "1r0 0l")), V.int 4)])) (gName 4) _ _ _
      refine rows_first (qs := qs1) (.cons ⟨evs_c, rfl⟩ (.cons ⟨evs_c, rfl⟩ (.cons ⟨evs_c, rfl⟩ (.cons ⟨evs_c, rfl⟩ (.cons ⟨evs_c, rfl⟩ (.cons ⟨evs_c, rfl⟩ .nil)))))) (by decide) (fun as1 R1 H6 s6 p1 e1 l1 => ?_)
      dsimp only
      refine seq_of ?_
      show tAsg (tOp rCat (tVar 4) (tLst (tPairs [(tC (.str (Str.ofString "2r0 0l0")), V.int 0), (tC (.str (Str.ofString "1r1 0l0")), V.int 0), (tC (.str (Str.ofString "1r0 0l0 /")), V.int 0), (tC (.str (Str.ofString "/ 1r0 0l0")), V.int 0)]))) (gName 4) _ _ _
      refine rows_step (qs' := qs2) (.cons ⟨evs_c, rfl⟩ (.cons ⟨evs_c, rfl⟩ (.cons ⟨evs_c, rfl⟩ (.cons ⟨evs_c, rfl⟩ .nil)))) e1 p1 rfl (by rw [l1]; decide) (fun as2 R2 H7 s7 p2 e2 l2 => ?_)
      dsimp only
      refine seq_of ?_
      show tAsg (tOp rCat (tVar 4) (tLst (tPairs [(tC (.str (Str.ofString "- -")), V.non), (tC (.str (Str.ofString "- - / - - -")), V.int 0), ((tM1 (fun x xs H Q => ∃ a p, ∃ ys : List Str, x = .str a ∧ xs = [.ref p] ∧ (SqL K H p (ys.map V.str) ∨ SqT K H p (ys.map V.str)) ∧ (ys.map (·.length)).sum + ys.length * a.length ≤ 16777216 ∧ Q (.str (Txt.join a ys)) H) (tC (.str (Str.ofString " / "))) (tOp rRep (tLst (tCons (tC (.str (Str.ofString "- -"))) tNil)) (tC (.int 11)))), V.int 0), ((tM1 (fun x xs H Q => ∃ a p, ∃ ys : List Str, x = .str a ∧ xs = [.ref p] ∧ (SqL K H p (ys.map V.str) ∨ SqT K H p (ys.map V.str)) ∧ (ys.map (·.length)).sum + ys.length * a.length ≤ 16777216 ∧ Q (.str (Txt.join a ys)) H) (tC (.str (Str.ofString " / "))) (tOp rRep (tLst (tCons (tC (.str (Str.ofString "- -"))) tNil)) (tC (.int 10)))), V.non)]))) (gName 4) _ _ _
      refine rows_step (qs' := qs3) (.cons ⟨evs_c, rfl⟩ (.cons ⟨evs_c, rfl⟩ (.cons ⟨evs_dashes 11 rfl rfl (by decide) (by decide), rfl⟩ (.cons ⟨evs_dashes 10 rfl rfl (by decide) (by decide), rfl⟩ .nil)))) e2 p2 rfl (by rw [l2, l1]; decide) (fun as3 R3 H8 s8 p3 e3 l3 => ?_)
      dsimp only
      refine seq_of ?_
      show tAsg (tOp rCat (tVar 4) (tLst (tPairs [(tC (.str (Str.ofString "1r0 -- -")), V.int 4), (tC (.str (Str.ofString "10r0 -")), V.int 0), (tC (.str (Str.ofString "- - - - - -")), V.non), (tC (.str (Str.ofString "- - - - - - -")), V.int 0)]))) (gName 4) _ _ _
      refine rows_step (qs' := qs4) (.cons ⟨evs_c, rfl⟩ (.cons ⟨evs_c, rfl⟩ (.cons ⟨evs_c, rfl⟩ (.cons ⟨evs_c, rfl⟩ .nil)))) e3 p3 rfl (by rw [l3, l2, l1]; decide) (fun as4 R4 H9 s9 p4 e4 l4 => ?_)
      have hall := exp_all
      generalize qs1 ++ qs2 ++ qs3 ++ qs4 = qs at *
      walk_at "st"
      refine for_list (K := K) (a := R4) (xs := as4.map V.ref) (fun i σ H' => Ok (∃ y5 y6 y7 y8 y9 y10, σ = [some (.ref a), some (.ref r), some (.ref b), some (.str (tabS T')), some (.ref R4), y5, y6, y7, y8, y9, y10] ∧ Same H9 H')) ⟨_, _, _, _, _, _, rfl, Same.refl H9⟩ (fun i σ H' _ ⟨_, _, _, _, _, _, _, sm⟩ => SqL.of (sm _ _ e4)) ?_ ?_
      · rintro i x σ H' hx ⟨y5, y6, y7, y8, y9, y10, rfl, sm⟩
        have hi : i < as4.length := by
          have := (List.getElem?_eq_some_iff.mp hx).1
          rw [List.length_map] at this
          exact this
        have hxe : x = .ref as4[i] := by
          rw [List.getElem?_map, List.getElem?_eq_getElem hi] at hx
          exact (Option.some.inj hx).symm
        subst hxe
        obtain ⟨⟨s0, v0⟩, hq, ht⟩ := PairsAt.get p4 (List.getElem?_eq_getElem hi)
        have hexp := hall _ (List.mem_of_getElem? hq)
        unfold expB at hexp
        obtain ⟨hl9, hexp⟩ := Bool.and_eq_true_iff.mp hexp
        have hl9 : s0.length ≤ 900 := by rw [len_tl]; exact of_decide_eq_true hl9
        have ht := SqT.of (K := K) (sm _ _ ht)
        walk_at "st"
        refine ⟨fun T2 hT2 v2 H10 hv2 s10 => ?_, fun p hp d H10 nd s10 hd => ?_⟩
        · rw [readT_readL] at hT2
          have hexp : decide (v0 = V.non) = true := by
            have z := hexp
            dsimp only at z
            rw [hT2] at z
            exact z
          have hv0 : v0 = .non := of_decide_eq_true hexp
          subst hv0
          walk_at "st"
          intro H11 s11
          walk_at "st"
          exact ⟨_, _, _, _, _, _, rfl, Same.trans (Same.trans sm s10) s11⟩
        · rw [readT_readL] at hp
          have hexp : decide (v0 = V.int (p : Nat)) = true := by
            have z := hexp
            dsimp only at z
            rw [hp] at z
            exact z
          have hv0 : v0 = .int (p : Nat) := of_decide_eq_true hexp
          subst hv0
          refine ⟨true, hex, fun _ ea na => ?_, fun z => by cases z⟩
          have hkit := kit_self (K := K) (v := Value.ref CI)
          have hdok : DOk (some d) H10 := .inr ⟨d, _, rfl, hd⟩
          walk_at "st"
          intro H11 s11
          walk_at "st"
          exact ⟨_, _, _, _, _, _, rfl, Same.trans (Same.trans sm s10) s11⟩
      · rintro σ H' ⟨y5, y6, y7, y8, y9, y10, rfl, sm⟩
        walk_at "st"
        exact q _
end

theorem defAt_mk {K : PySem.W.Frag} {mg : Str → Option Value} {h : Heap} {x : Str} {st : Stmt} {ps : List Str} {f : Addr} {od an : Option Addr} {sl : Array (Option Value)} {oc kV dc pm cd ct : Value} (X : K.In h) (G : h.Ns mainGlobals mg) (a : PySem.W.nsIn K mainGlobals x = some (some (.ref f))) (l : K.lookup f = some ⟨oc, od, .func (PySem.W.fnOf x x (defArgs st) (defBody st) (defScope st) .none kV dc pm an cd ct), sl⟩) (c : PySem.W.codeIn K cd x = true) (k : PySem.W.keepIn K (.ref f) = true)
    (hb : ∀ (kV doc pm : Value) (an : Option Addr) (cdv ct : Value) (us : List Value), us.length = ps.length → bindArgs (PySem.W.fnOf x x (defArgs st) (defBody st) (defScope st) .none kV doc pm an cdv ct) ⟨us, []⟩ = pure (ps.zip us)) : DefAt K mg x st ps := by
  have F := fun_mk (st := st) l c k
  exact ⟨f, _, F, PySem.W.mg_of X G a, F.binds hb⟩
theorem metAt_mk {K : PySem.W.Frag} {C : Addr} {m qual : Str} {st : Stmt} {ps : List Str} {f : Addr} {od an : Option Addr} {sl : Array (Option Value)} {oc kV dc pm cd ct : Value} (a : PySem.W.findIn K (.ref C) m = some (some (.ref f))) (t : PySem.W.typeIn K (.ref f) = some (.type "function")) (l : K.lookup f = some ⟨oc, od, .func (PySem.W.fnOf m qual (defArgs st) (defBody st) (defScope st) .none kV dc pm an cd ct), sl⟩) (c : PySem.W.codeIn K cd qual = true) (k : PySem.W.keepIn K (.ref f) = true)
    (hb : ∀ (kV doc pm : Value) (an : Option Addr) (cdv ct : Value) (us : List Value), us.length = ps.length → bindArgs (PySem.W.fnOf m qual (defArgs st) (defBody st) (defScope st) .none kV doc pm an cdv ct) ⟨us, []⟩ = pure (ps.zip us)) : MetAt K C m qual st ps := by
  have F := fun_mk (st := st) l c k
  exact ⟨f, _, a, t, F, F.binds hb⟩
theorem all_mk {P : Program} {w : World} {K : PySem.W.Frag} {h : Heap} {mg : Str → Option Value} {fa : Addr} {f0 : Addr} {od0 an0 : Option Addr} {sl0 : Array (Option Value)} {oc0 kV0 dc0 pm0 cd0 ct0 : Value} {f1 : Addr} {od1 an1 : Option Addr} {sl1 : Array (Option Value)} {oc1 kV1 dc1 pm1 cd1 ct1 : Value} {f2 : Addr} {od2 an2 : Option Addr} {sl2 : Array (Option Value)} {oc2 kV2 dc2 pm2 cd2 ct2 : Value} {f3 : Addr} {od3 an3 : Option Addr} {sl3 : Array (Option Value)} {oc3 kV3 dc3 pm3 cd3 ct3 : Value} {f4 : Addr} {od4 an4 : Option Addr} {sl4 : Array (Option Value)} {oc4 kV4 dc4 pm4 cd4 ct4 : Value} {f5 : Addr} {od5 an5 : Option Addr} {sl5 : Array (Option Value)} {oc5 kV5 dc5 pm5 cd5 ct5 : Value} {f6 : Addr} {od6 an6 : Option Addr} {sl6 : Array (Option Value)} {oc6 kV6 dc6 pm6 cd6 ct6 : Value} {f7 : Addr} {od7 an7 : Option Addr} {sl7 : Array (Option Value)} {oc7 kV7 dc7 pm7 cd7 ct7 : Value} {f8 : Addr} {od8 an8 : Option Addr} {sl8 : Array (Option Value)} {oc8 kV8 dc8 pm8 cd8 ct8 : Value} {f9 : Addr} {od9 an9 : Option Addr} {sl9 : Array (Option Value)} {oc9 kV9 dc9 pm9 cd9 ct9 : Value} {f10 : Addr} {od10 an10 : Option Addr} {sl10 : Array (Option Value)} {oc10 kV10 dc10 pm10 cd10 ct10 : Value} {f11 : Addr} {od11 an11 : Option Addr} {sl11 : Array (Option Value)} {oc11 kV11 dc11 pm11 cd11 ct11 : Value} {f12 : Addr} {od12 an12 : Option Addr} {sl12 : Array (Option Value)} {oc12 kV12 dc12 pm12 cd12 ct12 : Value} {f13 : Addr} {od13 an13 : Option Addr} {sl13 : Array (Option Value)} {oc13 kV13 dc13 pm13 cd13 ct13 : Value} {t_MOST_STATES : Tok} {t_FEWEST_COLOURS : Tok} {t_MOST_COLOURS : Tok} {t_FIGURES : Tok} {t_TURNS : Tok} {C_InvalidText : Addr} {nm_InvalidText q_InvalidText : Str} {N_InvalidText : Addr} {bs_InvalidText bm_InvalidText : List Value} {sn_InvalidText : List Str} {sub_InvalidText : List Value} {ab_InvalidText : Bool} {col_InvalidText : Option Bool} {dd_InvalidText : Option Addr} {m0_InvalidText m1_InvalidText m2_InvalidText m3_InvalidText m5_InvalidText : Option Value} {fI_InvalidText : Addr} {odI_InvalidText anI_InvalidText : Option Addr} {slI_InvalidText : Array (Option Value)} {ocI_InvalidText kVI_InvalidText dcI_InvalidText pmI_InvalidText cdI_InvalidText ctI_InvalidText : Value} {CW : Addr} (X : K.In h) (G : h.Ns mainGlobals mg) (hfa : mg "law" = some (.ref fa))
    (a0 : PySem.W.nsIn K mainGlobals "is_whole" = some (some (.ref f0)))
    (l0 : K.lookup f0 = some ⟨oc0, od0, .func (PySem.W.fnOf "is_whole" "is_whole" (defArgs s_is_whole) (defBody s_is_whole) (defScope s_is_whole) .none kV0 dc0 pm0 an0 cd0 ct0), sl0⟩)
    (c0 : PySem.W.codeIn K cd0 "is_whole" = true)
    (k0 : PySem.W.keepIn K (.ref f0) = true)
    (a1 : PySem.W.nsIn K mainGlobals "check_text" = some (some (.ref f1)))
    (l1 : K.lookup f1 = some ⟨oc1, od1, .func (PySem.W.fnOf "check_text" "check_text" (defArgs s_check_text) (defBody s_check_text) (defScope s_check_text) .none kV1 dc1 pm1 an1 cd1 ct1), sl1⟩)
    (c1 : PySem.W.codeIn K cd1 "check_text" = true)
    (k1 : PySem.W.keepIn K (.ref f1) = true)
    (a2 : PySem.W.nsIn K mainGlobals "write_table" = some (some (.ref f2)))
    (l2 : K.lookup f2 = some ⟨oc2, od2, .func (PySem.W.fnOf "write_table" "write_table" (defArgs s_write_table) (defBody s_write_table) (defScope s_write_table) .none kV2 dc2 pm2 an2 cd2 ct2), sl2⟩)
    (c2 : PySem.W.codeIn K cd2 "write_table" = true)
    (k2 : PySem.W.keepIn K (.ref f2) = true)
    (a3 : PySem.W.nsIn K mainGlobals "read_table" = some (some (.ref f3)))
    (l3 : K.lookup f3 = some ⟨oc3, od3, .func (PySem.W.fnOf "read_table" "read_table" (defArgs s_read_table) (defBody s_read_table) (defScope s_read_table) .none kV3 dc3 pm3 an3 cd3 ct3), sl3⟩)
    (c3 : PySem.W.codeIn K cd3 "read_table" = true)
    (k3 : PySem.W.keepIn K (.ref f3) = true)
    (a4 : PySem.W.nsIn K mainGlobals "check_table" = some (some (.ref f4)))
    (l4 : K.lookup f4 = some ⟨oc4, od4, .func (PySem.W.fnOf "check_table" "check_table" (defArgs s_check_table) (defBody s_check_table) (defScope s_check_table) .none kV4 dc4 pm4 an4 cd4 ct4), sl4⟩)
    (c4 : PySem.W.codeIn K cd4 "check_table" = true)
    (k4 : PySem.W.keepIn K (.ref f4) = true)
    (a5 : PySem.W.nsIn K mainGlobals "is_table" = some (some (.ref f5)))
    (l5 : K.lookup f5 = some ⟨oc5, od5, .func (PySem.W.fnOf "is_table" "is_table" (defArgs s_is_table) (defBody s_is_table) (defScope s_is_table) .none kV5 dc5 pm5 an5 cd5 ct5), sl5⟩)
    (c5 : PySem.W.codeIn K cd5 "is_table" = true)
    (k5 : PySem.W.keepIn K (.ref f5) = true)
    (a6 : PySem.W.nsIn K mainGlobals "_is_entry" = some (some (.ref f6)))
    (l6 : K.lookup f6 = some ⟨oc6, od6, .func (PySem.W.fnOf "_is_entry" "_is_entry" (defArgs s_u_is_entry) (defBody s_u_is_entry) (defScope s_u_is_entry) .none kV6 dc6 pm6 an6 cd6 ct6), sl6⟩)
    (c6 : PySem.W.codeIn K cd6 "_is_entry" = true)
    (k6 : PySem.W.keepIn K (.ref f6) = true)
    (a7 : PySem.W.nsIn K mainGlobals "_word_of" = some (some (.ref f7)))
    (l7 : K.lookup f7 = some ⟨oc7, od7, .func (PySem.W.fnOf "_word_of" "_word_of" (defArgs s_u_word_of) (defBody s_u_word_of) (defScope s_u_word_of) .none kV7 dc7 pm7 an7 cd7 ct7), sl7⟩)
    (c7 : PySem.W.codeIn K cd7 "_word_of" = true)
    (k7 : PySem.W.keepIn K (.ref f7) = true)
    (a8 : PySem.W.nsIn K mainGlobals "_is_word" = some (some (.ref f8)))
    (l8 : K.lookup f8 = some ⟨oc8, od8, .func (PySem.W.fnOf "_is_word" "_is_word" (defArgs s_u_is_word) (defBody s_u_is_word) (defScope s_u_is_word) .none kV8 dc8 pm8 an8 cd8 ct8), sl8⟩)
    (c8 : PySem.W.codeIn K cd8 "_is_word" = true)
    (k8 : PySem.W.keepIn K (.ref f8) = true)
    (a9 : PySem.W.nsIn K mainGlobals "_entry_of" = some (some (.ref f9)))
    (l9 : K.lookup f9 = some ⟨oc9, od9, .func (PySem.W.fnOf "_entry_of" "_entry_of" (defArgs s_u_entry_of) (defBody s_u_entry_of) (defScope s_u_entry_of) .none kV9 dc9 pm9 an9 cd9 ct9), sl9⟩)
    (c9 : PySem.W.codeIn K cd9 "_entry_of" = true)
    (k9 : PySem.W.keepIn K (.ref f9) = true)
    (a10 : PySem.W.nsIn K mainGlobals "_law_taken" = some (some (.ref f10)))
    (l10 : K.lookup f10 = some ⟨oc10, od10, .func (PySem.W.fnOf "_law_taken" "_law_taken" (defArgs s_law_taken) (defBody s_law_taken) (defScope s_law_taken) .none kV10 dc10 pm10 an10 cd10 ct10), sl10⟩)
    (c10 : PySem.W.codeIn K cd10 "_law_taken" = true)
    (k10 : PySem.W.keepIn K (.ref f10) = true)
    (a11 : PySem.W.nsIn K mainGlobals "_law_table" = some (some (.ref f11)))
    (l11 : K.lookup f11 = some ⟨oc11, od11, .func (PySem.W.fnOf "_law_table" "_law_table" (defArgs s_law_table) (defBody s_law_table) (defScope s_law_table) .none kV11 dc11 pm11 an11 cd11 ct11), sl11⟩)
    (c11 : PySem.W.codeIn K cd11 "_law_table" = true)
    (k11 : PySem.W.keepIn K (.ref f11) = true)
    (a12 : PySem.W.nsIn K mainGlobals "_law_alike" = some (some (.ref f12)))
    (l12 : K.lookup f12 = some ⟨oc12, od12, .func (PySem.W.fnOf "_law_alike" "_law_alike" (defArgs s_law_alike) (defBody s_law_alike) (defScope s_law_alike) .none kV12 dc12 pm12 an12 cd12 ct12), sl12⟩)
    (c12 : PySem.W.codeIn K cd12 "_law_alike" = true)
    (k12 : PySem.W.keepIn K (.ref f12) = true)
    (a13 : PySem.W.nsIn K mainGlobals "law" = some (some (.ref f13)))
    (l13 : K.lookup f13 = some ⟨oc13, od13, .func (PySem.W.fnOf "law" "law" (defArgs s_law) (defBody s_law) (defScope s_law) .none kV13 dc13 pm13 an13 cd13 ct13), sl13⟩)
    (c13 : PySem.W.codeIn K cd13 "law" = true)
    (k13 : PySem.W.keepIn K (.ref f13) = true)
    (z_ValueError : PySem.W.nsIn K mainGlobals "ValueError" = some none)
    (z_all : PySem.W.nsIn K mainGlobals "all" = some none)
    (z_bool : PySem.W.nsIn K mainGlobals "bool" = some none)
    (z_int : PySem.W.nsIn K mainGlobals "int" = some none)
    (z_isinstance : PySem.W.nsIn K mainGlobals "isinstance" = some none)
    (z_len : PySem.W.nsIn K mainGlobals "len" = some none)
    (z_list : PySem.W.nsIn K mainGlobals "list" = some none)
    (z_range : PySem.W.nsIn K mainGlobals "range" = some none)
    (z_str : PySem.W.nsIn K mainGlobals "str" = some none)
    (z_tuple : PySem.W.nsIn K mainGlobals "tuple" = some none)
    (g_MOST_STATES : PySem.W.nsIn K mainGlobals "MOST_STATES" = some (some (.int 10 t_MOST_STATES)))
    (g_FEWEST_COLOURS : PySem.W.nsIn K mainGlobals "FEWEST_COLOURS" = some (some (.int 2 t_FEWEST_COLOURS)))
    (g_MOST_COLOURS : PySem.W.nsIn K mainGlobals "MOST_COLOURS" = some (some (.int 6 t_MOST_COLOURS)))
    (g_FIGURES : PySem.W.nsIn K mainGlobals "FIGURES" = some (some (.str "0123456789" t_FIGURES)))
    (g_TURNS : PySem.W.nsIn K mainGlobals "TURNS" = some (some (.str "arbl" t_TURNS)))
    (a_InvalidText : PySem.W.nsIn K mainGlobals "InvalidText" = some (some (.ref C_InvalidText)))
    (xL_InvalidText : K.lookup C_InvalidText = some (PySem.excClassObj nm_InvalidText q_InvalidText C_InvalidText N_InvalidText bs_InvalidText bm_InvalidText true sn_InvalidText sub_InvalidText ab_InvalidText col_InvalidText dd_InvalidText m0_InvalidText m1_InvalidText m2_InvalidText m3_InvalidText m5_InvalidText "ValueError.__new__"))
    (rv_InvalidText : PySem.HandSPX.refsVE bm_InvalidText = true)
    (sa_InvalidText : PySem.W.findIn K (.ref C_InvalidText) "__setattr__" = some (some (.builtin "object.__setattr__")))
    (ga_InvalidText : PySem.W.findIn K (.ref C_InvalidText) "__getattribute__" = some (some (.builtin "BaseException.__getattribute__")))
    (gg_InvalidText : PySem.W.findIn K (.ref C_InvalidText) "__getattr__" = some none)
    (ha_InvalidText : PySem.W.findIn K (.ref C_InvalidText) "__class__" = some (some (.builtin "object.__class__")))
    (eC_InvalidText : PySem.W.subIn K (.ref C_InvalidText) (.type "BaseException") = some true)
    (tC_InvalidText : PySem.W.typeIn K (.ref C_InvalidText) = some (.type "type"))
    (kC_InvalidText : PySem.W.keepIn K (.ref C_InvalidText) = true)
    (hC_InvalidText : PySem.W.hasDictIn K C_InvalidText = true)
    (hm_InvalidText : PySem.W.mroIn K C_InvalidText (.type "object") = some true)
    (iA_InvalidText : PySem.W.findIn K (.ref C_InvalidText) "__init__" = some (some (.ref fI_InvalidText)))
    (iT_InvalidText : PySem.W.typeIn K (.ref fI_InvalidText) = some (.type "function"))
    (iL_InvalidText : K.lookup fI_InvalidText = some ⟨ocI_InvalidText, odI_InvalidText, .func (PySem.W.fnOf "__init__" "InvalidText.__init__" (defArgs s_InvalidText_init) (defBody s_InvalidText_init) (defScope s_InvalidText_init) .none kVI_InvalidText dcI_InvalidText pmI_InvalidText anI_InvalidText cdI_InvalidText ctI_InvalidText), slI_InvalidText⟩)
    (iC_InvalidText : PySem.W.codeIn K cdI_InvalidText "InvalidText.__init__" = true)
    (iK_InvalidText : PySem.W.keepIn K (.ref fI_InvalidText) = true)
    (no_InvalidText : PySem.W.findIn K (.ref C_InvalidText) "place" = some none)
    (xhn : PySem.W.specialIn K (.builtin "object.__class__") "__get__" = some (some (.builtin "getset_descriptor.__get__")))
    (xht : PySem.W.takesIn K (.builtin "object.__class__") = some true)
    (wA : PySem.W.nsIn K mainGlobals "WalkError" = some (some (.ref CW)))
    (wE : PySem.W.subIn K (.ref CW) (.type "BaseException") = some true)
    (wD : PySem.W.hasDictIn K CW = true)
    (wT : PySem.W.typeIn K (.ref CW) = some (.type "type"))
    (wS_InvalidText : PySem.W.subIn K (.ref C_InvalidText) (.ref CW) = some true)
    : ∃ fd : FuncData, (∀ (s : Shared) (v : Value), BindsTo s fd ⟨[v], []⟩ [("script", v)]) ∧ ∀ base : Heap, K.In base → base.Ns mainGlobals mg → FnOk P w K mg base CX0 7 fa fd ["script"] (spLaw K) := by
  have e := hfa.symm.trans (PySem.W.mg_of X G a13)
  cases e
  have D_is_whole : DefAt K mg "is_whole" s_is_whole ["value", "least", "greatest"] := defAt_mk X G a0 l0 c0 k0 (fun _ _ _ _ _ _ us hl => match us, hl with | [_, _, _], _ => rfl)
  have D_check_text : DefAt K mg "check_text" s_check_text ["value"] := defAt_mk X G a1 l1 c1 k1 (fun _ _ _ _ _ _ us hl => match us, hl with | [_], _ => rfl)
  have D_write_table : DefAt K mg "write_table" s_write_table ["table"] := defAt_mk X G a2 l2 c2 k2 (fun _ _ _ _ _ _ us hl => match us, hl with | [_], _ => rfl)
  have D_read_table : DefAt K mg "read_table" s_read_table ["text"] := defAt_mk X G a3 l3 c3 k3 (fun _ _ _ _ _ _ us hl => match us, hl with | [_], _ => rfl)
  have D_check_table : DefAt K mg "check_table" s_check_table ["value"] := defAt_mk X G a4 l4 c4 k4 (fun _ _ _ _ _ _ us hl => match us, hl with | [_], _ => rfl)
  have D_is_table : DefAt K mg "is_table" s_is_table ["value"] := defAt_mk X G a5 l5 c5 k5 (fun _ _ _ _ _ _ us hl => match us, hl with | [_], _ => rfl)
  have D_is_entry : DefAt K mg "_is_entry" s_u_is_entry ["value", "colours", "states"] := defAt_mk X G a6 l6 c6 k6 (fun _ _ _ _ _ _ us hl => match us, hl with | [_, _, _], _ => rfl)
  have D_word_of : DefAt K mg "_word_of" s_u_word_of ["entry"] := defAt_mk X G a7 l7 c7 k7 (fun _ _ _ _ _ _ us hl => match us, hl with | [_], _ => rfl)
  have D_is_word : DefAt K mg "_is_word" s_u_is_word ["word"] := defAt_mk X G a8 l8 c8 k8 (fun _ _ _ _ _ _ us hl => match us, hl with | [_], _ => rfl)
  have D_entry_of : DefAt K mg "_entry_of" s_u_entry_of ["word"] := defAt_mk X G a9 l9 c9 k9 (fun _ _ _ _ _ _ us hl => match us, hl with | [_], _ => rfl)
  have D_law_taken : DefAt K mg "_law_taken" s_law_taken ["row", "many"] := defAt_mk X G a10 l10 c10 k10 (fun _ _ _ _ _ _ us hl => match us, hl with | [_, _], _ => rfl)
  have D_law_table : DefAt K mg "_law_table" s_law_table ["row"] := defAt_mk X G a11 l11 c11 k11 (fun _ _ _ _ _ _ us hl => match us, hl with | [_], _ => rfl)
  have D_law_alike : DefAt K mg "_law_alike" s_law_alike ["found", "due"] := defAt_mk X G a12 l12 c12 k12 (fun _ _ _ _ _ _ us hl => match us, hl with | [_, _], _ => rfl)
  have F_law : Fun K "law" "law" s_law _ _ := fun_mk (st := s_law) l13 c13 k13
  have T : Txt K mg := ⟨PySem.W.mg_none_of X G z_ValueError, PySem.W.mg_none_of X G z_all, PySem.W.mg_none_of X G z_bool, PySem.W.mg_none_of X G z_int, PySem.W.mg_none_of X G z_isinstance, PySem.W.mg_none_of X G z_len, PySem.W.mg_none_of X G z_list, PySem.W.mg_none_of X G z_range, PySem.W.mg_none_of X G z_str, PySem.W.mg_none_of X G z_tuple, ⟨_, PySem.W.mg_of X G g_MOST_STATES⟩, ⟨_, PySem.W.mg_of X G g_FEWEST_COLOURS⟩, ⟨_, PySem.W.mg_of X G g_MOST_COLOURS⟩, ⟨_, PySem.W.mg_of X G g_FIGURES⟩, ⟨_, PySem.W.mg_of X G g_TURNS⟩⟩
  have T_InvalidText : ExcCls K mg "InvalidText" C_InvalidText := ⟨PySem.W.mg_of X G a_InvalidText, ⟨⟨nm_InvalidText, q_InvalidText, N_InvalidText, bs_InvalidText, bm_InvalidText, sn_InvalidText, sub_InvalidText, ab_InvalidText, col_InvalidText, dd_InvalidText, m0_InvalidText, m1_InvalidText, m2_InvalidText, m3_InvalidText, m5_InvalidText, xL_InvalidText, rv_InvalidText⟩, sa_InvalidText, eC_InvalidText, tC_InvalidText, kC_InvalidText⟩, ⟨ga_InvalidText, gg_InvalidText, eC_InvalidText, hC_InvalidText⟩, ha_InvalidText, xhn, xht, hm_InvalidText⟩
  have M_InvalidText : MetAt K C_InvalidText "__init__" "InvalidText.__init__" s_InvalidText_init ["self", "place"] := metAt_mk iA_InvalidText iT_InvalidText iL_InvalidText iC_InvalidText iK_InvalidText (fun _ _ _ _ _ _ us hl => match us, hl with | [_, _], _ => rfl)
  have hex_InvalidText := PySem.W.exm_ref wE wD wT wS_InvalidText
  have gW := PySem.W.mg_of X G wA
  refine ⟨PySem.W.fnOf "law" "law" (defArgs s_law) (defBody s_law) (defScope s_law) .none kV13 dc13 pm13 an13 cd13 ct13, fun s v => .of_eq rfl, fun base hb hg => ?_⟩
  have C_law_taken := ok_law_taken (P := P) (w := w) (base := base) T D_law_taken
  have C_law_table := ok_law_table T D_law_table C_law_taken
  have C_is_whole := ok_is_whole (P := P) (w := w) (base := base) T D_is_whole
  have C_is_entry := ok_u_is_entry T D_is_entry C_is_whole
  have C_is_table := ok_is_table T D_is_table C_is_entry
  have C_check_table := ok_check_table T D_check_table C_is_table
  have C_word_of := ok_u_word_of (P := P) (w := w) (base := base) T D_word_of
  have C_write_table := ok_write_table T D_write_table C_check_table C_word_of
  have C_law_alike := ok_law_alike (P := P) (w := w) (base := base) T D_law_alike 5
  have C_check_text := ok_check_text (P := P) (w := w) (base := base) T D_check_text
  have C_is_word := ok_u_is_word (P := P) (w := w) (base := base) T D_is_word
  have C_entry_of := ok_u_entry_of (P := P) (w := w) (base := base) T D_entry_of
  have FI := ok_InvalidText_init (P := P) (w := w) (mg := mg) (base := base) M_InvalidText T_InvalidText.oex no_InvalidText
  have C_read_table := ok_read_table T T_InvalidText FI D_read_table C_check_text C_is_word C_entry_of C_is_table
  exact ok_law T T_InvalidText FI gW hex_InvalidText F_law C_law_table C_law_alike C_write_table C_read_table
end Sb
open PySem PySem.W PyProof.Rows
set_option maxHeartbeats 0 in
theorem PySem.Challenge.cw_streetpapers_k00_whole_tables_holds : PySem.Challenge.rw_streetpapers_k00_whole_tables.Holds := by
  w_on; o_law; k_head; (case hw => w_witness2)
  k_fill
  refine L2.walk_of (l := PySem.Challenge.rw_streetpapers_k00_whole_tables) (n := 63) (k := 7) (x := "script") (CX := fun _ => L2.CX0) (sp := fun w => Sb.spLaw _) rfl (by decide) rfl ⟨rfl, by decide, by decide⟩ (fun w h Y => PySem.W.kIn_of Y) ?F (fun _ _ a ns hl o hS => ⟨a, ns, rfl, Sb.Scr.of o hS, fun _ => rfl⟩) (fun _ _ _ _ _ h => h)
  case F =>
    intro w mg fa h KX G hmg
    refine' Sb.all_mk KX G hmg ?a0 ?l0 ?c0 ?k0 ?a1 ?l1 ?c1 ?k1 ?a2 ?l2 ?c2 ?k2 ?a3 ?l3 ?c3 ?k3 ?a4 ?l4 ?c4 ?k4 ?a5 ?l5 ?c5 ?k5 ?a6 ?l6 ?c6 ?k6 ?a7 ?l7 ?c7 ?k7 ?a8 ?l8 ?c8 ?k8 ?a9 ?l9 ?c9 ?k9 ?a10 ?l10 ?c10 ?k10 ?a11 ?l11 ?c11 ?k11 ?a12 ?l12 ?c12 ?k12 ?a13 ?l13 ?c13 ?k13 ?z_ValueError ?z_all ?z_bool ?z_int ?z_isinstance ?z_len ?z_list ?z_range ?z_str ?z_tuple ?g_MOST_STATES ?g_FEWEST_COLOURS ?g_MOST_COLOURS ?g_FIGURES ?g_TURNS ?a_InvalidText ?xL_InvalidText ?rv_InvalidText ?sa_InvalidText ?ga_InvalidText ?gg_InvalidText ?ha_InvalidText ?eC_InvalidText ?tC_InvalidText ?kC_InvalidText ?hC_InvalidText ?hm_InvalidText ?iA_InvalidText ?iT_InvalidText ?iL_InvalidText ?iC_InvalidText ?iK_InvalidText ?no_InvalidText ?xhn ?xht ?wA ?wE ?wD ?wT ?wS_InvalidText
    (case a0 => k_is)
    (case l0 => k_is)
    (case c0 => k_is)
    (case k0 => k_is)
    (case a1 => k_is)
    (case l1 => k_is)
    (case c1 => k_is)
    (case k1 => k_is)
    (case a2 => k_is)
    (case l2 => k_is)
    (case c2 => k_is)
    (case k2 => k_is)
    (case a3 => k_is)
    (case l3 => k_is)
    (case c3 => k_is)
    (case k3 => k_is)
    (case a4 => k_is)
    (case l4 => k_is)
    (case c4 => k_is)
    (case k4 => k_is)
    (case a5 => k_is)
    (case l5 => k_is)
    (case c5 => k_is)
    (case k5 => k_is)
    (case a6 => k_is)
    (case l6 => k_is)
    (case c6 => k_is)
    (case k6 => k_is)
    (case a7 => k_is)
    (case l7 => k_is)
    (case c7 => k_is)
    (case k7 => k_is)
    (case a8 => k_is)
    (case l8 => k_is)
    (case c8 => k_is)
    (case k8 => k_is)
    (case a9 => k_is)
    (case l9 => k_is)
    (case c9 => k_is)
    (case k9 => k_is)
    (case a10 => k_is)
    (case l10 => k_is)
    (case c10 => k_is)
    (case k10 => k_is)
    (case a11 => k_is)
    (case l11 => k_is)
    (case c11 => k_is)
    (case k11 => k_is)
    (case a12 => k_is)
    (case l12 => k_is)
    (case c12 => k_is)
    (case k12 => k_is)
    (case a13 => k_is)
    (case l13 => k_is)
    (case c13 => k_is)
    (case k13 => k_is)
    (case z_ValueError => k_is)
    (case z_all => k_is)
    (case z_bool => k_is)
    (case z_int => k_is)
    (case z_isinstance => k_is)
    (case z_len => k_is)
    (case z_list => k_is)
    (case z_range => k_is)
    (case z_str => k_is)
    (case z_tuple => k_is)
    (case g_MOST_STATES => k_is)
    (case g_FEWEST_COLOURS => k_is)
    (case g_MOST_COLOURS => k_is)
    (case g_FIGURES => k_is)
    (case g_TURNS => k_is)
    (case a_InvalidText => k_is)
    (case xL_InvalidText => k_is)
    (case rv_InvalidText => decide +kernel)
    (case sa_InvalidText => k_is)
    (case ga_InvalidText => k_is)
    (case gg_InvalidText => k_is)
    (case ha_InvalidText => k_is)
    (case eC_InvalidText => k_is)
    (case tC_InvalidText => k_is)
    (case kC_InvalidText => k_is)
    (case hC_InvalidText => k_is)
    (case hm_InvalidText => k_is)
    (case iA_InvalidText => k_is)
    (case iT_InvalidText => k_is)
    (case iL_InvalidText => k_is)
    (case iC_InvalidText => k_is)
    (case iK_InvalidText => k_is)
    (case no_InvalidText => k_is)
    (case xhn => k_is)
    (case xht => k_is)
    (case wA => k_is)
    (case wE => k_is)
    (case wD => k_is)
    (case wT => k_is)
    (case wS_InvalidText => k_is)
